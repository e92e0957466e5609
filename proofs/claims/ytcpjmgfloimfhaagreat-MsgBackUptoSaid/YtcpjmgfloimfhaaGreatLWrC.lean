/- writeControl. By an AI agent. -/
import Derived.Test.YtcpjmgfloimfhaaGreatLWrF
set_option linter.unusedSimpArgs false
set_option linter.unusedVariables false
set_option maxRecDepth 100000
set_option maxHeartbeats 32000000
namespace Go.Proofs.YtcpjmgfloimfhaaGreat
open Go.RowKit
def controlW (c:Ct):List UInt8:=Ber.fieldOf 0x30 (Ber.fieldOf 4 c.oid++(if c.crit then Ber.fieldOf 1 [255] else [])++(if c.hasv then Ber.fieldOf 4 c.value else []))
theorem wcontrol_false_false (oid val:List UInt8) (ho:oid.length<=2000000) (hv:val.length<=2000000) (w:World):
  Calls Tryz.prog 66 #[.agg #[.string (txt oid),.bool false,.bool false,.string (txt val)]] w (WPost (controlW ⟨oid,false,false,val⟩) w):=by
 have hb1:Below w.heap.size w (w.alloc (.cells #[.string (txt oid),.bool false,.bool false,.string (txt val)] 67)):=(Below.refl _ _).alloc (Nat.le_refl _) _
 have hB1:Blk (w.alloc (.cells #[.string (txt oid),.bool false,.bool false,.string (txt val)] 67)) w.heap.size [.string (txt oid),.bool false,.bool false,.string (txt val)]:=Blk.new w [.string (txt oid),.bool false,.bool false,.string (txt val)] 67
 obtain⟨w1,hw1⟩:∃w1,w.alloc (.cells #[.string (txt oid),.bool false,.bool false,.string (txt val)] 67)=w1:=⟨_,rfl⟩
 rw[hw1] at hb1 hB1
 obtain⟨p1,hp1⟩:∃p1,w.heap.size=p1:=⟨_,rfl⟩
 rw[hp1] at hB1
 have K1:Hid (∀W,Below w1.heap.size w1 W->W.cell? ⟨p1,1,none⟩=some (.bool false)):=hide fun W hW=>(hB1.fr (Fr.of (X:=fun _=>False) hW) id).cells 1 _ rfl
 have K2:Hid (∀W,Below w1.heap.size w1 W->W.cell? ⟨p1,2,none⟩=some (.bool false)):=hide fun W hW=>(hB1.fr (Fr.of (X:=fun _=>False) hW) id).cells 2 _ rfl
 have K3:Hid (∀W,Below w1.heap.size w1 W->W.cell? ⟨p1,3,none⟩=some (.string (txt val))):=hide fun W hW=>(hB1.fr (Fr.of (X:=fun _=>False) hW) id).cells 3 _ rfl
 have k0:w1.cell? ⟨p1,0,none⟩=some (.string (txt oid)):=hB1.cells 0 _ rfl
 have HT:Hid (∀W,Calls Tryz.prog 101 #[.string (txt oid)] W (WPost (Ber.fieldOf 4 oid) W)):=hide fun W=>zA0 oid (by omega) W
 have HV:Hid (∀W,Calls Tryz.prog 101 #[.string (txt val)] W (WPost (Ber.fieldOf 4 val) W)):=hide fun W=>zA0 val (by omega) W
 have HFl:Hid (∀W,Calls Tryz.prog 113 #[.bool true] W (WPost (Ber.fieldOf 1 [255]) W)):=hide fun W=>wflag_any true W
 have h1:=zAk ho 4
 have h2:=zAk hv 4
 have hf:(Ber.fieldOf 1 [255]).length<=10:=by decide
 have hgo:controlW ⟨oid,false,false,val⟩=Ber.fieldOf 0x30 (Ber.fieldOf 4 oid):=by simp[controlW]
 rw[hgo]
 obtain⟨l1,hl1⟩:∃l1,Ber.fieldOf 4 oid=l1:=⟨_,rfl⟩
 obtain⟨l2,hl2⟩:∃l2,Ber.fieldOf 4 val=l2:=⟨_,rfl⟩
 obtain⟨lf,hlf⟩:∃lf,Ber.fieldOf 1 [255]=lf:=⟨_,rfl⟩
 rw[hl1] at HT h1
 rw[hl2] at HV h2
 rw[hlf] at HFl hf
 rw[hl1]
 obtain⟨bb,hbb⟩:∃bb,l1=bb:=⟨_,rfl⟩
 have hbl:bb.length<=5000000:=by rw[<-hbb];(try simp only[List.length_append]);omega
 obtain⟨bs,hbs⟩:∃bs,Ber.fieldOf 0x30 bb=bs:=⟨_,rfl⟩
 rw[hbb,hbs]
 have Hbb:=hide hbb
 have Hbs:=hide hbs
 have HBw:=hide hb1
 have Hw:=hide hw1
 have Hp:=hide hp1
 clear hb1 hB1 hw1 hp1 hgo hl1 hl2 hlf hbb hbs ho hv
 generalize txt oid=s0 at *
 generalize txt val=s1 at *
 go_enter Tryz.func66,Tryz.ntmps66
 go_upto_region 1 with fail
 rw[Hw.out]
 try rw[Hp.out]
 clear Hw
 go_wp2_with (go_at_call 101;fail)
 refine (HT.out w1).mono ?_
 rintro e w2 hpost
 obtain⟨v1,rfl,hown,hb⟩:=hpost.out
 have HO2:=hide hown
 have HB2:=hide hb
 clear hpost hown hb k0
 have hcur:l1=bb:=Hbb.out
 subst hcur
 have k1:=K1.out _ HB2.out
 have k2:=K2.out _ HB2.out
 have hfi:=zA8 (t:=0x30) (zAg HO2.out HBw.out.size) (HBw.out.trans (HB2.out.mono HBw.out.size)) (by omega)
 rw[Hbs.out] at hfi
 have Hfi:=hide hfi
 clear hfi HO2
 go_wp2_with (go_at_call 62;fail)
 refine Hfi.out.mono ?_
 rintro e w9 hpost
 obtain⟨v,rfl,hown,hb⟩:=hpost.out
 have HO:=hide hown
 have HB:=hide hb
 clear hpost hown hb Hfi k1 k2
 go_wp2
 go_ret
 exact⟨⟨_,rfl,HO.out,HB.out⟩⟩
theorem wcontrol_false_true (oid val:List UInt8) (ho:oid.length<=2000000) (hv:val.length<=2000000) (w:World):
  Calls Tryz.prog 66 #[.agg #[.string (txt oid),.bool false,.bool true,.string (txt val)]] w (WPost (controlW ⟨oid,false,true,val⟩) w):=by
 have hb1:Below w.heap.size w (w.alloc (.cells #[.string (txt oid),.bool false,.bool true,.string (txt val)] 67)):=(Below.refl _ _).alloc (Nat.le_refl _) _
 have hB1:Blk (w.alloc (.cells #[.string (txt oid),.bool false,.bool true,.string (txt val)] 67)) w.heap.size [.string (txt oid),.bool false,.bool true,.string (txt val)]:=Blk.new w [.string (txt oid),.bool false,.bool true,.string (txt val)] 67
 obtain⟨w1,hw1⟩:∃w1,w.alloc (.cells #[.string (txt oid),.bool false,.bool true,.string (txt val)] 67)=w1:=⟨_,rfl⟩
 rw[hw1] at hb1 hB1
 obtain⟨p1,hp1⟩:∃p1,w.heap.size=p1:=⟨_,rfl⟩
 rw[hp1] at hB1
 have K1:Hid (∀W,Below w1.heap.size w1 W->W.cell? ⟨p1,1,none⟩=some (.bool false)):=hide fun W hW=>(hB1.fr (Fr.of (X:=fun _=>False) hW) id).cells 1 _ rfl
 have K2:Hid (∀W,Below w1.heap.size w1 W->W.cell? ⟨p1,2,none⟩=some (.bool true)):=hide fun W hW=>(hB1.fr (Fr.of (X:=fun _=>False) hW) id).cells 2 _ rfl
 have K3:Hid (∀W,Below w1.heap.size w1 W->W.cell? ⟨p1,3,none⟩=some (.string (txt val))):=hide fun W hW=>(hB1.fr (Fr.of (X:=fun _=>False) hW) id).cells 3 _ rfl
 have k0:w1.cell? ⟨p1,0,none⟩=some (.string (txt oid)):=hB1.cells 0 _ rfl
 have HT:Hid (∀W,Calls Tryz.prog 101 #[.string (txt oid)] W (WPost (Ber.fieldOf 4 oid) W)):=hide fun W=>zA0 oid (by omega) W
 have HV:Hid (∀W,Calls Tryz.prog 101 #[.string (txt val)] W (WPost (Ber.fieldOf 4 val) W)):=hide fun W=>zA0 val (by omega) W
 have HFl:Hid (∀W,Calls Tryz.prog 113 #[.bool true] W (WPost (Ber.fieldOf 1 [255]) W)):=hide fun W=>wflag_any true W
 have h1:=zAk ho 4
 have h2:=zAk hv 4
 have hf:(Ber.fieldOf 1 [255]).length<=10:=by decide
 have hgo:controlW ⟨oid,false,true,val⟩=Ber.fieldOf 0x30 (Ber.fieldOf 4 oid++Ber.fieldOf 4 val):=by simp[controlW]
 rw[hgo]
 obtain⟨l1,hl1⟩:∃l1,Ber.fieldOf 4 oid=l1:=⟨_,rfl⟩
 obtain⟨l2,hl2⟩:∃l2,Ber.fieldOf 4 val=l2:=⟨_,rfl⟩
 obtain⟨lf,hlf⟩:∃lf,Ber.fieldOf 1 [255]=lf:=⟨_,rfl⟩
 rw[hl1] at HT h1
 rw[hl2] at HV h2
 rw[hlf] at HFl hf
 rw[hl1,hl2]
 obtain⟨bb,hbb⟩:∃bb,l1++l2=bb:=⟨_,rfl⟩
 have hbl:bb.length<=5000000:=by rw[<-hbb];(try simp only[List.length_append]);omega
 obtain⟨bs,hbs⟩:∃bs,Ber.fieldOf 0x30 bb=bs:=⟨_,rfl⟩
 rw[hbb,hbs]
 have Hbb:=hide hbb
 have Hbs:=hide hbs
 have HBw:=hide hb1
 have Hw:=hide hw1
 have Hp:=hide hp1
 clear hb1 hB1 hw1 hp1 hgo hl1 hl2 hlf hbb hbs ho hv
 generalize txt oid=s0 at *
 generalize txt val=s1 at *
 go_enter Tryz.func66,Tryz.ntmps66
 go_upto_region 1 with fail
 rw[Hw.out]
 try rw[Hp.out]
 clear Hw
 go_wp2_with (go_at_call 101;fail)
 refine (HT.out w1).mono ?_
 rintro e w2 hpost
 obtain⟨v1,rfl,hown,hb⟩:=hpost.out
 have HO2:=hide hown
 have HB2:=hide hb
 clear hpost hown hb k0
 have Hy2:Hid (l1++l2=bb):=hide (by rw[<-Hbb.out])
 have Hl2:Hid (l1.length+l2.length=bb.length):=hide (by rw[<-Hy2.out,List.length_append])
 have k1:=K1.out _ HB2.out
 have k2:=K2.out _ HB2.out
 have k3:=K3.out _ HB2.out
 go_wp2_with (go_at_call 101;fail)
 refine (HV.out w2).mono ?_
 rintro e w3 hpost
 obtain⟨v2,rfl,hown,hb⟩:=hpost.out
 obtain⟨Ax,cx,rfl,-,hx⟩:=own_form hown
 have ho:=zAo HO2.out hb
 have HB3:=hT HB2 hb
 have hbz:=HB3.out.size
 have hbd:l1.length+l2.length<=100000000:=by omega
 clear hpost hown hb HO2 k1 k2 k3
 go_wp2_with (at_builtin;go_must (refine app8g _ rfl (.tmp 14) (.tmp 17) rfl w1.heap.size _ _ l1 rfl ho _ Ax _ cx l2 rfl hx bb Hy2 Hl2 (by omega) hbz ?_))
 intro v2 w4 hor hb _
 have HO4:=hide hor
 have HB4:=hide (HB3.out.trans hb)
 clear ho hx hbz hor hb hbd
 have k1:=K1.out _ HB4.out
 have k2:=K2.out _ HB4.out
 have hfi:=zA8 (t:=0x30) (zAg HO4.out HBw.out.size) (HBw.out.trans (HB4.out.mono HBw.out.size)) (by omega)
 rw[Hbs.out] at hfi
 have Hfi:=hide hfi
 clear hfi HO4
 go_wp2_with (go_at_call 62;fail)
 refine Hfi.out.mono ?_
 rintro e w9 hpost
 obtain⟨v,rfl,hown,hb⟩:=hpost.out
 have HO:=hide hown
 have HB:=hide hb
 clear hpost hown hb Hfi k1 k2
 go_wp2
 go_ret
 exact⟨⟨_,rfl,HO.out,HB.out⟩⟩
theorem wcontrol_true_false (oid val:List UInt8) (ho:oid.length<=2000000) (hv:val.length<=2000000) (w:World):
  Calls Tryz.prog 66 #[.agg #[.string (txt oid),.bool true,.bool false,.string (txt val)]] w (WPost (controlW ⟨oid,true,false,val⟩) w):=by
 have hb1:Below w.heap.size w (w.alloc (.cells #[.string (txt oid),.bool true,.bool false,.string (txt val)] 67)):=(Below.refl _ _).alloc (Nat.le_refl _) _
 have hB1:Blk (w.alloc (.cells #[.string (txt oid),.bool true,.bool false,.string (txt val)] 67)) w.heap.size [.string (txt oid),.bool true,.bool false,.string (txt val)]:=Blk.new w [.string (txt oid),.bool true,.bool false,.string (txt val)] 67
 obtain⟨w1,hw1⟩:∃w1,w.alloc (.cells #[.string (txt oid),.bool true,.bool false,.string (txt val)] 67)=w1:=⟨_,rfl⟩
 rw[hw1] at hb1 hB1
 obtain⟨p1,hp1⟩:∃p1,w.heap.size=p1:=⟨_,rfl⟩
 rw[hp1] at hB1
 have K1:Hid (∀W,Below w1.heap.size w1 W->W.cell? ⟨p1,1,none⟩=some (.bool true)):=hide fun W hW=>(hB1.fr (Fr.of (X:=fun _=>False) hW) id).cells 1 _ rfl
 have K2:Hid (∀W,Below w1.heap.size w1 W->W.cell? ⟨p1,2,none⟩=some (.bool false)):=hide fun W hW=>(hB1.fr (Fr.of (X:=fun _=>False) hW) id).cells 2 _ rfl
 have K3:Hid (∀W,Below w1.heap.size w1 W->W.cell? ⟨p1,3,none⟩=some (.string (txt val))):=hide fun W hW=>(hB1.fr (Fr.of (X:=fun _=>False) hW) id).cells 3 _ rfl
 have k0:w1.cell? ⟨p1,0,none⟩=some (.string (txt oid)):=hB1.cells 0 _ rfl
 have HT:Hid (∀W,Calls Tryz.prog 101 #[.string (txt oid)] W (WPost (Ber.fieldOf 4 oid) W)):=hide fun W=>zA0 oid (by omega) W
 have HV:Hid (∀W,Calls Tryz.prog 101 #[.string (txt val)] W (WPost (Ber.fieldOf 4 val) W)):=hide fun W=>zA0 val (by omega) W
 have HFl:Hid (∀W,Calls Tryz.prog 113 #[.bool true] W (WPost (Ber.fieldOf 1 [255]) W)):=hide fun W=>wflag_any true W
 have h1:=zAk ho 4
 have h2:=zAk hv 4
 have hf:(Ber.fieldOf 1 [255]).length<=10:=by decide
 have hgo:controlW ⟨oid,true,false,val⟩=Ber.fieldOf 0x30 (Ber.fieldOf 4 oid++Ber.fieldOf 1 [255]):=by simp[controlW]
 rw[hgo]
 obtain⟨l1,hl1⟩:∃l1,Ber.fieldOf 4 oid=l1:=⟨_,rfl⟩
 obtain⟨l2,hl2⟩:∃l2,Ber.fieldOf 4 val=l2:=⟨_,rfl⟩
 obtain⟨lf,hlf⟩:∃lf,Ber.fieldOf 1 [255]=lf:=⟨_,rfl⟩
 rw[hl1] at HT h1
 rw[hl2] at HV h2
 rw[hlf] at HFl hf
 rw[hl1,hlf]
 obtain⟨bb,hbb⟩:∃bb,l1++lf=bb:=⟨_,rfl⟩
 have hbl:bb.length<=5000000:=by rw[<-hbb];(try simp only[List.length_append]);omega
 obtain⟨bs,hbs⟩:∃bs,Ber.fieldOf 0x30 bb=bs:=⟨_,rfl⟩
 rw[hbb,hbs]
 have Hbb:=hide hbb
 have Hbs:=hide hbs
 have HBw:=hide hb1
 have Hw:=hide hw1
 have Hp:=hide hp1
 clear hb1 hB1 hw1 hp1 hgo hl1 hl2 hlf hbb hbs ho hv
 generalize txt oid=s0 at *
 generalize txt val=s1 at *
 go_enter Tryz.func66,Tryz.ntmps66
 go_upto_region 1 with fail
 rw[Hw.out]
 try rw[Hp.out]
 clear Hw
 go_wp2_with (go_at_call 101;fail)
 refine (HT.out w1).mono ?_
 rintro e w2 hpost
 obtain⟨v1,rfl,hown,hb⟩:=hpost.out
 have HO2:=hide hown
 have HB2:=hide hb
 clear hpost hown hb k0
 have Hy2:Hid (l1++lf=bb):=hide (by rw[<-Hbb.out])
 have Hl2:Hid (l1.length+lf.length=bb.length):=hide (by rw[<-Hy2.out,List.length_append])
 have k1:=K1.out _ HB2.out
 have k2:=K2.out _ HB2.out
 have k3:=K3.out _ HB2.out
 go_wp2_with (go_at_call 113;fail)
 refine (HFl.out w2).mono ?_
 rintro e w3 hpost
 obtain⟨v2,rfl,hown,hb⟩:=hpost.out
 obtain⟨Ax,cx,rfl,-,hx⟩:=own_form hown
 have ho:=zAo HO2.out hb
 have HB3:=hT HB2 hb
 have hbz:=HB3.out.size
 have hbd:l1.length+lf.length<=100000000:=by omega
 clear hpost hown hb HO2 k1 k2 k3
 go_wp2_with (at_builtin;go_must (refine app8g _ rfl (.tmp 9) (.tmp 10) rfl w1.heap.size _ _ l1 rfl ho _ Ax _ cx lf rfl hx bb Hy2 Hl2 (by omega) hbz ?_))
 intro v2 w4 hor hb _
 have HO4:=hide hor
 have HB4:=hide (HB3.out.trans hb)
 clear ho hx hbz hor hb hbd
 have k1:=K1.out _ HB4.out
 have k2:=K2.out _ HB4.out
 have hfi:=zA8 (t:=0x30) (zAg HO4.out HBw.out.size) (HBw.out.trans (HB4.out.mono HBw.out.size)) (by omega)
 rw[Hbs.out] at hfi
 have Hfi:=hide hfi
 clear hfi HO4
 go_wp2_with (go_at_call 62;fail)
 refine Hfi.out.mono ?_
 rintro e w9 hpost
 obtain⟨v,rfl,hown,hb⟩:=hpost.out
 have HO:=hide hown
 have HB:=hide hb
 clear hpost hown hb Hfi k1 k2
 go_wp2
 go_ret
 exact⟨⟨_,rfl,HO.out,HB.out⟩⟩
theorem wcontrol_true_true (oid val:List UInt8) (ho:oid.length<=2000000) (hv:val.length<=2000000) (w:World):
  Calls Tryz.prog 66 #[.agg #[.string (txt oid),.bool true,.bool true,.string (txt val)]] w (WPost (controlW ⟨oid,true,true,val⟩) w):=by
 have hb1:Below w.heap.size w (w.alloc (.cells #[.string (txt oid),.bool true,.bool true,.string (txt val)] 67)):=(Below.refl _ _).alloc (Nat.le_refl _) _
 have hB1:Blk (w.alloc (.cells #[.string (txt oid),.bool true,.bool true,.string (txt val)] 67)) w.heap.size [.string (txt oid),.bool true,.bool true,.string (txt val)]:=Blk.new w [.string (txt oid),.bool true,.bool true,.string (txt val)] 67
 obtain⟨w1,hw1⟩:∃w1,w.alloc (.cells #[.string (txt oid),.bool true,.bool true,.string (txt val)] 67)=w1:=⟨_,rfl⟩
 rw[hw1] at hb1 hB1
 obtain⟨p1,hp1⟩:∃p1,w.heap.size=p1:=⟨_,rfl⟩
 rw[hp1] at hB1
 have K1:Hid (∀W,Below w1.heap.size w1 W->W.cell? ⟨p1,1,none⟩=some (.bool true)):=hide fun W hW=>(hB1.fr (Fr.of (X:=fun _=>False) hW) id).cells 1 _ rfl
 have K2:Hid (∀W,Below w1.heap.size w1 W->W.cell? ⟨p1,2,none⟩=some (.bool true)):=hide fun W hW=>(hB1.fr (Fr.of (X:=fun _=>False) hW) id).cells 2 _ rfl
 have K3:Hid (∀W,Below w1.heap.size w1 W->W.cell? ⟨p1,3,none⟩=some (.string (txt val))):=hide fun W hW=>(hB1.fr (Fr.of (X:=fun _=>False) hW) id).cells 3 _ rfl
 have k0:w1.cell? ⟨p1,0,none⟩=some (.string (txt oid)):=hB1.cells 0 _ rfl
 have HT:Hid (∀W,Calls Tryz.prog 101 #[.string (txt oid)] W (WPost (Ber.fieldOf 4 oid) W)):=hide fun W=>zA0 oid (by omega) W
 have HV:Hid (∀W,Calls Tryz.prog 101 #[.string (txt val)] W (WPost (Ber.fieldOf 4 val) W)):=hide fun W=>zA0 val (by omega) W
 have HFl:Hid (∀W,Calls Tryz.prog 113 #[.bool true] W (WPost (Ber.fieldOf 1 [255]) W)):=hide fun W=>wflag_any true W
 have h1:=zAk ho 4
 have h2:=zAk hv 4
 have hf:(Ber.fieldOf 1 [255]).length<=10:=by decide
 have hgo:controlW ⟨oid,true,true,val⟩=Ber.fieldOf 0x30 (Ber.fieldOf 4 oid++Ber.fieldOf 1 [255]++Ber.fieldOf 4 val):=by simp[controlW]
 rw[hgo]
 obtain⟨l1,hl1⟩:∃l1,Ber.fieldOf 4 oid=l1:=⟨_,rfl⟩
 obtain⟨l2,hl2⟩:∃l2,Ber.fieldOf 4 val=l2:=⟨_,rfl⟩
 obtain⟨lf,hlf⟩:∃lf,Ber.fieldOf 1 [255]=lf:=⟨_,rfl⟩
 rw[hl1] at HT h1
 rw[hl2] at HV h2
 rw[hlf] at HFl hf
 rw[hl1,hlf,hl2]
 obtain⟨bb,hbb⟩:∃bb,l1++lf++l2=bb:=⟨_,rfl⟩
 have hbl:bb.length<=5000000:=by rw[<-hbb];(try simp only[List.length_append]);omega
 obtain⟨bs,hbs⟩:∃bs,Ber.fieldOf 0x30 bb=bs:=⟨_,rfl⟩
 rw[hbb,hbs]
 have Hbb:=hide hbb
 have Hbs:=hide hbs
 have HBw:=hide hb1
 have Hw:=hide hw1
 have Hp:=hide hp1
 clear hb1 hB1 hw1 hp1 hgo hl1 hl2 hlf hbb hbs ho hv
 generalize txt oid=s0 at *
 generalize txt val=s1 at *
 go_enter Tryz.func66,Tryz.ntmps66
 go_upto_region 1 with fail
 rw[Hw.out]
 try rw[Hp.out]
 clear Hw
 go_wp2_with (go_at_call 101;fail)
 refine (HT.out w1).mono ?_
 rintro e w2 hpost
 obtain⟨v1,rfl,hown,hb⟩:=hpost.out
 have HO2:=hide hown
 have HB2:=hide hb
 clear hpost hown hb k0
 obtain⟨y2,hy⟩:∃y,l1++lf=y:=⟨_,rfl⟩
 have Hy2:Hid (l1++lf=y2):=hide hy
 have Hl2:Hid (l1.length+lf.length=y2.length):=hide (by rw[<-Hy2.out,List.length_append])
 clear hy
 have k1:=K1.out _ HB2.out
 have k2:=K2.out _ HB2.out
 have k3:=K3.out _ HB2.out
 go_wp2_with (go_at_call 113;fail)
 refine (HFl.out w2).mono ?_
 rintro e w3 hpost
 obtain⟨v2,rfl,hown,hb⟩:=hpost.out
 obtain⟨Ax,cx,rfl,-,hx⟩:=own_form hown
 have ho:=zAo HO2.out hb
 have HB3:=hT HB2 hb
 have hbz:=HB3.out.size
 have hbd:l1.length+lf.length<=100000000:=by omega
 clear hpost hown hb HO2 k1 k2 k3
 go_wp2_with (at_builtin;go_must (refine app8g _ rfl (.tmp 9) (.tmp 10) rfl w1.heap.size _ _ l1 rfl ho _ Ax _ cx lf rfl hx y2 Hy2 Hl2 (by omega) hbz ?_))
 intro v2 w4 hor hb _
 have HO4:=hide hor
 have HB4:=hide (HB3.out.trans hb)
 clear ho hx hbz hor hb hbd
 have Hy4:Hid (y2++l2=bb):=hide (by rw[<-Hbb.out,<-Hy2.out])
 have Hl4:Hid (y2.length+l2.length=bb.length):=hide (by rw[<-Hy4.out,List.length_append])
 have k1:=K1.out _ HB4.out
 have k2:=K2.out _ HB4.out
 have k3:=K3.out _ HB4.out
 go_wp2_with (go_at_call 101;fail)
 refine (HV.out w4).mono ?_
 rintro e w5 hpost
 obtain⟨v2,rfl,hown,hb⟩:=hpost.out
 obtain⟨Ax,cx,rfl,-,hx⟩:=own_form hown
 have ho:=zAo HO4.out hb
 have HB5:=hT HB4 hb
 have hbz:=HB5.out.size
 have hbd:y2.length+l2.length<=100000000:=by have:=Hl2.out;omega
 clear hpost hown hb HO4 k1 k2 k3
 go_wp2_with (at_builtin;go_must (refine app8g _ rfl (.tmp 14) (.tmp 17) rfl w1.heap.size _ _ y2 rfl ho _ Ax _ cx l2 rfl hx bb Hy4 Hl4 (by omega) hbz ?_))
 intro v4 w6 hor hb _
 have HO6:=hide hor
 have HB6:=hide (HB5.out.trans hb)
 clear ho hx hbz hor hb hbd
 have k1:=K1.out _ HB6.out
 have k2:=K2.out _ HB6.out
 have hfi:=zA8 (t:=0x30) (zAg HO6.out HBw.out.size) (HBw.out.trans (HB6.out.mono HBw.out.size)) (by omega)
 rw[Hbs.out] at hfi
 have Hfi:=hide hfi
 clear hfi HO6
 go_wp2_with (go_at_call 62;fail)
 refine Hfi.out.mono ?_
 rintro e w9 hpost
 obtain⟨v,rfl,hown,hb⟩:=hpost.out
 have HO:=hide hown
 have HB:=hide hb
 clear hpost hown hb Hfi k1 k2
 go_wp2
 go_ret
 exact⟨⟨_,rfl,HO.out,HB.out⟩⟩
theorem wcontrol_any (c:Ct) (ho:c.oid.length<=2000000) (hv:c.value.length<=2000000) (w:World) (cs:List Value) (hr:elC.rep w (inB w) c cs):Calls Tryz.prog 66 #[.agg cs.toArray] w (WPost (controlW c) w):=by
 obtain rfl:=hr
 obtain⟨oid,k,h,val⟩:=c
 cases k<;>cases h
 ·exact wcontrol_false_false oid val ho hv w
 ·exact wcontrol_false_true oid val ho hv w
 ·exact wcontrol_true_false oid val ho hv w
 ·exact wcontrol_true_true oid val ho hv w
end Go.Proofs.YtcpjmgfloimfhaaGreat
