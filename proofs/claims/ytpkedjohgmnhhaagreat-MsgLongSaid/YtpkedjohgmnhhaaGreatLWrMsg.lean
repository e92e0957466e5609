/- writeMessage, whatever it lays as an operation's content, of a message without controls. By an AI agent. -/
import Derived.Test.YtpkedjohgmnhhaaGreatM22
import Derived.Test.YtpkedjohgmnhhaaGreatLConcat
import Derived.Test.YtpkedjohgmnhhaaGreatM17
set_option maxRecDepth 100000
set_option maxHeartbeats 32000000
set_option linter.unusedSimpArgs false
namespace Go.Proofs.YtpkedjohgmnhhaaGreat
open Go.RowKit
set_option linter.unusedVariables false
structure CPost (bs:List UInt8) (w:World) (e:Ending) (w':World):Prop where
 out:∃A c,e=.returned (.slice A bs.length c)∧Has w' w'.heap.size 1 A bs.length (bys bs)∧Below w.heap.size w w'
theorem write_of (w:World) (m:MT) (v:Value) (hm:repM w (inB w) m v) (c:List UInt8) (t:UInt8) (hid: -9223372036854775808≤m.id∧m.id≤9223372036854775807) (hctl:m.ctls=[]) (ht:opV m.kind=(t.toNat:Int)) (hlen:c.length≤100000000)
  (hC:∀W,Below w.heap.size w W→Calls Tryz.prog 64 #[v] W (CPost c W)):
  Calls Tryz.prog 22 #[v] w (WPost (Wr.enc [(0x30,Wr.enc [Wr.numF 2 m.id,(t,c)])]) w):=by
 obtain⟨f0,f1,f2,f3,f4,f5,f6,va,vl,vc,vr,vk,rfl,hX⟩:=hm
 obtain⟨Ak,ck,xk,rfl,-,-,-⟩:=hX.ctls
 rw[hctl] at hC ⊢
 obtain⟨cs,hcs⟩:∃cs,mcells m f0 f1 f2 f3 f4 f5 f6 va vl vc vr (.slice Ak 0 ck)=cs:=⟨_,rfl⟩
 have hn:cs.length=32:=by rw[←hcs];rfl
 simp only[List.length_nil] at hC ⊢
 rw[hcs] at hC ⊢
 have hB1:Blk (w.alloc (.cells cs.toArray 42)) w.heap.size cs:=Blk.new w cs 42
 have hf1:Fr (fun _=>False) w (w.alloc (.cells cs.toArray 42)):=Fr.alloc _ _ _
 obtain⟨w1,hw1⟩:∃w1,w.alloc (.cells cs.toArray 42)=w1:=⟨_,rfl⟩
 rw[hw1] at hB1 hf1
 have hb1:Below w.heap.size w w1:=hf1.below (Nat.le_refl _) (fun k q=>q.elim)
 obtain⟨p1,hp1⟩:∃p1,w.heap.size=p1:=⟨_,rfl⟩
 have hB1:Blk w1 p1 cs:=by rw[←hp1];exact hB1
 have kX:∀W,Below w1.heap.size w1 W→Blk W p1 cs:=fun W hW=>hB1.fr (Fr.of (X:=fun _=>False) hW) id
 have K0:Hid (∀W,Below w1.heap.size w1 W→W.cell? ⟨p1,0,none⟩=some (.int .i64 m.id)):=hide fun W hW=>(kX W hW).cells 0 _ (by rw[←hcs];rfl)
 have K1:Hid (∀W,Below w1.heap.size w1 W→W.cell? ⟨p1,1,none⟩=some (.int .i64 m.kind)):=hide fun W hW=>(kX W hW).cells 1 _ (by rw[←hcs];rfl)
 have K31:Hid (∀W,Below w1.heap.size w1 W→W.cell? ⟨p1,31,none⟩=some (.slice Ak 0 ck)):=hide fun W hW=>(kX W hW).cells 31 _ (by rw[←hcs];rfl)
 have KM:Hid (∀W,Below w1.heap.size w1 W→(loadVar 42 ⟨p1,0,none⟩).run Tryz.prog W=.ok (.agg cs.toArray) W):=hide fun W hW=>run_loadVar_mid W p1 0 42 cs _ (kX W hW).range Tryz.underlying42 rfl (by rw[hn];kernel_rfl)
 have HN:Hid (∀W,Calls Tryz.prog 61 #[.int .u8 2,.int .i64 m.id] W (WPost (Ber.fieldOf 2 (Ber.intOfs m.id)) W)):=hide fun W=>wnumber_any 2 m.id hid.1 hid.2 W
 have HT:Hid (∀W,Calls Tryz.prog 63 #[.int .i64 m.kind] W fun e w'=>e=.returned (c8 t)∧w'=W):=hide fun W=>by
  have:=opTag_any W m.kind
  rw[ht] at this
  exact this
 have HC:Hid (∀W,Below w1.heap.size w1 W→Calls Tryz.prog 64 #[.agg cs.toArray] W (CPost c W)):=hide fun W hW=>hC W (hb1.trans (hW.mono hb1.size))
 have HBw:=hide hb1
 have Hw:=hide hw1
 have Hp:=hide hp1
 have Hlen:=hide hlen
 have hnl:(Ber.fieldOf 2 (Ber.intOfs m.id)).length≤20:=by rw[Ber.fieldOf_length,Ber.intOfs_length];have:=Ber.lenOf_le ((Ber.intOfs m.id).length:Int);have:=Ber.isize_le m.id;rw[Ber.intOfs_length] at *;omega
 have hcl:(Ber.fieldOf t c).length≤100000010:=by rw[Ber.fieldOf_length];have:=Ber.lenOf_le (c.length:Int);omega
 obtain⟨l1,hl1⟩:∃l1,Ber.fieldOf 2 (Ber.intOfs m.id)=l1:=⟨_,rfl⟩
 obtain⟨l2,hl2⟩:∃l2,Ber.fieldOf t c=l2:=⟨_,rfl⟩
 have hgoal:Wr.enc [(0x30,Wr.enc [Wr.numF 2 m.id,(t,c)])]=Ber.fieldOf 0x30 (l1++l2):=by simp[Wr.enc,Wr.numF,hl1,hl2]
 rw[hgoal]
 rw[hl1] at HN hnl
 rw[hl2] at hcl
 have Hl2:=hide hl2
 have Hln:=hide (And.intro hnl hcl)
 obtain⟨bs,hbs⟩:∃bs,Ber.fieldOf 0x30 (l1++l2)=bs:=⟨_,rfl⟩
 rw[hbs]
 have Hbs:=hide hbs
 clear hX hB1 hf1 hw1 hb1 hp1 kX hC hcs hn hid hctl ht hlen hgoal hl1 hl2 hnl hcl hbs
 obtain⟨mi,hmi⟩:∃mi,m.id=mi:=⟨_,rfl⟩
 obtain⟨mk,hmk⟩:∃mk,m.kind=mk:=⟨_,rfl⟩
 rw[hmi] at K0 HN
 rw[hmk] at K1 HT
 have HB0:Hid (Below w1.heap.size w1 w1.drew):=hide (Below.refl _ _).drew
 go_enter Tryz.func22,Tryz.ntmps22
 go_upto_region 1 with fail
 rw[Hw.out]
 try rw[Hp.out]
 clear Hw hmi hmk
 refine grow_begin (by kernel_rfl) ?_
 generalize w1.drew=w2 at *
 refine grow_take 0 (some 4) (v:=?vm0) rfl rfl (by kernel_rfl) (by kernel_rfl) (by kernel_rfl) (fun _ _ _ h=>h) (by rfl) (fun W hW=>?ym0) ?_
 case ym0=>
  go_simp<;>with_reducible rfl
 simp only[Act.put,List.setIfInBounds_toArray,List.set_cons_zero,List.set_cons_succ]
 refine grow_take 1 (some 5) (v:=?vm1) rfl rfl (by kernel_rfl) (by kernel_rfl) (by kernel_rfl) (fun _ _ _ h=>h) (by rfl) (fun W hW=>?ym1) ?_
 case ym1=>
  have kk:=K0.out W (HB0.out.trans (Below.mono hW HB0.out.size))
  go_simp<;>with_reducible rfl
 simp only[Act.put,List.setIfInBounds_toArray,List.set_cons_zero,List.set_cons_succ]
 refine grow_take 3 (some 7) (v:=?vm3) rfl rfl (by kernel_rfl) (by kernel_rfl) (by kernel_rfl) (fun _ _ _ h=>h) (by rfl) (fun W hW=>?ym3) ?_
 case ym3=>
  go_simp<;>with_reducible rfl
 simp only[Act.put,List.setIfInBounds_toArray,List.set_cons_zero,List.set_cons_succ]
 refine grow_take 4 (some 8) (v:=?vm4) rfl rfl (by kernel_rfl) (by kernel_rfl) (by kernel_rfl) (fun _ _ _ h=>h) (by rfl) (fun W hW=>?ym4) ?_
 case ym4=>
  have kk:=K1.out W (HB0.out.trans (Below.mono hW HB0.out.size))
  go_simp<;>with_reducible rfl
 simp only[Act.put,List.setIfInBounds_toArray,List.set_cons_zero,List.set_cons_succ]
 refine grow_take 6 (some 10) (v:=.agg cs.toArray) rfl rfl (by kernel_rfl) (by kernel_rfl) (by kernel_rfl) (fun _ _ _ h=>h) (by rfl) (fun W hW=>?ym6) ?_
 case ym6=>
  exact exec_load _ _ _ rfl p1 0 rfl _ (KM.out W (HB0.out.trans (Below.mono hW HB0.out.size)))
 simp only[Act.put,List.setIfInBounds_toArray,List.set_cons_zero,List.set_cons_succ]
 refine grow_only 2 rfl (by kernel_rfl) (fun K hK=>?_)
 go_simp
 refine (HN.out w2).mono ?_
 rintro e w3 hpost
 obtain⟨v1,rfl,hown,hb⟩:=hpost.out
 obtain⟨A1,c1,rfl,-,-,hA⟩:=Ber.own_form' hown
 have HB1:=hide (HB0.out.trans (hb.mono HB0.out.size))
 have HA1:=hide hA
 refine hK.out _ _ hb ?_
 clear hK K hb HB0 hpost hown hA
 try simp only[Act.put,List.setIfInBounds_toArray,List.set_cons_zero,List.set_cons_succ]
 refine grow_only 5 rfl (by kernel_rfl) (fun K hK=>?_)
 go_simp
 refine (HT.out _).mono ?_
 rintro e w9 ⟨rfl,hw9⟩
 obtain rfl:=hw9
 have hb:=Below.refl w9.heap.size w9
 have HB2:=hide (HB1.out.trans (hb.mono HB1.out.size))
 have HA2:=hide ((HA1.out.below hb).upto hb.size)
 clear HA1
 refine hK.out _ _ hb ?_
 clear hK K hb HB1
 try simp only[Act.put,List.setIfInBounds_toArray,List.set_cons_zero,List.set_cons_succ]
 refine grow_only 7 rfl (by kernel_rfl) (fun K hK=>?_)
 go_simp
 refine (HC.out _ HB2.out).mono ?_
 rintro e w4 hpost
 obtain⟨A2,c2,rfl,hA2,hb⟩:=hpost.out
 have HB3:=hide (HB2.out.trans (hb.mono HB2.out.size))
 have HA3:=hide ((HA2.out.below hb).upto hb.size)
 clear HA2
 have HC3:=hide hA2
 refine hK.out _ _ hb ?_
 clear hK K hb HB2 hpost hA2
 try simp only[Act.put,List.setIfInBounds_toArray,List.set_cons_zero,List.set_cons_succ]
 refine grow_only 8 rfl (by kernel_rfl) (fun K hK=>?_)
 go_simp
 refine (Ber.field_any t _ _ A2 c.length c2 c HC3.out (Nat.le_refl _) (by have:=Hlen.out;omega)).mono ?_
 rintro e w5 ⟨v2,rfl,hown,hb⟩
 rw[Hl2.out] at hown
 obtain⟨A3,c3,rfl,-,-,hA3⟩:=Ber.own_form' hown
 have HB4:=hide (HB3.out.trans (hb.mono HB3.out.size))
 have HA4:=hide ((HA3.out.below hb).upto hb.size)
 clear HA3
 have HD4:=hide hA3
 refine hK.out _ _ hb ?_
 clear hK K hb HB3 hown hA3 HC3
 try simp only[Act.put,List.setIfInBounds_toArray,List.set_cons_zero,List.set_cons_succ]
 refine grow_only 9 rfl (by kernel_rfl) (fun K hK=>?_)
 go_simp
 have hb:Below w5.heap.size w5 (w5.alloc (.cells #[.slice A1 l1.length c1,.slice A3 l2.length c3] 33)):=(Below.refl _ _).alloc (Nat.le_refl _) _
 have hblk:=Blk.new w5 [.slice A1 l1.length c1,.slice A3 l2.length c3] 33
 have hS:SLs (w5.alloc (.cells #[.slice A1 l1.length c1,.slice A3 l2.length c3] 33)) [l1,l2] (some ⟨w5.heap.size,0,none⟩) 2:=SLs.two (by simp) (hblk.cells 0 _ rfl) (hblk.cells 1 _ rfl) ((HA4.out.below hb).upto hb.size) ((HD4.out.below hb).upto hb.size)
 obtain⟨w6,hw6⟩:∃w6,w5.alloc (.cells #[.slice A1 l1.length c1,.slice A3 l2.length c3] 33)=w6:=⟨_,rfl⟩
 rw[hw6] at hb hS ⊢
 clear hblk hw6
 have HB5:=hide (HB4.out.trans (hb.mono HB4.out.size))
 have HS5:=hide hS
 refine hK.out _ _ hb ?_
 clear hK K hb HB4 hS HA4 HD4
 try simp only[Act.put,List.setIfInBounds_toArray,List.set_cons_zero,List.set_cons_succ]
 refine grow_only 10 rfl (by kernel_rfl) (fun K hK=>?_)
 go_simp
 refine (concat8_any w6 _ 2 2 _ HS5.out (by omega) (by have:=Hln.out;simp[tot];omega)).mono ?_
 rintro e w7 hpost
 obtain⟨v3,rfl,hown,hb⟩:=hpost.out
 have e3:([l1,l2]:List (List UInt8)).flatten=l1++l2:=by simp
 rw[e3] at hown
 have HB6:=hide (HB5.out.trans (hb.mono HB5.out.size))
 have HB5x:=HB6.out.size
 have HB5w:=Nat.le_trans HBw.out.size HB5.out.size
 have HO6:=hide (own_base hown HB5w)
 refine hK.out _ _ hb ?_
 clear hK K hb HB5 hpost hown HS5 e3
 try simp only[Act.put,List.setIfInBounds_toArray,List.set_cons_zero,List.set_cons_succ]
 refine grow_take 11 (some 3) (v:=?vm11) rfl rfl (by kernel_rfl) (by kernel_rfl) (by kernel_rfl) (fun _ _ _ h=>h) (by rfl) (fun W hW=>?ym11) ?_
 case ym11=>
  go_simp<;>with_reducible rfl
 simp only[Act.put,List.setIfInBounds_toArray,List.set_cons_zero,List.set_cons_succ]
 refine grow_done (by kernel_rfl) ?_ _
 have k31:=K31.out _ HB6.out
 have hb7:=HBw.out.trans (HB6.out.mono HBw.out.size)
 have hf:=field_own (t:=0x30) (bs:=l1++l2) HO6.out hb7 (by have:=Hln.out;rw[List.length_append];omega)
 rw[Hbs.out] at hf
 have Hf:=hide hf
 clear hb7 hf HO6
 go_wp2_with (go_at_call 62;fail)
 refine Hf.out.mono ?_
 rintro e w8 hpost
 obtain⟨v4,rfl,hown,hb8⟩:=hpost.out
 have HO8:=hide hown
 have HB8:=hide hb8
 clear hpost hown hb8 Hf k31
 go_wp2
 go_ret
 exact⟨⟨_,rfl,HO8.out,HB8.out⟩⟩
end Go.Proofs.YtpkedjohgmnhhaaGreat
