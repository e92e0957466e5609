/- writePieces. By an AI agent. -/
import Derived.Test.YtcpjmgfloimfhaaGreatLWrC
set_option linter.unusedSimpArgs false
set_option linter.unusedVariables false
set_option maxRecDepth 100000
set_option maxHeartbeats 32000000
namespace Go.Proofs.YtcpjmgfloimfhaaGreat
open Go.RowKit
theorem wany_any (s:List UInt8) (hs:s.length<=1073741824) (w:World):Calls Tryz.prog 180 #[.string (txt s)] w (WPost (Ber.fieldOf 0x81 s) w):=by
 have hf:=zBb 0x81 s hs w
 rw[show c8 0x81=.int .u8 129 from rfl] at hf
 go_enter Tryz.func180,Tryz.ntmps180
 go_wp2_with (go_at_call 102;fail)
 refine hf.mono ?_
 rintro e w2 hpost
 obtain⟨v,rfl,hown,hb2⟩:=hpost.out
 have HO:=hide hown
 have HB:=hide hb2
 clear hpost hown hb2 hf
 go_wp2
 go_ret
 exact⟨⟨_,rfl,HO.out,HB.out⟩⟩
def optW (t:UInt8) (s:List UInt8):List UInt8:=if s=[] then [] else Ber.fieldOf t s
def piecesW (f:List UInt8) (an:List (List UInt8)) (l:List UInt8):List UInt8:=Ber.fieldOf 0x30 ((optW 0x80 f++Wr.eachGo (Ber.fieldOf 0x81) an [])++optW 0x82 l)
theorem txt_ne {s:List UInt8} (h:s≠[]):¬txt s=⟨#[]⟩:=fun e=>h (by have:=congrArg (fun x:ByteArray=>x.data.toList) e;rw[zBa] at this;exact this)
theorem wpieces_nn (k:Int) (sa sv:ByteArray) (f l:List UInt8) (an:List (List UInt8)) (A:Option Addr) (c:Nat) (D:Option Addr) (pn pd:Nat) (w:World) (hf:f.length<=2000000) (hl:l.length<=2000000) (ha:∀s∈an,s.length<=2000000) (hal:an.length<=20000) (hA:HasP w (inB w) 1 A an.length (strs an)) (hf0:f=[]) (hl0:l=[]):
  Calls Tryz.prog 169 #[.agg #[.int .i64 k,.string sa,.string sv,.string (txt f),.string (txt l),.slice A an.length c,.slice D pn pd]] w (WPost (piecesW f an l) w):=by
 have hb1:Below w.heap.size w (w.alloc (.cells #[.int .i64 k,.string sa,.string sv,.string (txt f),.string (txt l),.slice A an.length c,.slice D pn pd] 39)):=(Below.refl _ _).alloc (Nat.le_refl _) _
 have hB1:Blk (w.alloc (.cells #[.int .i64 k,.string sa,.string sv,.string (txt f),.string (txt l),.slice A an.length c,.slice D pn pd] 39)) w.heap.size [.int .i64 k,.string sa,.string sv,.string (txt f),.string (txt l),.slice A an.length c,.slice D pn pd]:=Blk.new w [.int .i64 k,.string sa,.string sv,.string (txt f),.string (txt l),.slice A an.length c,.slice D pn pd] 39
 obtain⟨w1,hw1⟩:∃w1,w.alloc (.cells #[.int .i64 k,.string sa,.string sv,.string (txt f),.string (txt l),.slice A an.length c,.slice D pn pd] 39)=w1:=⟨_,rfl⟩
 rw[hw1] at hb1 hB1
 obtain⟨p1,hp1⟩:∃p1,w.heap.size=p1:=⟨_,rfl⟩
 rw[hp1] at hB1
 have K3:Hid (∀W,Below w1.heap.size w1 W->W.cell? ⟨p1,3,none⟩=some (.string (txt f))):=hide fun W hW=>(hB1.fr (Fr.of (X:=fun _=>False) hW) id).cells 3 _ rfl
 have K4:Hid (∀W,Below w1.heap.size w1 W->W.cell? ⟨p1,4,none⟩=some (.string (txt l))):=hide fun W hW=>(hB1.fr (Fr.of (X:=fun _=>False) hW) id).cells 4 _ rfl
 have K5:Hid (∀W,Below w1.heap.size w1 W->W.cell? ⟨p1,5,none⟩=some (.slice A an.length c)):=hide fun W hW=>(hB1.fr (Fr.of (X:=fun _=>False) hW) id).cells 5 _ rfl
 have HF:Hid (∀W,Calls Tryz.prog 102 #[.int .u8 128,.string (txt f)] W (WPost (Ber.fieldOf 0x80 f) W)):=hide fun W=>zBb 0x80 f (by omega) W
 have HL:Hid (∀W,Calls Tryz.prog 102 #[.int .u8 130,.string (txt l)] W (WPost (Ber.fieldOf 0x82 l) W)):=hide fun W=>zBb 0x82 l (by omega) W
 have HE:Hid (∀W,Below w1.heap.size w1 W->Calls Tryz.prog 110 #[.slice A an.length c,.func (.func 180) #[] #[]] W (WPost (Wr.eachGo (Ber.fieldOf 0x81) an []) W)):=hide fun W hW=>by
  have hbW:=hb1.trans (hW.mono hb1.size)
  exact weachT_any 180 #[] (fun args w=>by go_simp) (Ber.fieldOf 0x81) an W A an.length c ⟨A,c,strs an,rfl,hal,HasP.move hA (fun p hp=>hbW.cell (by exact hp)) (fun k hk=>Nat.lt_of_lt_of_le hk hbW.size),strs_row an⟩
   (fun x hx=>by have:=zAk (ha x hx) 0x81;omega) (fun x hx V hV=>wany_any x (by have:=ha x hx;omega) V)
 have h1:=zAk hf 0x80
 have h2:=zAk hl 0x82
 have h3:=Wr.eachGo_len (f:=Ber.fieldOf 0x81) (K:=2000010) an [] (fun x hx=>zAk (ha x hx) 0x81)
 simp only[List.length_nil] at h3
 have e1:optW 0x80 f=[]:=by unfold optW;rw[if_pos hf0]
 have e2:optW 0x82 l=[]:=by unfold optW;rw[if_pos hl0]
 have hgo:piecesW f an l=Ber.fieldOf 0x30 (([]++Wr.eachGo (Ber.fieldOf 0x81) an [])++[]):=by unfold piecesW;rw[e1,e2]
 rw[hgo]
 obtain⟨l1,hl1⟩:∃l1,Ber.fieldOf 0x80 f=l1:=⟨_,rfl⟩
 obtain⟨l2,hl2⟩:∃l2,Ber.fieldOf 0x82 l=l2:=⟨_,rfl⟩
 obtain⟨la,hla⟩:∃la,Wr.eachGo (Ber.fieldOf 0x81) an []=la:=⟨_,rfl⟩
 rw[hl1] at HF h1
 rw[hl2] at HL h2
 rw[hla] at HE h3
 rw[hla]
 obtain⟨y1,hy1⟩:∃y,[]++la=y:=⟨_,rfl⟩
 obtain⟨bb,hbb⟩:∃bb,y1++[]=bb:=⟨_,rfl⟩
 have hyl:y1.length<=5000000:=by rw[<-hy1];(try simp only[List.length_append,List.nil_append]);omega
 have hbl:bb.length<=9000000:=by rw[<-hbb];(try simp only[List.length_append,List.append_nil]);omega
 obtain⟨bs,hbs⟩:∃bs,Ber.fieldOf 0x30 bb=bs:=⟨_,rfl⟩
 rw[hy1,hbb,hbs]
 have Hy1:=hide hy1
 have Hbb:=hide hbb
 have Hbs:=hide hbs
 have HBw:=hide hb1
 have Hw:=hide hw1
 have Hp:=hide hp1
 subst hf0
 subst hl0
 clear hb1 hB1 hw1 hp1 hgo hl1 hl2 hla hy1 hbb hbs hf hl ha hal hA e1 e2
 rw[show txt ([]:List UInt8)=⟨#[]⟩ from rfl] at *
 generalize an.length=am at *
 have HB1:Hid (Below w1.heap.size w1 w1):=hide (Below.refl _ _)
 have k3:=K3.out _ HB1.out
 go_enter Tryz.func169,Tryz.ntmps169
 go_upto_region 1 with fail
 rw[Hw.out]
 try rw[Hp.out]
 clear Hw
 have HO1:Hid (w1.ownsRow w1.heap.size 5 1 (.slice none 0 0) ([]:List UInt8).length (bys [])):=hide (World.ownsRow_nil _ _ _ _)
 have k5:=K5.out _ HB1.out
 go_wp2_with (go_at_call 110;fail)
 refine (HE.out w1 HB1.out).mono ?_
 rintro e w2 hpost
 obtain⟨v2,rfl,hown,hb⟩:=hpost.out
 obtain⟨Ax,cx,rfl,-,hx⟩:=own_form hown
 have ho:=zAo HO1.out hb
 have HB2:=hT HB1 hb
 have hbz:=HB2.out.size
 have Hl1y:Hid (([]:List UInt8).length+la.length=y1.length):=hide (by rw[<-Hy1.out,List.length_append])
 have hbd:([]:List UInt8).length+la.length<=100000000:=by have:=Hl1y.out;omega
 clear hpost hown hb HO1 k5 k3
 go_wp2_with (at_builtin;go_must (refine app8g _ rfl (.tmp 11) (.tmp 15) rfl w1.heap.size _ _ [] rfl ho _ Ax _ cx la rfl hx y1 Hy1 Hl1y (by omega) hbz ?_))
 intro v5 w3 hor hb _
 have HO3:=hide hor
 have HB3:=hide (HB2.out.trans hb)
 have k4:=K4.out _ HB3.out
 clear ho hx hbz hor hb hbd
 have hcur:y1=bb:=by have:=Hbb.out;rwa [List.append_nil] at this
 subst hcur
 have hfi:=zA8 (t:=0x30) (zAg HO3.out HBw.out.size) (HBw.out.trans (HB3.out.mono HBw.out.size)) (by omega)
 rw[Hbs.out] at hfi
 have Hfi:=hide hfi
 clear hfi HO3
 go_wp2_with (go_at_call 62;fail)
 refine Hfi.out.mono ?_
 rintro e w9 hpost
 obtain⟨v,rfl,hown,hb⟩:=hpost.out
 have HO:=hide hown
 have HB:=hide hb
 clear hpost hown hb Hfi
 go_wp2
 go_ret
 exact⟨⟨_,rfl,HO.out,HB.out⟩⟩
theorem wpieces_ny (k:Int) (sa sv:ByteArray) (f l:List UInt8) (an:List (List UInt8)) (A:Option Addr) (c:Nat) (D:Option Addr) (pn pd:Nat) (w:World) (hf:f.length<=2000000) (hl:l.length<=2000000) (ha:∀s∈an,s.length<=2000000) (hal:an.length<=20000) (hA:HasP w (inB w) 1 A an.length (strs an)) (hf0:f=[]) (hl0:l≠[]):
  Calls Tryz.prog 169 #[.agg #[.int .i64 k,.string sa,.string sv,.string (txt f),.string (txt l),.slice A an.length c,.slice D pn pd]] w (WPost (piecesW f an l) w):=by
 have hb1:Below w.heap.size w (w.alloc (.cells #[.int .i64 k,.string sa,.string sv,.string (txt f),.string (txt l),.slice A an.length c,.slice D pn pd] 39)):=(Below.refl _ _).alloc (Nat.le_refl _) _
 have hB1:Blk (w.alloc (.cells #[.int .i64 k,.string sa,.string sv,.string (txt f),.string (txt l),.slice A an.length c,.slice D pn pd] 39)) w.heap.size [.int .i64 k,.string sa,.string sv,.string (txt f),.string (txt l),.slice A an.length c,.slice D pn pd]:=Blk.new w [.int .i64 k,.string sa,.string sv,.string (txt f),.string (txt l),.slice A an.length c,.slice D pn pd] 39
 obtain⟨w1,hw1⟩:∃w1,w.alloc (.cells #[.int .i64 k,.string sa,.string sv,.string (txt f),.string (txt l),.slice A an.length c,.slice D pn pd] 39)=w1:=⟨_,rfl⟩
 rw[hw1] at hb1 hB1
 obtain⟨p1,hp1⟩:∃p1,w.heap.size=p1:=⟨_,rfl⟩
 rw[hp1] at hB1
 have K3:Hid (∀W,Below w1.heap.size w1 W->W.cell? ⟨p1,3,none⟩=some (.string (txt f))):=hide fun W hW=>(hB1.fr (Fr.of (X:=fun _=>False) hW) id).cells 3 _ rfl
 have K4:Hid (∀W,Below w1.heap.size w1 W->W.cell? ⟨p1,4,none⟩=some (.string (txt l))):=hide fun W hW=>(hB1.fr (Fr.of (X:=fun _=>False) hW) id).cells 4 _ rfl
 have K5:Hid (∀W,Below w1.heap.size w1 W->W.cell? ⟨p1,5,none⟩=some (.slice A an.length c)):=hide fun W hW=>(hB1.fr (Fr.of (X:=fun _=>False) hW) id).cells 5 _ rfl
 have HF:Hid (∀W,Calls Tryz.prog 102 #[.int .u8 128,.string (txt f)] W (WPost (Ber.fieldOf 0x80 f) W)):=hide fun W=>zBb 0x80 f (by omega) W
 have HL:Hid (∀W,Calls Tryz.prog 102 #[.int .u8 130,.string (txt l)] W (WPost (Ber.fieldOf 0x82 l) W)):=hide fun W=>zBb 0x82 l (by omega) W
 have HE:Hid (∀W,Below w1.heap.size w1 W->Calls Tryz.prog 110 #[.slice A an.length c,.func (.func 180) #[] #[]] W (WPost (Wr.eachGo (Ber.fieldOf 0x81) an []) W)):=hide fun W hW=>by
  have hbW:=hb1.trans (hW.mono hb1.size)
  exact weachT_any 180 #[] (fun args w=>by go_simp) (Ber.fieldOf 0x81) an W A an.length c ⟨A,c,strs an,rfl,hal,HasP.move hA (fun p hp=>hbW.cell (by exact hp)) (fun k hk=>Nat.lt_of_lt_of_le hk hbW.size),strs_row an⟩
   (fun x hx=>by have:=zAk (ha x hx) 0x81;omega) (fun x hx V hV=>wany_any x (by have:=ha x hx;omega) V)
 have h1:=zAk hf 0x80
 have h2:=zAk hl 0x82
 have h3:=Wr.eachGo_len (f:=Ber.fieldOf 0x81) (K:=2000010) an [] (fun x hx=>zAk (ha x hx) 0x81)
 simp only[List.length_nil] at h3
 have e1:optW 0x80 f=[]:=by unfold optW;rw[if_pos hf0]
 have e2:optW 0x82 l=Ber.fieldOf 0x82 l:=by unfold optW;rw[if_neg hl0]
 have hgo:piecesW f an l=Ber.fieldOf 0x30 (([]++Wr.eachGo (Ber.fieldOf 0x81) an [])++Ber.fieldOf 0x82 l):=by unfold piecesW;rw[e1,e2]
 rw[hgo]
 obtain⟨l1,hl1⟩:∃l1,Ber.fieldOf 0x80 f=l1:=⟨_,rfl⟩
 obtain⟨l2,hl2⟩:∃l2,Ber.fieldOf 0x82 l=l2:=⟨_,rfl⟩
 obtain⟨la,hla⟩:∃la,Wr.eachGo (Ber.fieldOf 0x81) an []=la:=⟨_,rfl⟩
 rw[hl1] at HF h1
 rw[hl2] at HL h2
 rw[hla] at HE h3
 rw[hla,hl2]
 obtain⟨y1,hy1⟩:∃y,[]++la=y:=⟨_,rfl⟩
 obtain⟨bb,hbb⟩:∃bb,y1++l2=bb:=⟨_,rfl⟩
 have hyl:y1.length<=5000000:=by rw[<-hy1];(try simp only[List.length_append,List.nil_append]);omega
 have hbl:bb.length<=9000000:=by rw[<-hbb];(try simp only[List.length_append,List.append_nil]);omega
 obtain⟨bs,hbs⟩:∃bs,Ber.fieldOf 0x30 bb=bs:=⟨_,rfl⟩
 rw[hy1,hbb,hbs]
 have Hy1:=hide hy1
 have Hbb:=hide hbb
 have Hbs:=hide hbs
 have HBw:=hide hb1
 have Hw:=hide hw1
 have Hp:=hide hp1
 subst hf0
 have nl:=txt_ne hl0
 have nl2:¬(txt l).toList=[]:=by rw[ByteArray.toList_eq,zBa];exact hl0
 have nl3:(txt l).toList.isEmpty=false:=by rw[ByteArray.toList_eq,zBa];cases l with | nil=>exact absurd rfl hl0 | cons a r=>rfl
 clear hb1 hB1 hw1 hp1 hgo hl1 hl2 hla hy1 hbb hbs hf hl ha hal hA e1 e2 hl0
 rw[show txt ([]:List UInt8)=⟨#[]⟩ from rfl] at *
 generalize txt l=sl at *
 generalize an.length=am at *
 have HB1:Hid (Below w1.heap.size w1 w1):=hide (Below.refl _ _)
 have k3:=K3.out _ HB1.out
 go_enter Tryz.func169,Tryz.ntmps169
 go_upto_region 1 with fail
 rw[Hw.out]
 try rw[Hp.out]
 clear Hw
 have HO1:Hid (w1.ownsRow w1.heap.size 5 1 (.slice none 0 0) ([]:List UInt8).length (bys [])):=hide (World.ownsRow_nil _ _ _ _)
 have k5:=K5.out _ HB1.out
 go_wp2_with (go_at_call 110;fail)
 refine (HE.out w1 HB1.out).mono ?_
 rintro e w2 hpost
 obtain⟨v2,rfl,hown,hb⟩:=hpost.out
 obtain⟨Ax,cx,rfl,-,hx⟩:=own_form hown
 have ho:=zAo HO1.out hb
 have HB2:=hT HB1 hb
 have hbz:=HB2.out.size
 have Hl1y:Hid (([]:List UInt8).length+la.length=y1.length):=hide (by rw[<-Hy1.out,List.length_append])
 have hbd:([]:List UInt8).length+la.length<=100000000:=by have:=Hl1y.out;omega
 clear hpost hown hb HO1 k5 k3
 go_wp2_with (at_builtin;go_must (refine app8g _ rfl (.tmp 11) (.tmp 15) rfl w1.heap.size _ _ [] rfl ho _ Ax _ cx la rfl hx y1 Hy1 Hl1y (by omega) hbz ?_))
 intro v5 w3 hor hb _
 have HO3:=hide hor
 have HB3:=hide (HB2.out.trans hb)
 have k4:=K4.out _ HB3.out
 clear ho hx hbz hor hb hbd
 go_wp2_with (go_at_call 102;fail)
 refine (HL.out w3).mono ?_
 rintro e w4 hpost
 obtain⟨v2,rfl,hown,hb⟩:=hpost.out
 obtain⟨Ay,cy,rfl,-,hx⟩:=own_form hown
 have ho:=zAo HO3.out hb
 have HB4:=hT HB3 hb
 have hbz:=HB4.out.size
 have Hl2y:Hid (y1.length+l2.length=bb.length):=hide (by rw[<-Hbb.out,List.length_append])
 have hbd:y1.length+l2.length<=100000000:=by omega
 clear hpost hown hb HO3 k4
 go_wp2_with (at_builtin;go_must (refine app8g _ rfl (.tmp 20) (.tmp 23) rfl w1.heap.size _ _ y1 rfl ho _ Ay _ cy l2 rfl hx bb Hbb Hl2y (by omega) hbz ?_))
 intro v6 w5 hor hb _
 have HO5:=hide hor
 have HB5:=hide (HB4.out.trans hb)
 clear ho hx hbz hor hb hbd
 have hfi:=zA8 (t:=0x30) (zAg HO5.out HBw.out.size) (HBw.out.trans (HB5.out.mono HBw.out.size)) (by omega)
 rw[Hbs.out] at hfi
 have Hfi:=hide hfi
 clear hfi HO5
 go_wp2_with (go_at_call 62;fail)
 refine Hfi.out.mono ?_
 rintro e w9 hpost
 obtain⟨v,rfl,hown,hb⟩:=hpost.out
 have HO:=hide hown
 have HB:=hide hb
 clear hpost hown hb Hfi
 go_wp2
 go_ret
 exact⟨⟨_,rfl,HO.out,HB.out⟩⟩
theorem wpieces_yn (k:Int) (sa sv:ByteArray) (f l:List UInt8) (an:List (List UInt8)) (A:Option Addr) (c:Nat) (D:Option Addr) (pn pd:Nat) (w:World) (hf:f.length<=2000000) (hl:l.length<=2000000) (ha:∀s∈an,s.length<=2000000) (hal:an.length<=20000) (hA:HasP w (inB w) 1 A an.length (strs an)) (hf0:f≠[]) (hl0:l=[]):
  Calls Tryz.prog 169 #[.agg #[.int .i64 k,.string sa,.string sv,.string (txt f),.string (txt l),.slice A an.length c,.slice D pn pd]] w (WPost (piecesW f an l) w):=by
 have hb1:Below w.heap.size w (w.alloc (.cells #[.int .i64 k,.string sa,.string sv,.string (txt f),.string (txt l),.slice A an.length c,.slice D pn pd] 39)):=(Below.refl _ _).alloc (Nat.le_refl _) _
 have hB1:Blk (w.alloc (.cells #[.int .i64 k,.string sa,.string sv,.string (txt f),.string (txt l),.slice A an.length c,.slice D pn pd] 39)) w.heap.size [.int .i64 k,.string sa,.string sv,.string (txt f),.string (txt l),.slice A an.length c,.slice D pn pd]:=Blk.new w [.int .i64 k,.string sa,.string sv,.string (txt f),.string (txt l),.slice A an.length c,.slice D pn pd] 39
 obtain⟨w1,hw1⟩:∃w1,w.alloc (.cells #[.int .i64 k,.string sa,.string sv,.string (txt f),.string (txt l),.slice A an.length c,.slice D pn pd] 39)=w1:=⟨_,rfl⟩
 rw[hw1] at hb1 hB1
 obtain⟨p1,hp1⟩:∃p1,w.heap.size=p1:=⟨_,rfl⟩
 rw[hp1] at hB1
 have K3:Hid (∀W,Below w1.heap.size w1 W->W.cell? ⟨p1,3,none⟩=some (.string (txt f))):=hide fun W hW=>(hB1.fr (Fr.of (X:=fun _=>False) hW) id).cells 3 _ rfl
 have K4:Hid (∀W,Below w1.heap.size w1 W->W.cell? ⟨p1,4,none⟩=some (.string (txt l))):=hide fun W hW=>(hB1.fr (Fr.of (X:=fun _=>False) hW) id).cells 4 _ rfl
 have K5:Hid (∀W,Below w1.heap.size w1 W->W.cell? ⟨p1,5,none⟩=some (.slice A an.length c)):=hide fun W hW=>(hB1.fr (Fr.of (X:=fun _=>False) hW) id).cells 5 _ rfl
 have HF:Hid (∀W,Calls Tryz.prog 102 #[.int .u8 128,.string (txt f)] W (WPost (Ber.fieldOf 0x80 f) W)):=hide fun W=>zBb 0x80 f (by omega) W
 have HL:Hid (∀W,Calls Tryz.prog 102 #[.int .u8 130,.string (txt l)] W (WPost (Ber.fieldOf 0x82 l) W)):=hide fun W=>zBb 0x82 l (by omega) W
 have HE:Hid (∀W,Below w1.heap.size w1 W->Calls Tryz.prog 110 #[.slice A an.length c,.func (.func 180) #[] #[]] W (WPost (Wr.eachGo (Ber.fieldOf 0x81) an []) W)):=hide fun W hW=>by
  have hbW:=hb1.trans (hW.mono hb1.size)
  exact weachT_any 180 #[] (fun args w=>by go_simp) (Ber.fieldOf 0x81) an W A an.length c ⟨A,c,strs an,rfl,hal,HasP.move hA (fun p hp=>hbW.cell (by exact hp)) (fun k hk=>Nat.lt_of_lt_of_le hk hbW.size),strs_row an⟩
   (fun x hx=>by have:=zAk (ha x hx) 0x81;omega) (fun x hx V hV=>wany_any x (by have:=ha x hx;omega) V)
 have h1:=zAk hf 0x80
 have h2:=zAk hl 0x82
 have h3:=Wr.eachGo_len (f:=Ber.fieldOf 0x81) (K:=2000010) an [] (fun x hx=>zAk (ha x hx) 0x81)
 simp only[List.length_nil] at h3
 have e1:optW 0x80 f=Ber.fieldOf 0x80 f:=by unfold optW;rw[if_neg hf0]
 have e2:optW 0x82 l=[]:=by unfold optW;rw[if_pos hl0]
 have hgo:piecesW f an l=Ber.fieldOf 0x30 ((Ber.fieldOf 0x80 f++Wr.eachGo (Ber.fieldOf 0x81) an [])++[]):=by unfold piecesW;rw[e1,e2]
 rw[hgo]
 obtain⟨l1,hl1⟩:∃l1,Ber.fieldOf 0x80 f=l1:=⟨_,rfl⟩
 obtain⟨l2,hl2⟩:∃l2,Ber.fieldOf 0x82 l=l2:=⟨_,rfl⟩
 obtain⟨la,hla⟩:∃la,Wr.eachGo (Ber.fieldOf 0x81) an []=la:=⟨_,rfl⟩
 rw[hl1] at HF h1
 rw[hl2] at HL h2
 rw[hla] at HE h3
 rw[hl1,hla]
 obtain⟨y1,hy1⟩:∃y,l1++la=y:=⟨_,rfl⟩
 obtain⟨bb,hbb⟩:∃bb,y1++[]=bb:=⟨_,rfl⟩
 have hyl:y1.length<=5000000:=by rw[<-hy1];(try simp only[List.length_append,List.nil_append]);omega
 have hbl:bb.length<=9000000:=by rw[<-hbb];(try simp only[List.length_append,List.append_nil]);omega
 obtain⟨bs,hbs⟩:∃bs,Ber.fieldOf 0x30 bb=bs:=⟨_,rfl⟩
 rw[hy1,hbb,hbs]
 have Hy1:=hide hy1
 have Hbb:=hide hbb
 have Hbs:=hide hbs
 have HBw:=hide hb1
 have Hw:=hide hw1
 have Hp:=hide hp1
 have nf:=txt_ne hf0
 have nf2:¬(txt f).toList=[]:=by rw[ByteArray.toList_eq,zBa];exact hf0
 have nf3:(txt f).toList.isEmpty=false:=by rw[ByteArray.toList_eq,zBa];cases f with | nil=>exact absurd rfl hf0 | cons a r=>rfl
 subst hl0
 clear hb1 hB1 hw1 hp1 hgo hl1 hl2 hla hy1 hbb hbs hf hl ha hal hA e1 e2 hf0
 generalize txt f=sf at *
 rw[show txt ([]:List UInt8)=⟨#[]⟩ from rfl] at *
 generalize an.length=am at *
 have HB1:Hid (Below w1.heap.size w1 w1):=hide (Below.refl _ _)
 have k3:=K3.out _ HB1.out
 go_enter Tryz.func169,Tryz.ntmps169
 go_upto_region 1 with fail
 rw[Hw.out]
 try rw[Hp.out]
 clear Hw
 go_wp2_with (go_at_call 102;fail)
 refine (HF.out w1).mono ?_
 rintro e w2 hpost
 obtain⟨v1,rfl,hown,hb⟩:=hpost.out
 have HO2:=hide hown
 have HB2:=hide (HB1.out.trans hb)
 clear hpost hown hb k3
 have k5:=K5.out _ HB2.out
 go_wp2_with (go_at_call 110;fail)
 refine (HE.out w2 HB2.out).mono ?_
 rintro e w3 hpost
 obtain⟨v2,rfl,hown,hb⟩:=hpost.out
 obtain⟨Ax,cx,rfl,-,hx⟩:=own_form hown
 have ho:=zAo HO2.out hb
 have HB3:=hT HB2 hb
 have hbz:=HB3.out.size
 have Hl1y:Hid ((l1:List UInt8).length+la.length=y1.length):=hide (by rw[<-Hy1.out,List.length_append])
 have hbd:(l1:List UInt8).length+la.length<=100000000:=by have:=Hl1y.out;omega
 clear hpost hown hb HO2 k5
 go_wp2_with (at_builtin;go_must (refine app8g _ rfl (.tmp 11) (.tmp 15) rfl w1.heap.size _ _ l1 rfl ho _ Ax _ cx la rfl hx y1 Hy1 Hl1y (by omega) hbz ?_))
 intro v5 w4 hor hb _
 have HO4:=hide hor
 have HB4:=hide (HB3.out.trans hb)
 have k4:=K4.out _ HB4.out
 clear ho hx hbz hor hb hbd
 have hcur:y1=bb:=by have:=Hbb.out;rwa [List.append_nil] at this
 subst hcur
 have hfi:=zA8 (t:=0x30) (zAg HO4.out HBw.out.size) (HBw.out.trans (HB4.out.mono HBw.out.size)) (by omega)
 rw[Hbs.out] at hfi
 have Hfi:=hide hfi
 clear hfi HO4
 go_wp2_with (go_at_call 62;fail)
 refine Hfi.out.mono ?_
 rintro e w9 hpost
 obtain⟨v,rfl,hown,hb⟩:=hpost.out
 have HO:=hide hown
 have HB:=hide hb
 clear hpost hown hb Hfi
 go_wp2
 go_ret
 exact⟨⟨_,rfl,HO.out,HB.out⟩⟩
theorem wpieces_yy (k:Int) (sa sv:ByteArray) (f l:List UInt8) (an:List (List UInt8)) (A:Option Addr) (c:Nat) (D:Option Addr) (pn pd:Nat) (w:World) (hf:f.length<=2000000) (hl:l.length<=2000000) (ha:∀s∈an,s.length<=2000000) (hal:an.length<=20000) (hA:HasP w (inB w) 1 A an.length (strs an)) (hf0:f≠[]) (hl0:l≠[]):
  Calls Tryz.prog 169 #[.agg #[.int .i64 k,.string sa,.string sv,.string (txt f),.string (txt l),.slice A an.length c,.slice D pn pd]] w (WPost (piecesW f an l) w):=by
 have hb1:Below w.heap.size w (w.alloc (.cells #[.int .i64 k,.string sa,.string sv,.string (txt f),.string (txt l),.slice A an.length c,.slice D pn pd] 39)):=(Below.refl _ _).alloc (Nat.le_refl _) _
 have hB1:Blk (w.alloc (.cells #[.int .i64 k,.string sa,.string sv,.string (txt f),.string (txt l),.slice A an.length c,.slice D pn pd] 39)) w.heap.size [.int .i64 k,.string sa,.string sv,.string (txt f),.string (txt l),.slice A an.length c,.slice D pn pd]:=Blk.new w [.int .i64 k,.string sa,.string sv,.string (txt f),.string (txt l),.slice A an.length c,.slice D pn pd] 39
 obtain⟨w1,hw1⟩:∃w1,w.alloc (.cells #[.int .i64 k,.string sa,.string sv,.string (txt f),.string (txt l),.slice A an.length c,.slice D pn pd] 39)=w1:=⟨_,rfl⟩
 rw[hw1] at hb1 hB1
 obtain⟨p1,hp1⟩:∃p1,w.heap.size=p1:=⟨_,rfl⟩
 rw[hp1] at hB1
 have K3:Hid (∀W,Below w1.heap.size w1 W->W.cell? ⟨p1,3,none⟩=some (.string (txt f))):=hide fun W hW=>(hB1.fr (Fr.of (X:=fun _=>False) hW) id).cells 3 _ rfl
 have K4:Hid (∀W,Below w1.heap.size w1 W->W.cell? ⟨p1,4,none⟩=some (.string (txt l))):=hide fun W hW=>(hB1.fr (Fr.of (X:=fun _=>False) hW) id).cells 4 _ rfl
 have K5:Hid (∀W,Below w1.heap.size w1 W->W.cell? ⟨p1,5,none⟩=some (.slice A an.length c)):=hide fun W hW=>(hB1.fr (Fr.of (X:=fun _=>False) hW) id).cells 5 _ rfl
 have HF:Hid (∀W,Calls Tryz.prog 102 #[.int .u8 128,.string (txt f)] W (WPost (Ber.fieldOf 0x80 f) W)):=hide fun W=>zBb 0x80 f (by omega) W
 have HL:Hid (∀W,Calls Tryz.prog 102 #[.int .u8 130,.string (txt l)] W (WPost (Ber.fieldOf 0x82 l) W)):=hide fun W=>zBb 0x82 l (by omega) W
 have HE:Hid (∀W,Below w1.heap.size w1 W->Calls Tryz.prog 110 #[.slice A an.length c,.func (.func 180) #[] #[]] W (WPost (Wr.eachGo (Ber.fieldOf 0x81) an []) W)):=hide fun W hW=>by
  have hbW:=hb1.trans (hW.mono hb1.size)
  exact weachT_any 180 #[] (fun args w=>by go_simp) (Ber.fieldOf 0x81) an W A an.length c ⟨A,c,strs an,rfl,hal,HasP.move hA (fun p hp=>hbW.cell (by exact hp)) (fun k hk=>Nat.lt_of_lt_of_le hk hbW.size),strs_row an⟩
   (fun x hx=>by have:=zAk (ha x hx) 0x81;omega) (fun x hx V hV=>wany_any x (by have:=ha x hx;omega) V)
 have h1:=zAk hf 0x80
 have h2:=zAk hl 0x82
 have h3:=Wr.eachGo_len (f:=Ber.fieldOf 0x81) (K:=2000010) an [] (fun x hx=>zAk (ha x hx) 0x81)
 simp only[List.length_nil] at h3
 have e1:optW 0x80 f=Ber.fieldOf 0x80 f:=by unfold optW;rw[if_neg hf0]
 have e2:optW 0x82 l=Ber.fieldOf 0x82 l:=by unfold optW;rw[if_neg hl0]
 have hgo:piecesW f an l=Ber.fieldOf 0x30 ((Ber.fieldOf 0x80 f++Wr.eachGo (Ber.fieldOf 0x81) an [])++Ber.fieldOf 0x82 l):=by unfold piecesW;rw[e1,e2]
 rw[hgo]
 obtain⟨l1,hl1⟩:∃l1,Ber.fieldOf 0x80 f=l1:=⟨_,rfl⟩
 obtain⟨l2,hl2⟩:∃l2,Ber.fieldOf 0x82 l=l2:=⟨_,rfl⟩
 obtain⟨la,hla⟩:∃la,Wr.eachGo (Ber.fieldOf 0x81) an []=la:=⟨_,rfl⟩
 rw[hl1] at HF h1
 rw[hl2] at HL h2
 rw[hla] at HE h3
 rw[hl1,hla,hl2]
 obtain⟨y1,hy1⟩:∃y,l1++la=y:=⟨_,rfl⟩
 obtain⟨bb,hbb⟩:∃bb,y1++l2=bb:=⟨_,rfl⟩
 have hyl:y1.length<=5000000:=by rw[<-hy1];(try simp only[List.length_append,List.nil_append]);omega
 have hbl:bb.length<=9000000:=by rw[<-hbb];(try simp only[List.length_append,List.append_nil]);omega
 obtain⟨bs,hbs⟩:∃bs,Ber.fieldOf 0x30 bb=bs:=⟨_,rfl⟩
 rw[hy1,hbb,hbs]
 have Hy1:=hide hy1
 have Hbb:=hide hbb
 have Hbs:=hide hbs
 have HBw:=hide hb1
 have Hw:=hide hw1
 have Hp:=hide hp1
 have nf:=txt_ne hf0
 have nf2:¬(txt f).toList=[]:=by rw[ByteArray.toList_eq,zBa];exact hf0
 have nf3:(txt f).toList.isEmpty=false:=by rw[ByteArray.toList_eq,zBa];cases f with | nil=>exact absurd rfl hf0 | cons a r=>rfl
 have nl:=txt_ne hl0
 have nl2:¬(txt l).toList=[]:=by rw[ByteArray.toList_eq,zBa];exact hl0
 have nl3:(txt l).toList.isEmpty=false:=by rw[ByteArray.toList_eq,zBa];cases l with | nil=>exact absurd rfl hl0 | cons a r=>rfl
 clear hb1 hB1 hw1 hp1 hgo hl1 hl2 hla hy1 hbb hbs hf hl ha hal hA e1 e2 hf0 hl0
 generalize txt f=sf at *
 generalize txt l=sl at *
 generalize an.length=am at *
 have HB1:Hid (Below w1.heap.size w1 w1):=hide (Below.refl _ _)
 have k3:=K3.out _ HB1.out
 go_enter Tryz.func169,Tryz.ntmps169
 go_upto_region 1 with fail
 rw[Hw.out]
 try rw[Hp.out]
 clear Hw
 go_wp2_with (go_at_call 102;fail)
 refine (HF.out w1).mono ?_
 rintro e w2 hpost
 obtain⟨v1,rfl,hown,hb⟩:=hpost.out
 have HO2:=hide hown
 have HB2:=hide (HB1.out.trans hb)
 clear hpost hown hb k3
 have k5:=K5.out _ HB2.out
 go_wp2_with (go_at_call 110;fail)
 refine (HE.out w2 HB2.out).mono ?_
 rintro e w3 hpost
 obtain⟨v2,rfl,hown,hb⟩:=hpost.out
 obtain⟨Ax,cx,rfl,-,hx⟩:=own_form hown
 have ho:=zAo HO2.out hb
 have HB3:=hT HB2 hb
 have hbz:=HB3.out.size
 have Hl1y:Hid ((l1:List UInt8).length+la.length=y1.length):=hide (by rw[<-Hy1.out,List.length_append])
 have hbd:(l1:List UInt8).length+la.length<=100000000:=by have:=Hl1y.out;omega
 clear hpost hown hb HO2 k5
 go_wp2_with (at_builtin;go_must (refine app8g _ rfl (.tmp 11) (.tmp 15) rfl w1.heap.size _ _ l1 rfl ho _ Ax _ cx la rfl hx y1 Hy1 Hl1y (by omega) hbz ?_))
 intro v5 w4 hor hb _
 have HO4:=hide hor
 have HB4:=hide (HB3.out.trans hb)
 have k4:=K4.out _ HB4.out
 clear ho hx hbz hor hb hbd
 go_wp2_with (go_at_call 102;fail)
 refine (HL.out w4).mono ?_
 rintro e w5 hpost
 obtain⟨v2,rfl,hown,hb⟩:=hpost.out
 obtain⟨Ay,cy,rfl,-,hx⟩:=own_form hown
 have ho:=zAo HO4.out hb
 have HB5:=hT HB4 hb
 have hbz:=HB5.out.size
 have Hl2y:Hid (y1.length+l2.length=bb.length):=hide (by rw[<-Hbb.out,List.length_append])
 have hbd:y1.length+l2.length<=100000000:=by omega
 clear hpost hown hb HO4 k4
 go_wp2_with (at_builtin;go_must (refine app8g _ rfl (.tmp 20) (.tmp 23) rfl w1.heap.size _ _ y1 rfl ho _ Ay _ cy l2 rfl hx bb Hbb Hl2y (by omega) hbz ?_))
 intro v6 w6 hor hb _
 have HO6:=hide hor
 have HB6:=hide (HB5.out.trans hb)
 clear ho hx hbz hor hb hbd
 have hfi:=zA8 (t:=0x30) (zAg HO6.out HBw.out.size) (HBw.out.trans (HB6.out.mono HBw.out.size)) (by omega)
 rw[Hbs.out] at hfi
 have Hfi:=hide hfi
 clear hfi HO6
 go_wp2_with (go_at_call 62;fail)
 refine Hfi.out.mono ?_
 rintro e w9 hpost
 obtain⟨v,rfl,hown,hb⟩:=hpost.out
 have HO:=hide hown
 have HB:=hide hb
 clear hpost hown hb Hfi
 go_wp2
 go_ret
 exact⟨⟨_,rfl,HO.out,HB.out⟩⟩
theorem wpieces_any (k:Int) (sa sv:ByteArray) (f l:List UInt8) (an:List (List UInt8)) (A:Option Addr) (c:Nat) (D:Option Addr) (pn pd:Nat) (w:World) (hf:f.length<=2000000) (hl:l.length<=2000000) (ha:∀s∈an,s.length<=2000000) (hal:an.length<=20000) (hA:HasP w (inB w) 1 A an.length (strs an)):
  Calls Tryz.prog 169 #[.agg #[.int .i64 k,.string sa,.string sv,.string (txt f),.string (txt l),.slice A an.length c,.slice D pn pd]] w (WPost (piecesW f an l) w):=by
 by_cases hf0:f=[]
 ·by_cases hl0:l=[]
  ·exact wpieces_nn k sa sv f l an A c D pn pd w hf hl ha hal hA hf0 hl0
  ·exact wpieces_ny k sa sv f l an A c D pn pd w hf hl ha hal hA hf0 hl0
 ·by_cases hl0:l=[]
  ·exact wpieces_yn k sa sv f l an A c D pn pd w hf hl ha hal hA hf0 hl0
  ·exact wpieces_yy k sa sv f l an A c D pn pd w hf hl ha hal hA hf0 hl0
end Go.Proofs.YtcpjmgfloimfhaaGreat
