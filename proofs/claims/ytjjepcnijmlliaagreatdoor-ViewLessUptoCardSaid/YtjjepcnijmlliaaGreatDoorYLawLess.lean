/- ViewLess: nothing is in a view that isn't in the entries, and that may not be read. By an AI agent. -/
import Derived.Test.YtjjepcnijmlliaaGreatDoorYBulk
import Derived.Test.YtjjepcnijmlliaaGreatDoorYX
set_option maxRecDepth 100000
set_option maxHeartbeats 64000000
namespace Go.Proofs.YtjjepcnijmlliaaGreatDoor
open Go.RowKit Go.Proofs.YtjjepcnijmlliaaGreatDoor.Opens
set_option linter.unusedVariables false
set_option linter.unusedSimpArgs false
structure VL (w0 w:World) (AR:Option Addr) (m cR:Nat) (R:List Ru) (A:Option Addr) (n:Nat) (xs:List Value) (L:List EN) (AV:Option Addr) (kv:Nat) (ys:List Value) (V:List EN):Prop where
 vo:VO w0 w AR m cR R A n xs L
 vh:Has w w.heap.size 2 AV kv ys
 ve:ENs w w.heap.size ys V
theorem EnAt.upto {w:World} {B B' g o:Nat} {e:EN} {V:Option Addr} {c:Nat} {ys:List Value} (h:EnAt w B g o e V c ys) (hB:B≤B'):EnAt w B' g o e V c ys:=⟨h.e0,h.e1,h.cap,h.most,h.has.upto hB,h.attrs.upto hB⟩
theorem VL.grow {w0 w w':World} {AR:Option Addr} {m cR:Nat} {R:List Ru} {A:Option Addr} {n:Nat} {xs:List Value} {L:List EN} {AV:Option Addr} {kv:Nat} {ys:List Value} {V:List EN}
  (h:VL w0 w AR m cR R A n xs L AV kv ys V) (hb:Below w.heap.size w w'):VL w0 w' AR m cR R A n xs L AV kv ys V:=⟨h.vo.grow hb,(h.vh.below hb).upto hb.size,h.ve.grow hb⟩
theorem lessY_no (L:List EN) (R:List Ru) (s:List UInt8) (w:World) (A:Option Addr) (n c:Nat) (xs:List Value) (hA:Has w w.heap.size 2 A n xs) (hL:ENs w w.heap.size xs L) (AR:Option Addr) (m cR:Nat) (hR:Has w w.heap.size 5 AR m (rusC R)) (hT:TM w) (hF:∀w,Has w w.heap.size 2 A n xs→ENs w w.heap.size xs L→Has w w.heap.size 5 AR m (rusC R)→Calls Tryz.prog 9 #[.slice A n c,.slice AR m cR,.string (txt s)] w fun e w'=>e=.returned (.bool false)∧Below w.heap.size w w'):
  Calls Tryz.prog 4 #[.slice A n c,.slice AR m cR,.string (txt s)] w fun e w'=>e=.returned (.bool true)∧Below w.heap.size w w':=by
 have hC:VO w w AR m cR R A n xs L:=⟨Below.refl _ _,hT,hR,hA,hL⟩
 have HC:=hide hC
 have HF:=hide hF
 clear hC hF hA hL hR hT
 generalize txt s=S at *
 go_enter Tryz.func4,Tryz.ntmps4
 go_wp2_with (go_at_call 8;fail)
 refine (awakeY_any _ HC.out.tm).mono ?_
 rintro e w2 ⟨rfl,hb2⟩
 have HC2:=hide (HC.out.grow hb2)
 clear hb2 HC
 go_wp2_with (go_at_call 9;fail)
 refine (HF.out _ HC2.out.has HC2.out.ents HC2.out.rules).mono ?_
 rintro e w3 ⟨rfl,hb3⟩
 have HC3:=hide (HC2.out.grow hb3)
 clear hb3 HC2 HF
 go_wp2_with (go_at_call 8;fail)
 refine (awakeY_any _ HC3.out.tm).mono ?_
 rintro e w4 ⟨rfl,hb4⟩
 have HC4:=hide (HC3.out.grow hb4)
 clear hb4 HC3
 go_wp2
 go_ret
 exact⟨rfl,HC4.out.base⟩
theorem lessY_yes (L:List EN) (R:List Ru) (s:List UInt8) (w:World) (A:Option Addr) (n c:Nat) (xs:List Value) (hA:Has w w.heap.size 2 A n xs) (hL:ENs w w.heap.size xs L) (AR:Option Addr) (m cR:Nat) (hR:Has w w.heap.size 5 AR m (rusC R)) (hT:TM w) (hsm:SmallN L) (hfr:FewR R) (hs:s.length≤3000) (hF:∀w,Has w w.heap.size 2 A n xs→ENs w w.heap.size xs L→Has w w.heap.size 5 AR m (rusC R)→Calls Tryz.prog 9 #[.slice A n c,.slice AR m cR,.string (txt s)] w fun e w'=>e=.returned (.bool true)∧Below w.heap.size w w'):
  Calls Tryz.prog 4 #[.slice A n c,.slice AR m cR,.string (txt s)] w fun e w'=>e=.returned (.bool true)∧Below w.heap.size w w':=by
 have hnl:=hA.ens_n hL
 have hml:=hR.rules_n
 have hn:n≤3000:=by rw[hnl];exact hsm.len
 have hm:m≤100:=by rw[hml];exact hfr.1
 have hwe:=wee_of_small hsm
 have hC:VO w w AR m cR R A n xs L:=⟨Below.refl _ _,hT,hR,hA,hL⟩
 have hV:∀v∈viewL R s L,LessV R s L v:=fun v hv=>view_less hv
 have hvl:(viewL R s L).length≤L.length:=view_len R s L
 have hTh:=fun w hR=>theirs12_any R w AR m cR hR (by omega)
 have hOf:∀(w:World) (A2:Option Addr) (c2:Nat),Has w w.heap.size 5 A2 R.length (rusC R)→Has w w.heap.size 2 A n xs→ENs w w.heap.size xs L→TM w→Calls Tryz.prog 11 #[.slice A n c,.slice A2 R.length c2,.string (txt s)] w (EntsPost (viewL R s L) w):=fun w A2 c2 h3 h4 h5 h6=>
  pof_any R s L w A2 _ c2 h3 hfr.2 (by omega) (by omega) A n c xs h4 h5 (by omega) hwe h6
 have hAt:∀v∈viewL R s L,∀w,Has w w.heap.size 2 A n xs→ENs w w.heap.size xs L→TM w→Calls Tryz.prog 17 #[.slice A n c,.string (txt v.1)] w fun e w'=>e=.returned (.int .i64 (atN L v.1))∧Below w.heap.size w w':=fun v hv w h4 h5 h6=>by
  have:=norm_short v.1
  rw[(hV v hv).norm] at this
  simp only at this
  exact rat_any L v.1 w A n c xs h4 h5 (by omega) (by omega) h6
 have hAt0:∀v∈viewL R s L,0≤atN L v.1:=fun v hv=>by
  obtain⟨e,he,h⟩:=(hV v hv).there
  exact atN_yes (hV v hv).norm he h
 have hDe:∀v∈viewL R s L,∀a:List UInt8,decideV R s 1 v.1 a=true→∀(w:World) (A2:Option Addr) (c2:Nat),Has w w.heap.size 5 A2 R.length (rusC R)→TM w→Calls Tryz.prog 18 #[.slice A2 R.length c2,.string (txt s),.int .i64 1,.string (txt v.1),.string (txt a)] w fun e w'=>e=.returned (.bool true)∧Below w.heap.size w w':=fun v hv a ha w A2 c2 h3 h6=>by
  have:=norm_short v.1
  rw[(hV v hv).norm] at this
  simp only at this
  rw[←ha]
  exact decide_any R s 1 v.1 a w A2 R.length c2 h3 hfr.2 (by omega) (by omega) (by omega) h6
 have HC:=hide hC
 have HF:=hide hF
 have HTh:=hide hTh
 have HOf:=hide hOf
 have HAt:=hide hAt
 have HAt0:=hide hAt0
 have HDe:=hide hDe
 have HV:=hide hV
 have HN:=hide hnl
 have Hvl:=hide hvl
 clear hC hF hA hL hR hT hTh hOf hAt hAt0 hDe hV hnl hml hsm hfr hs hwe hvl
 generalize txt s=S at *
 go_enter Tryz.func4,Tryz.ntmps4
 go_wp2_with (go_at_call 8;fail)
 refine (awakeY_any _ HC.out.tm).mono ?_
 rintro e w2 ⟨rfl,hb2⟩
 have HC2:=hide (HC.out.grow hb2)
 clear hb2 HC
 go_wp2_with (go_at_call 9;fail)
 refine (HF.out _ HC2.out.has HC2.out.ents HC2.out.rules).mono ?_
 rintro e w3 ⟨rfl,hb3⟩
 have HC3:=hide (HC2.out.grow hb3)
 clear hb3 HC2 HF
 go_wp2_with (go_at_call 12;fail)
 refine (HTh.out _ HC3.out.rules).mono ?_
 rintro e w5 hpost
 obtain⟨v5,rfl,hown5,hb5⟩:=hpost.out
 obtain⟨A5,c5,rfl,hc5,hh5⟩:=own_form hown5
 have HC5:=hide (HC3.out.grow hb5)
 have H5:=hide hh5
 clear hpost hown5 hc5 hh5 hb5 HC3
 go_wp2_with (go_at_call 11;fail)
 refine (HOf.out _ _ _ H5.out HC5.out.has HC5.out.ents HC5.out.tm).mono ?_
 rintro e w7 hpost
 obtain⟨A7,c7,ys7,rfl,hc7,hm7,hh7,he7,hb7⟩:=hpost.read
 have HL7:Hid (VL w w7 AR m cR R A n xs L A7 (viewL R s L).length ys7 (viewL R s L)):=hide ⟨HC5.out.grow hb7,hh7,he7⟩
 clear hpost hc7 hm7 hh7 he7 hb7 HC5 H5 HOf
 generalize viewL R s L=V at *
 obtain⟨kv,hkv⟩:∃kv,V.length=kv:=⟨_,rfl⟩
 rw[hkv] at HL7 Hvl
 rw[hkv]
 have Hkv:=hide hkv
 have hkv3:kv≤3000:=by have:=Hvl.out;have:=HN.out;omega
 clear hkv
 go_wp2
 go_loopg [29] kv (fun r s29 wx=>∃i:Nat,i+r=kv∧s29=.int .i64 (i:Int)∧Hid (Below w7.heap.size w7 wx))
 case atStart=>exact⟨0,by omega,rfl,hide (Below.refl _ _)⟩
 case round=>
  obtain⟨i,hig,rfl,hbr⟩:=hrel
  cases gk with
  | zero=>
   obtain rfl:i=kv:=by omega
   have hiz:¬((i:Int)<(i:Int)):=by omega
   have z:(i:Int)≤(n:Int):=by have:=Hvl.out;have:=HN.out;omega
   have HE:=hide (HL7.out.grow hbr.out).vo.base
   clear HTh HAt HAt0 HDe HV HN Hvl HL7 Hkv hbr
   go_wp2
   go_ret
   exact⟨rfl,HE.out⟩
  | succ r=>
   have hi:i<kv:=by omega
   have hiz:(i:Int)<(kv:Int):=by omega
   obtain⟨v,hv⟩:∃v,V[i]?=some v:=⟨_,List.getElem?_eq_getElem (by rw[Hkv.out];exact hi)⟩
   have hvm:=List.mem_of_getElem? hv
   obtain⟨g7,o7,hAe,hg7,hat7⟩:=HL7.out.vh.en HL7.out.ve (fun h=>by rw[h] at hv;simp at hv)
   subst hAe
   obtain⟨U,cu,us,hat7⟩:=hat7 i v hv
   have hatr:=hat7.below hg7 hbr.out
   have e0:=hatr.e0
   have e1:=hatr.e1
   have hLr:=HL7.out.grow hbr.out
   have Hcall:=hide (HAt.out v hvm wr hLr.vo.has hLr.vo.ents hLr.vo.tm)
   have ha0:=HAt0.out v hvm
   have Hls:=hide (HV.out v hvm)
   have HD0:Hid (∀(w:World) (A2:Option Addr) (c2:Nat),Has w w.heap.size 5 A2 R.length (rusC R)→TM w→Calls Tryz.prog 18 #[.slice A2 R.length c2,.string S,.int .i64 1,.string (txt v.1),.string ⟨#[]⟩] w fun e w'=>e=.returned (.bool true)∧Below w.heap.size w w'):=hide (HDe.out v hvm [] Hls.out.may)
   have HDs:Hid (∀a∈v.2,∀(w:World) (A2:Option Addr) (c2:Nat),Has w w.heap.size 5 A2 R.length (rusC R)→TM w→Calls Tryz.prog 18 #[.slice A2 R.length c2,.string S,.int .i64 1,.string (txt v.1),.string (txt a.1)] w fun e w'=>e=.returned (.bool true)∧Below w.heap.size w w'):=hide fun a ha=>HDe.out v hvm a.1 (Hls.out.each a ha).1
   have HLr:=hide hLr
   obtain⟨NV,hNV⟩:∃NV,txt v.1=NV:=⟨_,rfl⟩
   rw[hNV] at Hcall HD0 HDs e0
   have HNV:=hide hNV
   obtain⟨ku,hku⟩:∃ku,v.2.length=ku:=⟨_,rfl⟩
   rw[hku] at e1
   have Hku:=hide hku
   have Hatr:=hide hatr
   have hku9:(ku:Int)≤9223372036854775807:=by
    have h1:=hatr.cap
    have h2:=hatr.most
    unfold maxLen at h2
    omega
   have Hgr:Hid (g7<wr.heap.size):=hide (Nat.lt_of_lt_of_le hg7 hbr.out.size)
   generalize atN L v.1=ai at *
   have z:¬(ai<0):=by omega
   have zd:decide (ai<0)=false:=decide_eq_false z
   clear hat7 hatr hLr hv hvm hNV hku
   go_wp2_with (go_at_call 17;fail)
   refine Hcall.out.mono ?_
   rintro e w8 ⟨rfl,hb8⟩
   have HL8:=hide (HLr.out.grow hb8)
   have HB8:Hid (Below w8.heap.size w8 w8):=hide (Below.refl _ _)
   have Hat7:Hid (EnAt w8 w8.heap.size g7 (o7+i*2) v U cu us):=hide ⟨(hb8.cell (p:=⟨g7,o7+i*2,none⟩) Hgr.out).trans Hatr.out.e0,(hb8.cell (p:=⟨g7,o7+i*2+1,none⟩) Hgr.out).trans Hatr.out.e1,Hatr.out.cap,Hatr.out.most,(((Hatr.out.has.upto hbr.out.size).below hb8).upto hb8.size),((Hatr.out.attrs.upto hbr.out.size).grow hb8)⟩
   have Hg7:Hid (g7<w8.heap.size):=hide (Nat.lt_of_lt_of_le Hgr.out hb8.size)
   have Hn0:Hid (w8.cell? ⟨g7,o7+i*2,none⟩=some (.string NV)):=hide (by rw[←HNV.out];exact Hat7.out.e0)
   have Hbr8:=hide (hbr.out.trans (hb8.mono hbr.out.size))
   clear hb8 Hcall HLr Hatr Hgr e0 e1 hbr
   go_wp2_with fail
   refine grow_begin (by kernel_rfl) ?_
   have hdr:Below w8.heap.size w8 w8.drew:=(Below.refl _ _).drew
   have HLd:=hide (HL8.out.grow hdr)
   have HBd:=hide (HB8.out.trans (hdr.mono HB8.out.size))
   have X0:Hid (∀W,Below w8.drew.heap.size w8.drew W→W.cell? ⟨g7,o7+i*2,none⟩=some (.string NV)∧True):=hide fun W hW=>by
    have h2:=HBd.out.trans (hW.mono HBd.out.size)
    exact⟨(h2.cell (p:=⟨g7,o7+i*2,none⟩) Hg7.out).trans Hn0.out,trivial⟩
   clear hdr HL8 HB8
   generalize w8.drew=wd at *
   have HWd:Hid (Below wd.heap.size wd wd):=hide (Below.refl _ _)
   refine grow_take 0 (some 39) (v:=?va0) rfl rfl (by kernel_rfl) (by kernel_rfl) (by kernel_rfl) (fun _ _ _ h=>h) (by rfl) (fun W hW=>?ya0) ?_
   case ya0=>
    go_simp<;>with_reducible rfl
   try simp only[Act.put,List.setIfInBounds_toArray,List.set_cons_zero,List.set_cons_succ]
   refine grow_take 1 (some 40) (v:=.bool false) rfl rfl (by kernel_rfl) (by kernel_rfl) (by kernel_rfl) (fun _ _ _ h=>h) (by rfl) (fun W hW=>?ya1) ?_
   case ya1=>
    go_simp<;>with_reducible rfl
   try simp only[Act.put,List.setIfInBounds_toArray,List.set_cons_zero,List.set_cons_succ]
   refine grow_take 2 (some 41) (v:=?va2) rfl rfl (by kernel_rfl) (by kernel_rfl) (by kernel_rfl) (fun _ _ _ h=>h) (by rfl) (fun W hW=>?ya2) ?_
   case ya2=>
    go_simp<;>with_reducible rfl
   try simp only[Act.put,List.setIfInBounds_toArray,List.set_cons_zero,List.set_cons_succ]
   refine grow_take 3 (some 42) (v:=?va3) rfl rfl (by kernel_rfl) (by kernel_rfl) (by kernel_rfl) (fun _ _ _ h=>h) (by rfl) (fun W hW=>?ya3) ?_
   case ya3=>
    go_simp<;>with_reducible rfl
   try simp only[Act.put,List.setIfInBounds_toArray,List.set_cons_zero,List.set_cons_succ]
   refine grow_take 5 (some 44) (v:=?va5) rfl rfl (by kernel_rfl) (by kernel_rfl) (by kernel_rfl) (fun _ _ _ h=>h) (by rfl) (fun W hW=>?ya5) ?_
   case ya5=>
    go_simp<;>with_reducible rfl
   try simp only[Act.put,List.setIfInBounds_toArray,List.set_cons_zero,List.set_cons_succ]
   refine grow_take 6 (some 45) (v:=?va6) rfl rfl (by kernel_rfl) (by kernel_rfl) (by kernel_rfl) (fun _ _ _ h=>h) (by rfl) (fun W hW=>?ya6) ?_
   case ya6=>
    go_simp<;>with_reducible rfl
   try simp only[Act.put,List.setIfInBounds_toArray,List.set_cons_zero,List.set_cons_succ]
   refine grow_take 7 (some 46) (v:=?va7) rfl rfl (by kernel_rfl) (by kernel_rfl) (by kernel_rfl) (fun _ _ _ h=>h) (by rfl) (fun W hW=>?ya7) ?_
   case ya7=>
    go_simp<;>with_reducible rfl
   try simp only[Act.put,List.setIfInBounds_toArray,List.set_cons_zero,List.set_cons_succ]
   refine grow_take 8 (some 47) (v:=?va8) rfl rfl (by kernel_rfl) (by kernel_rfl) (by kernel_rfl) (fun _ _ _ h=>h) (by rfl) (fun W hW=>?ya8) ?_
   case ya8=>
    go_simp<;>with_reducible rfl
   try simp only[Act.put,List.setIfInBounds_toArray,List.set_cons_zero,List.set_cons_succ]
   refine grow_take 9 (some 48) (v:=?va9) rfl rfl (by kernel_rfl) (by kernel_rfl) (by kernel_rfl) (fun _ _ _ h=>h) (by rfl) (fun W hW=>?ya9) ?_
   case ya9=>
    go_simp<;>with_reducible rfl
   try simp only[Act.put,List.setIfInBounds_toArray,List.set_cons_zero,List.set_cons_succ]
   refine grow_take 10 (some 49) (v:=?va10) rfl rfl (by kernel_rfl) (by kernel_rfl) (by kernel_rfl) (fun _ _ _ h=>h) (by rfl) (fun W hW=>?ya10) ?_
   case ya10=>
    have k0:=(X0.out W hW).1
    go_simp<;>with_reducible rfl
   try simp only[Act.put,List.setIfInBounds_toArray,List.set_cons_zero,List.set_cons_succ]
   refine grow_only 4 rfl (by kernel_rfl) (fun K hK=>?_)
   go_simp
   refine (HTh.out _ HLd.out.vo.rules).mono ?_
   rintro e wt hpost
   obtain⟨vt,rfl,hown,hb⟩:=hpost.out
   obtain⟨At,ct,rfl,hct,hht⟩:=own_form hown
   refine hK.out _ _ hb ?_
   have HLt:=hide (HLd.out.grow hb)
   have Ht:=hide hht
   have HBt:=hide (HBd.out.trans (hb.mono HBd.out.size))
   have HWt:=hide (HWd.out.trans (hb.mono HWd.out.size))
   clear hK K hpost hown hct hht hb HLd HBd HWd
   try simp only[Act.put,List.setIfInBounds_toArray,List.set_cons_zero,List.set_cons_succ]
   refine grow_only 11 rfl (by kernel_rfl) (fun K hK=>?_)
   go_simp
   refine (HD0.out _ _ _ Ht.out HLt.out.vo.tm).mono ?_
   rintro e wz ⟨rfl,hb⟩
   refine hK.out _ _ hb ?_
   have HLz:=hide (HLt.out.grow hb)
   have HBz:=hide (HBt.out.trans (hb.mono HBt.out.size))
   have HWz:=hide (HWt.out.trans (hb.mono HWt.out.size))
   clear hK K hb HLt HBt HWt Ht HD0
   try simp only[Act.put,List.setIfInBounds_toArray,List.set_cons_zero,List.set_cons_succ]
   refine grow_take 12 (some 51) (v:=?va12) rfl rfl (by kernel_rfl) (by kernel_rfl) (by kernel_rfl) (fun _ _ _ h=>h) (by rfl) (fun W hW=>?ya12) ?_
   case ya12=>
    go_simp<;>with_reducible rfl
   try simp only[Act.put,List.setIfInBounds_toArray,List.set_cons_zero,List.set_cons_succ]
   refine grow_take 13 (some 52) (v:=?va13) rfl rfl (by kernel_rfl) (by kernel_rfl) (by kernel_rfl) (fun _ _ _ h=>h) (by rfl) (fun W hW=>?ya13) ?_
   case ya13=>
    go_simp<;>with_reducible rfl
   try simp only[Act.put,List.setIfInBounds_toArray,List.set_cons_zero,List.set_cons_succ]
   refine grow_done (by kernel_rfl) ?_ _
   have HBy:=HBz
   have HLy:=HLz
   clear HBz HLz HWz
   have Hatz:=hide ((Hat7.out.below Hg7.out HBy.out).upto HBy.out.size)
   have Hg7z:Hid (g7<wz.heap.size):=hide (Nat.lt_of_lt_of_le Hg7.out HBy.out.size)
   have Hn0z:Hid (wz.cell? ⟨g7,o7+i*2,none⟩=some (.string NV)):=hide ((HBy.out.cell (p:=⟨g7,o7+i*2,none⟩) Hg7.out).trans Hn0.out)
   have e1z:=Hatz.out.e1
   clear Hat7 X0
   rw[Hku.out] at e1z
   go_wp2
   go_loopg [59] ku (fun r2 s59 wx=>∃j:Nat,j+r2=ku∧s59=.int .i64 (j:Int)∧Hid (Below wz.heap.size wz wx))
   case atStart=>exact⟨0,by omega,rfl,hide (Below.refl _ _)⟩
   case round=>
    obtain⟨j,hjg,rfl,hbz⟩:=hrel
    cases gk with
    | zero=>
     obtain rfl:j=ku:=by omega
     have hjz:¬((j:Int)<(j:Int)):=by omega
     have HBn:=hide (Hbr8.out.trans ((HBy.out.trans (hbz.out.mono HBy.out.size)).mono Hbr8.out.size))
     clear HLy Hatz HDs Hn0z Hg7z HBy hbz Hbr8 Hls HNV Hku
     go_wp2
     go_roundg r
     case measure=>omega
     case rel=>exact⟨i+1,by omega,by go_num,HBn⟩
    | succ r2=>
     have hj:j<ku:=by omega
     have hjz:(j:Int)<(ku:Int):=by omega
     obtain⟨a,ha⟩:∃a,v.2[j]?=some a:=⟨_,List.getElem?_eq_getElem (by rw[Hku.out];exact hj)⟩
     have ham:=List.mem_of_getElem? ha
     obtain⟨g8,o8,hUe,hg8,hat8⟩:=Hatz.out.has.ea Hatz.out.attrs (fun h=>by rw[h] at ha;simp at ha)
     have HUe:=hide hUe
     obtain⟨Av,cv2,hat8⟩:=hat8 j a ha
     have q1:=(Hatz.out.below Hg7z.out hbz.out).e1
     have hea:=hat8.below hg8 hbz.out
     have f0:=hea.e0
     have f1:=hea.e1
     have q0:a.2.length≠0:=fun h=>((Hls.out.each a ham).2) (List.eq_nil_of_length_eq_zero h)
     rw[Hku.out] at q1
     have HDa:=hide (HDs.out a ham)
     obtain⟨kv2,hkv2⟩:∃k,a.2.length=k:=⟨_,rfl⟩
     rw[hkv2] at f1 q0
     have hba:=below1 wr (.cells #[.string (txt a.1),.slice Av kv2 cv2] 42)
     have hXa:=BoxE.new wr (txt a.1) Av kv2 cv2 42
     have HX9:=hide hXa
     have HL9:=hide ((HLy.out.grow hbz.out).grow hba)
     have HB9:=hide (hbz.out.trans (hba.mono hbz.out.size))
     have hq:((kv2:Int)==0)=false:=beq_false_of_ne (by omega)
     generalize txt a.1=TA at *
     subst hUe
     clear hat8 hea hba hXa ha ham hkv2 hbz HLy Hatz
     obtain⟨hb9,hhb9⟩:∃q,wr.heap.size=q:=⟨_,rfl⟩
     rw[hhb9] at HX9
     go_upto_region 14 with fail
     obtain⟨w9,hw9⟩:∃w9,wr.alloc (.cells #[.string TA,.slice Av kv2 cv2] 42)=w9:=⟨_,rfl⟩
     rw[hw9] at HX9 HL9 HB9
     rw[hw9]
     try rw[hhb9]
     clear hw9 f0 f1 q1
     refine grow_begin (by kernel_rfl) ?_
     have hdr:Below w9.heap.size w9 w9.drew:=(Below.refl _ _).drew
     have HLd:=hide (HL9.out.grow hdr)
     have HBd:=hide (HB9.out.trans (hdr.mono HB9.out.size))
     have X0:Hid (∀W,Below w9.drew.heap.size w9.drew W→W.cell? ⟨g7,o7+i*2,none⟩=some (.string NV)∧W.cell? ⟨hb9,0,none⟩=some (.string TA)∧W.cell? ⟨hb9,1,none⟩=some (.slice Av kv2 cv2)):=hide fun W hW=>by
      have h2:=HBd.out.trans (hW.mono HBd.out.size)
      have q:=(HX9.out.grow hdr).grow hW
      exact⟨(h2.cell (p:=⟨g7,o7+i*2,none⟩) Hg7z.out).trans Hn0z.out,q.c0,q.c1⟩
     clear hdr HL9 HB9 HX9
     generalize w9.drew=wd at *
     have HWd:Hid (Below wd.heap.size wd wd):=hide (Below.refl _ _)
     refine grow_take 0 (some 70) (v:=?vb0) rfl rfl (by kernel_rfl) (by kernel_rfl) (by kernel_rfl) (fun _ _ _ h=>h) (by rfl) (fun W hW=>?yb0) ?_
     case yb0=>
      go_simp<;>with_reducible rfl
     try simp only[Act.put,List.setIfInBounds_toArray,List.set_cons_zero,List.set_cons_succ]
     refine grow_take 2 (some 72) (v:=?vb2) rfl rfl (by kernel_rfl) (by kernel_rfl) (by kernel_rfl) (fun _ _ _ h=>h) (by rfl) (fun W hW=>?yb2) ?_
     case yb2=>
      go_simp<;>with_reducible rfl
     try simp only[Act.put,List.setIfInBounds_toArray,List.set_cons_zero,List.set_cons_succ]
     refine grow_take 3 (some 73) (v:=?vb3) rfl rfl (by kernel_rfl) (by kernel_rfl) (by kernel_rfl) (fun _ _ _ h=>h) (by rfl) (fun W hW=>?yb3) ?_
     case yb3=>
      go_simp<;>with_reducible rfl
     try simp only[Act.put,List.setIfInBounds_toArray,List.set_cons_zero,List.set_cons_succ]
     refine grow_take 4 (some 74) (v:=?vb4) rfl rfl (by kernel_rfl) (by kernel_rfl) (by kernel_rfl) (fun _ _ _ h=>h) (by rfl) (fun W hW=>?yb4) ?_
     case yb4=>
      go_simp<;>with_reducible rfl
     try simp only[Act.put,List.setIfInBounds_toArray,List.set_cons_zero,List.set_cons_succ]
     refine grow_take 5 (some 75) (v:=?vb5) rfl rfl (by kernel_rfl) (by kernel_rfl) (by kernel_rfl) (fun _ _ _ h=>h) (by rfl) (fun W hW=>?yb5) ?_
     case yb5=>
      go_simp<;>with_reducible rfl
     try simp only[Act.put,List.setIfInBounds_toArray,List.set_cons_zero,List.set_cons_succ]
     refine grow_take 6 (some 76) (v:=?vb6) rfl rfl (by kernel_rfl) (by kernel_rfl) (by kernel_rfl) (fun _ _ _ h=>h) (by rfl) (fun W hW=>?yb6) ?_
     case yb6=>
      go_simp<;>with_reducible rfl
     try simp only[Act.put,List.setIfInBounds_toArray,List.set_cons_zero,List.set_cons_succ]
     refine grow_take 7 (some 77) (v:=?vb7) rfl rfl (by kernel_rfl) (by kernel_rfl) (by kernel_rfl) (fun _ _ _ h=>h) (by rfl) (fun W hW=>?yb7) ?_
     case yb7=>
      have k0:=(X0.out W hW).1
      go_simp<;>with_reducible rfl
     try simp only[Act.put,List.setIfInBounds_toArray,List.set_cons_zero,List.set_cons_succ]
     refine grow_take 8 (some 78) (v:=?vb8) rfl rfl (by kernel_rfl) (by kernel_rfl) (by kernel_rfl) (fun _ _ _ h=>h) (by rfl) (fun W hW=>?yb8) ?_
     case yb8=>
      go_simp<;>with_reducible rfl
     try simp only[Act.put,List.setIfInBounds_toArray,List.set_cons_zero,List.set_cons_succ]
     refine grow_take 9 (some 79) (v:=?vb9) rfl rfl (by kernel_rfl) (by kernel_rfl) (by kernel_rfl) (fun _ _ _ h=>h) (by rfl) (fun W hW=>?yb9) ?_
     case yb9=>
      have k1:=(X0.out W hW).2.1
      go_simp<;>with_reducible rfl
     try simp only[Act.put,List.setIfInBounds_toArray,List.set_cons_zero,List.set_cons_succ]
     refine grow_only 1 rfl (by kernel_rfl) (fun K hK=>?_)
     go_simp
     refine (HTh.out _ HLd.out.vo.rules).mono ?_
     rintro e wt hpost
     obtain⟨vt,rfl,hown,hb⟩:=hpost.out
     obtain⟨At,ct,rfl,hct,hht⟩:=own_form hown
     refine hK.out _ _ hb ?_
     have HLt:=hide (HLd.out.grow hb)
     have Ht:=hide hht
     have HBt:=hide (HBd.out.trans (hb.mono HBd.out.size))
     have HWt:=hide (HWd.out.trans (hb.mono HWd.out.size))
     clear hK K hpost hown hct hht hb HLd HBd HWd
     try simp only[Act.put,List.setIfInBounds_toArray,List.set_cons_zero,List.set_cons_succ]
     refine grow_only 10 rfl (by kernel_rfl) (fun K hK=>?_)
     go_simp
     refine (HDa.out _ _ _ Ht.out HLt.out.vo.tm).mono ?_
     rintro e wz ⟨rfl,hb⟩
     refine hK.out _ _ hb ?_
     have HLy:=hide (HLt.out.grow hb)
     have HBz:=hide (HBt.out.trans (hb.mono HBt.out.size))
     have HWz:=hide (HWt.out.trans (hb.mono HWt.out.size))
     clear hK K hb HLt HBt HWt Ht HDa
     try simp only[Act.put,List.setIfInBounds_toArray,List.set_cons_zero,List.set_cons_succ]
     refine grow_take 11 (some 81) (v:=?vb11) rfl rfl (by kernel_rfl) (by kernel_rfl) (by kernel_rfl) (fun _ _ _ h=>h) (by rfl) (fun W hW=>?yb11) ?_
     case yb11=>
      go_simp<;>with_reducible rfl
     try simp only[Act.put,List.setIfInBounds_toArray,List.set_cons_zero,List.set_cons_succ]
     refine grow_take 12 (some 82) (v:=?vb12) rfl rfl (by kernel_rfl) (by kernel_rfl) (by kernel_rfl) (fun _ _ _ h=>h) (by rfl) (fun W hW=>?yb12) ?_
     case yb12=>
      go_simp<;>with_reducible rfl
     try simp only[Act.put,List.setIfInBounds_toArray,List.set_cons_zero,List.set_cons_succ]
     refine grow_take 13 (some 83) (v:=?vb13) rfl rfl (by kernel_rfl) (by kernel_rfl) (by kernel_rfl) (fun _ _ _ h=>h) (by rfl) (fun W hW=>?yb13) ?_
     case yb13=>
      go_simp<;>with_reducible rfl
     try simp only[Act.put,List.setIfInBounds_toArray,List.set_cons_zero,List.set_cons_succ]
     refine grow_take 14 (some 84) (v:=?vb14) rfl rfl (by kernel_rfl) (by kernel_rfl) (by kernel_rfl) (fun _ _ _ h=>h) (by rfl) (fun W hW=>?yb14) ?_
     case yb14=>
      have k2:=(X0.out W (HWz.out.trans (hW.mono HWz.out.size))).2.2
      go_simp<;>with_reducible rfl
     try simp only[Act.put,List.setIfInBounds_toArray,List.set_cons_zero,List.set_cons_succ]
     refine grow_take 15 (some 85) (v:=?vb15) rfl rfl (by kernel_rfl) (by kernel_rfl) (by kernel_rfl) (fun _ _ _ h=>h) (by rfl) (fun W hW=>?yb15) ?_
     case yb15=>
      go_simp<;>with_reducible rfl
     try simp only[Act.put,List.setIfInBounds_toArray,List.set_cons_zero,List.set_cons_succ]
     refine grow_take 16 (some 86) (v:=?vb16) rfl rfl (by kernel_rfl) (by kernel_rfl) (by kernel_rfl) (fun _ _ _ h=>h) (by rfl) (fun W hW=>?yb16) ?_
     case yb16=>
      go_simp<;>with_reducible rfl
     try simp only[Act.put,List.setIfInBounds_toArray,List.set_cons_zero,List.set_cons_succ]
     refine grow_take 17 (some 87) (v:=?vb17) rfl rfl (by kernel_rfl) (by kernel_rfl) (by kernel_rfl) (fun _ _ _ h=>h) (by rfl) (fun W hW=>?yb17) ?_
     case yb17=>
      go_simp<;>with_reducible rfl
     try simp only[Act.put,List.setIfInBounds_toArray,List.set_cons_zero,List.set_cons_succ]
     refine grow_done (by kernel_rfl) ?_ _
     go_wp2
     go_roundg r2
     case measure=>omega
     case rel=>exact⟨j+1,by omega,by go_num,HBz⟩
theorem less_law (L:List EN) (R:List Ru) (s:List UInt8) (w:World) (A:Option Addr) (n c:Nat) (xs:List Value) (hA:Has w w.heap.size 2 A n xs) (hL:ENs w w.heap.size xs L) (AR:Option Addr) (m cR:Nat) (hR:Has w w.heap.size 5 AR m (rusC R)) (hT:TM w) (hn:n≤1048576) (hb:∀e∈L,BulkN e) (hty:TypesN L) (hf:∀r∈R,FitsR r) (hm:m≤maxLen) (hs:s.length≤1048576):
  Calls Tryz.prog 4 #[.slice A n c,.slice AR m cR,.string (txt s)] w fun e w'=>e=.returned (.bool true)∧Below w.heap.size w w':=by
 have hF:∀w,Has w w.heap.size 2 A n xs→ENs w w.heap.size xs L→Has w w.heap.size 5 AR m (rusC R)→Calls Tryz.prog 9 #[.slice A n c,.slice AR m cR,.string (txt s)] w fun e w'=>e=.returned (.bool (Tr (FewY L R s)))∧Below w.heap.size w w':=fun w hA hL hR=>
  fewY_any L R s w A n c xs hA hL hn hb AR m cR hR hf hm hs
 by_cases h:FewY L R s
 ·rw [Tr_yes h] at hF
  exact lessY_yes L R s w A n c xs hA hL AR m cR hR hT (small_ofN h.1) h.2.1 h.2.2 hF
 ·rw [Tr_no h] at hF
  exact lessY_no L R s w A n c xs hA hL AR m cR hR hT hF
theorem less_bytes (L:List EN) (R:List Ru) (S:ByteArray) (w:World) (A:Option Addr) (n c:Nat) (xs:List Value) (hA:Has w w.heap.size 2 A n xs) (hL:ENs w w.heap.size xs L) (AR:Option Addr) (m cR:Nat) (hR:Has w w.heap.size 5 AR m (rusC R)) (hT:TM w) (hn:n≤1048576) (hb:∀e∈L,BulkN e) (hty:TypesN L) (hf:∀r∈R,FitsR r) (hm:m≤maxLen) (hs:S.data.toList.length≤1048576):
  Calls Tryz.prog 4 #[.slice A n c,.slice AR m cR,.string S] w fun e w'=>e=.returned (.bool true)∧Below w.heap.size w w':=by
 have:=less_law L R S.data.toList w A n c xs hA hL AR m cR hR hT hn hb hty hf hm hs
 rwa [self_txtE] at this
end Go.Proofs.YtjjepcnijmlliaaGreatDoor
