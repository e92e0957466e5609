/- ViewAbove: who sees an entry of a tree sees all entries that its name is under. By an AI agent. -/
import Derived.Test.YtjjepcnijmlliaaGreatDoorYBulk
import Derived.Test.YtjjepcnijmlliaaGreatDoorYW
set_option maxRecDepth 100000
set_option maxHeartbeats 64000000
namespace Go.Proofs.YtjjepcnijmlliaaGreatDoor
open Go.RowKit Go.Proofs.YtjjepcnijmlliaaGreatDoor.Opens
set_option linter.unusedVariables false
set_option linter.unusedSimpArgs false
theorem view_above {R:List Ru} {s:List UInt8} {L:List EN} (hok:TreeOk L) {v:EN} (hv:v∈viewL R s (sortN L)) (hp:(parentV v.1).1≠[]):0≤atN (viewL R s (sortN L)) (parentV v.1).1:=by
 obtain⟨e,he,hve⟩:=List.mem_filterMap.1 hv
 unfold viewV at hve
 split at hve
 ·rename_i h
  obtain⟨hf,hr⟩:=h
  obtain rfl:=(Option.some.inj hve).symm
  simp only at hp ⊢
  obtain⟨f,hfm,hfp⟩:=hok.above e (sortN_mem he) hp
  obtain⟨g,hg,hgp⟩:=sortN_name hfm
  have hgf:=hok.formed g (sortN_mem hg)
  have hrp:=(reach_head hr hf.loose.ne).2
  have hgn:g.1=(parentV e.1).1:=hgp.trans hfp
  rw[←hgn] at hrp ⊢
  refine atN_yes (e:=(g.1,seenA R s g.1 g.2)) hgf.loose.norm ?_ rfl
  exact List.mem_filterMap.2 ⟨g,hg,view_yes hgf hrp⟩
 ·cases hve
theorem above_no (L:List EN) (R:List Ru) (s:List UInt8) (w:World) (A:Option Addr) (n c:Nat) (xs:List Value) (hA:Has w w.heap.size 2 A n xs) (hL:ENs w w.heap.size xs L) (AR:Option Addr) (m cR:Nat) (hR:Has w w.heap.size 5 AR m (rusC R)) (hT:TM w) (hF:∀w,Has w w.heap.size 2 A n xs→ENs w w.heap.size xs L→Has w w.heap.size 5 AR m (rusC R)→Calls Tryz.prog 9 #[.slice A n c,.slice AR m cR,.string (txt s)] w fun e w'=>e=.returned (.bool false)∧Below w.heap.size w w'):
  Calls Tryz.prog 5 #[.slice A n c,.slice AR m cR,.string (txt s)] w fun e w'=>e=.returned (.bool true)∧Below w.heap.size w w':=by
 have hC:VO w w AR m cR R A n xs L:=⟨Below.refl _ _,hT,hR,hA,hL⟩
 have HC:=hide hC
 have HF:=hide hF
 clear hC hF hA hL hR hT
 generalize txt s=S at *
 go_enter Tryz.func5,Tryz.ntmps5
 go_wp2_with (go_at_call 8;fail)
 refine (awakeY_any _ HC.out.tm).mono ?_
 rintro e w2 ⟨rfl,hb2⟩
 have HC2:=hide (HC.out.grow hb2)
 clear hb2 HC
 go_wp2_with (go_at_call 9;fail)
 refine (HF.out _ HC2.out.has HC2.out.ents HC2.out.rules).mono ?_
 rintro e w3 ⟨rfl,hb3⟩
 have HC3:=hide (HC2.out.grow hb3)
 clear hb3 HC2 HF
 go_wp2_with (go_at_call 8;fail)
 refine (awakeY_any _ HC3.out.tm).mono ?_
 rintro e w4 ⟨rfl,hb4⟩
 have HC4:=hide (HC3.out.grow hb4)
 clear hb4 HC3
 go_wp2
 go_ret
 exact⟨rfl,HC4.out.base⟩
theorem above_yes (L:List EN) (R:List Ru) (s:List UInt8) (w:World) (A:Option Addr) (n c:Nat) (xs:List Value) (hA:Has w w.heap.size 2 A n xs) (hL:ENs w w.heap.size xs L) (AR:Option Addr) (m cR:Nat) (hR:Has w w.heap.size 5 AR m (rusC R)) (hT:TM w) (hsm:SmallN L) (hty:TypesN L) (hfr:FewR R) (hs:s.length≤3000) (hF:∀w,Has w w.heap.size 2 A n xs→ENs w w.heap.size xs L→Has w w.heap.size 5 AR m (rusC R)→Calls Tryz.prog 9 #[.slice A n c,.slice AR m cR,.string (txt s)] w fun e w'=>e=.returned (.bool true)∧Below w.heap.size w w'):
  Calls Tryz.prog 5 #[.slice A n c,.slice AR m cR,.string (txt s)] w fun e w'=>e=.returned (.bool true)∧Below w.heap.size w w':=by
 have hnl:=hA.ens_n hL
 have hml:=hR.rules_n
 have hn:n≤3000:=by rw[hnl];exact hsm.len
 have hm:m≤100:=by rw[hml];exact hfr.1
 have hwe:=wee_of_small hsm
 have hC:VO w w AR m cR R A n xs L:=⟨Below.refl _ _,hT,hR,hA,hL⟩
 have hTr:=fun w hA hL hT=>rof_any L w A n c xs hA hL (by omega) hwe hty hT
 have hTh:=fun w hR=>theirs12_any R w AR m cR hR (by omega)
 have hsl:=sortN_len L
 have hvl:(viewL R s (sortN L)).length≤(sortN L).length:=view_len R s _
 have hOf:∀(w:World) (A1 A2:Option Addr) (c1 c2:Nat) (us:List Value),Has w w.heap.size 5 A2 R.length (rusC R)→Has w w.heap.size 2 A1 (sortN L).length us→ENs w w.heap.size us (sortN L)→TM w→
   Calls Tryz.prog 11 #[.slice A1 (sortN L).length c1,.slice A2 R.length c2,.string (txt s)] w (EntsPost (viewL R s (sortN L)) w):=fun w A1 A2 c1 c2 us h3 h4 h5 h6=>
  pof_any R s (sortN L) w A2 _ c2 h3 hfr.2 (by omega) (by omega) A1 _ c1 us h4 h5 (by omega) (fun e he=>hwe e (sortN_mem he)) h6
 have hPa:∀v∈viewL R s (sortN L),∀w,TM w→Calls Tryz.prog 20 #[.string (txt v.1)] w fun e' w'=>e'=.returned (.tuple #[.string (txt (parentV v.1).1),.bool (parentV v.1).2])∧Below w.heap.size w w':=fun v hv w hT=>by
  have h2:=norm_short v.1
  rw[(view_less hv).norm] at h2
  simp only at h2
  exact rparent_any v.1 (by omega) w hT
 have hAt:∀(nm:List UInt8),nm.length≤1000000→∀(w:World) (A7:Option Addr) (c7:Nat) (ys:List Value),Has w w.heap.size 2 A7 (viewL R s (sortN L)).length ys→ENs w w.heap.size ys (viewL R s (sortN L))→TM w→Calls Tryz.prog 17 #[.slice A7 (viewL R s (sortN L)).length c7,.string (txt nm)] w fun e w'=>e=.returned (.int .i64 (atN (viewL R s (sortN L)) nm))∧Below w.heap.size w w':=fun nm h w A7 c7 ys hA hL hT=>
  rat_any _ nm w A7 _ c7 ys hA hL (by omega) h hT
 have hAb:TreeOk L→∀v∈viewL R s (sortN L),(parentV v.1).1≠[]→0≤atN (viewL R s (sortN L)) (parentV v.1).1:=fun hok v hv=>view_above hok hv
 have HC:=hide hC
 have HF:=hide hF
 have HTr:=hide hTr
 have HTh:=hide hTh
 have HOf:=hide hOf
 have HPa:=hide hPa
 have HAt:=hide hAt
 have HAb0:=hide hAb
 have Hl9:Hid ((viewL R s (sortN L)).length≤3000):=hide (by omega)
 clear hC hF hA hL hR hT hTr hTh hOf hPa hAt hAb hnl hml hsm hfr hs hwe hvl hsl hty
 generalize txt s=S at *
 generalize viewL R s (sortN L)=V at *
 obtain⟨kv,hkv⟩:∃kv,V.length=kv:=⟨_,rfl⟩
 have Hkv:=hide hkv
 rw[hkv] at HAt Hl9
 have hkv3:kv≤3000:=Hl9.out
 obtain⟨kt,hkt⟩:∃kt,(sortN L).length=kt:=⟨_,rfl⟩
 rw[hkt] at HOf
 have Hkt:=hide hkt
 clear hkv hkt Hl9
 go_enter Tryz.func5,Tryz.ntmps5
 go_wp2_with (go_at_call 8;fail)
 refine (awakeY_any _ HC.out.tm).mono ?_
 rintro e w2 ⟨rfl,hb2⟩
 have HC2:=hide (HC.out.grow hb2)
 clear hb2 HC
 go_wp2_with (go_at_call 9;fail)
 refine (HF.out _ HC2.out.has HC2.out.ents HC2.out.rules).mono ?_
 rintro e w3 ⟨rfl,hb3⟩
 have HC3:=hide (HC2.out.grow hb3)
 clear hb3 HC2 HF
 go_wp2_with (go_at_call 19;fail)
 refine (HTr.out _ HC3.out.has HC3.out.ents HC3.out.tm).mono ?_
 rintro e w4 hpost
 obtain⟨p,y,rfl,hcase,hb4⟩:=hpost.out
 have HC4:=hide (HC3.out.grow hb4)
 clear hpost hb4 HC3 HTr
 rcases hcase with⟨rfl,rfl⟩ | ⟨rfl,hok,q,AT,cT,ysT,rfl,hq,hqc,hcT,hmT,hhT,heT⟩
 ·clear HTh HOf HPa HAt HAb0 Hkv Hkt
  go_wp2
  go_ret
  exact⟨rfl,HC4.out.base⟩
 ·rw [Hkt.out] at hqc hhT
  have HAb:=hide (HAb0.out hok)
  have HE4:=hide (And.intro hhT heT)
  have Hq:=hide hq
  have Hqc:=hide hqc
  clear hok hq hqc hcT hmT hhT heT HAb0 Hkt
  go_wp2_with fail
  refine grow_begin (by kernel_rfl) ?_
  have hdr:Below w4.heap.size w4 w4.drew:=(Below.refl _ _).drew
  have HCd:=hide (HC4.out.grow hdr)
  have HEd:=hide (And.intro ((HE4.out.1.below hdr).upto hdr.size) (HE4.out.2.grow hdr))
  have X0:Hid (∀W,Below w4.drew.heap.size w4.drew W→W.cell? ⟨q,0,none⟩=some (.slice AT kt cT)):=hide fun W hW=>by
   have h2:=hdr.trans (hW.mono hdr.size)
   exact (h2.cell (p:=⟨q,0,none⟩) Hq.out).trans Hqc.out
  clear hdr HC4 HE4 Hq Hqc
  generalize w4.drew=wd at *
  refine grow_take 0 (some 30) (v:=?va0) rfl rfl (by kernel_rfl) (by kernel_rfl) (by kernel_rfl) (fun _ _ _ h=>h) (by rfl) (fun W hW=>?ya0) ?_
  case ya0=>
   go_simp<;>with_reducible rfl
  try simp only[Act.put,List.setIfInBounds_toArray,List.set_cons_zero,List.set_cons_succ]
  refine grow_take 1 (some 31) (v:=?va1) rfl rfl (by kernel_rfl) (by kernel_rfl) (by kernel_rfl) (fun _ _ _ h=>h) (by rfl) (fun W hW=>?ya1) ?_
  case ya1=>
   go_simp<;>with_reducible rfl
  try simp only[Act.put,List.setIfInBounds_toArray,List.set_cons_zero,List.set_cons_succ]
  refine grow_take 2 (some 32) (v:=?va2) rfl rfl (by kernel_rfl) (by kernel_rfl) (by kernel_rfl) (fun _ _ _ h=>h) (by rfl) (fun W hW=>?ya2) ?_
  case ya2=>
   go_simp<;>with_reducible rfl
  try simp only[Act.put,List.setIfInBounds_toArray,List.set_cons_zero,List.set_cons_succ]
  refine grow_take 3 (some 33) (v:=?va3) rfl rfl (by kernel_rfl) (by kernel_rfl) (by kernel_rfl) (fun _ _ _ h=>h) (by rfl) (fun W hW=>?ya3) ?_
  case ya3=>
   have k0:=X0.out W hW
   go_simp<;>with_reducible rfl
  try simp only[Act.put,List.setIfInBounds_toArray,List.set_cons_zero,List.set_cons_succ]
  refine grow_take 4 (some 34) (v:=?va4) rfl rfl (by kernel_rfl) (by kernel_rfl) (by kernel_rfl) (fun _ _ _ h=>h) (by rfl) (fun W hW=>?ya4) ?_
  case ya4=>
   go_simp<;>with_reducible rfl
  try simp only[Act.put,List.setIfInBounds_toArray,List.set_cons_zero,List.set_cons_succ]
  refine grow_take 6 (some 36) (v:=?va6) rfl rfl (by kernel_rfl) (by kernel_rfl) (by kernel_rfl) (fun _ _ _ h=>h) (by rfl) (fun W hW=>?ya6) ?_
  case ya6=>
   go_simp<;>with_reducible rfl
  try simp only[Act.put,List.setIfInBounds_toArray,List.set_cons_zero,List.set_cons_succ]
  refine grow_only 5 rfl (by kernel_rfl) (fun K hK=>?_)
  go_simp
  refine (HTh.out _ HCd.out.rules).mono ?_
  rintro e w5 hpost
  obtain⟨v5,rfl,hown,hb⟩:=hpost.out
  obtain⟨A5,c5,rfl,hc5,hh5⟩:=own_form hown
  refine hK.out _ _ hb ?_
  have HC5:=hide (HCd.out.grow hb)
  have H5:=hide hh5
  have HE5:=hide (And.intro ((HEd.out.1.below hb).upto hb.size) (HEd.out.2.grow hb))
  clear hK K hpost hown hc5 hh5 hb HCd HEd HTh
  try simp only[Act.put,List.setIfInBounds_toArray,List.set_cons_zero,List.set_cons_succ]
  refine grow_only 7 rfl (by kernel_rfl) (fun K hK=>?_)
  go_simp
  refine (HOf.out _ _ _ _ _ _ H5.out HE5.out.1 HE5.out.2 HC5.out.tm).mono ?_
  rintro e w7 hpost
  obtain⟨A7,c7,ys7,rfl,hc7,hm7,hh7,he7,hb7⟩:=hpost.read
  refine hK.out _ _ hb7 ?_
  have HC7:=hide (HC5.out.grow hb7)
  have HV7:=hide (And.intro hh7 he7)
  rw[Hkv.out] at HV7 ⊢
  clear hK K hpost hc7 hm7 hh7 he7 hb7 HC5 H5 HE5 HOf
  try simp only[Act.put,List.setIfInBounds_toArray,List.set_cons_zero,List.set_cons_succ]
  refine grow_take 8 (some 9) (v:=?va8) rfl rfl (by kernel_rfl) (by kernel_rfl) (by kernel_rfl) (fun _ _ _ h=>h) (by rfl) (fun W hW=>?ya8) ?_
  case ya8=>
   go_simp<;>with_reducible rfl
  try simp only[Act.put,List.setIfInBounds_toArray,List.set_cons_zero,List.set_cons_succ]
  refine grow_done (by kernel_rfl) ?_ _
  go_wp2
  go_loopg [40] kv (fun r s40 wx=>∃i:Nat,i+r=kv∧s40=.int .i64 (i:Int)∧Hid (Below w7.heap.size w7 wx))
  case atStart=>exact⟨0,by omega,rfl,hide (Below.refl _ _)⟩
  case round=>
   obtain⟨i,hig,rfl,hbr⟩:=hrel
   cases gk with
   | zero=>
    obtain rfl:i=kv:=by omega
    have hiz:¬((i:Int)<(i:Int)):=by omega
    have HE:=hide (HC7.out.grow hbr.out).base
    clear HPa HAt HAb HV7 HC7 hbr
    go_wp2
    go_ret
    exact⟨rfl,HE.out⟩
   | succ r=>
    have hi:i<kv:=by omega
    have hiz:(i:Int)<(kv:Int):=by omega
    obtain⟨v,hv⟩:∃v,V[i]?=some v:=⟨_,List.getElem?_eq_getElem (by rw[Hkv.out];exact hi)⟩
    have hvm:=List.mem_of_getElem? hv
    obtain⟨g7,o7,hAe,hg7,hat7⟩:=HV7.out.1.en HV7.out.2 (fun h=>by rw[h] at hv;simp at hv)
    subst hAe
    obtain⟨U,cu,us,hat7⟩:=hat7 i v hv
    have e0:=(hat7.below hg7 hbr.out).e0
    have Hpar:=hide (HPa.out v hvm)
    have Hab:=hide (HAb.out v hvm)
    have Hps:=hide (parent_short v.1)
    have HTr:=hide (HC7.out.grow hbr.out).tm
    have Hcat:=hide (HAt.out (parentV v.1).1 (by have:=parent_short v.1;omega))
    obtain⟨p,hp⟩:∃p,(parentV v.1).1=p:=⟨_,rfl⟩
    rw[hp] at Hpar Hab Hcat
    have q1:((txt p).toList==[])=(p==[]):=toeq _ _
    obtain⟨TP,hTP⟩:∃TP,txt p=TP:=⟨_,rfl⟩
    rw[hTP] at Hpar Hcat q1
    generalize (parentV v.1).2=pb at *
    generalize txt v.1=TV at *
    clear hat7 hv hvm hp hTP Hps
    go_wp2_with (go_at_call 20;fail)
    refine (Hpar.out _ HTr.out).mono ?_
    rintro e' w8 ⟨rfl,hb8⟩
    have Hbr8:=hide (hbr.out.trans (hb8.mono hbr.out.size))
    clear hb8 Hpar e0 hbr HTr
    by_cases hp0:p=[]
    ·have e1:(p==[])=true:=by rw[hp0];rfl
     rw[e1] at q1
     have q2:(TP.toList !=[])=false:=by unfold bne;rw[q1];rfl
     clear Hcat Hab e1 hp0
     go_wp2
     go_roundg r
     case measure=>omega
     case rel=>exact⟨i+1,by omega,by go_num,Hbr8⟩
    ·have e1:(p==[])=false:=by simpa using hp0
     rw[e1] at q1
     have q2:(TP.toList !=[])=true:=by unfold bne;rw[q1];rfl
     have ha0:=Hab.out hp0
     have HC8:=hide (HC7.out.grow Hbr8.out)
     have HV8:=hide (And.intro ((HV7.out.1.below Hbr8.out).upto Hbr8.out.size) (HV7.out.2.grow Hbr8.out))
     generalize atN V p=ai at *
     have z:¬(ai<0):=by omega
     clear Hab e1 hp0
     go_wp2_with (go_at_call 17;fail)
     refine (Hcat.out _ _ _ _ HV8.out.1 HV8.out.2 HC8.out.tm).mono ?_
     rintro e' w9 ⟨rfl,hb9⟩
     have Hbr9:=hide (Hbr8.out.trans (hb9.mono Hbr8.out.size))
     clear hb9 Hcat HC8 HV8 Hbr8
     go_wp2
     go_roundg r
     case measure=>omega
     case rel=>exact⟨i+1,by omega,by go_num,Hbr9⟩
theorem above_law (L:List EN) (R:List Ru) (s:List UInt8) (w:World) (A:Option Addr) (n c:Nat) (xs:List Value) (hA:Has w w.heap.size 2 A n xs) (hL:ENs w w.heap.size xs L) (AR:Option Addr) (m cR:Nat) (hR:Has w w.heap.size 5 AR m (rusC R)) (hT:TM w) (hn:n≤1048576) (hb:∀e∈L,BulkN e) (hty:TypesN L) (hf:∀r∈R,FitsR r) (hm:m≤maxLen) (hs:s.length≤1048576):
  Calls Tryz.prog 5 #[.slice A n c,.slice AR m cR,.string (txt s)] w fun e w'=>e=.returned (.bool true)∧Below w.heap.size w w':=by
 have hF:∀w,Has w w.heap.size 2 A n xs→ENs w w.heap.size xs L→Has w w.heap.size 5 AR m (rusC R)→Calls Tryz.prog 9 #[.slice A n c,.slice AR m cR,.string (txt s)] w fun e w'=>e=.returned (.bool (Tr (FewY L R s)))∧Below w.heap.size w w':=fun w hA hL hR=>
  fewY_any L R s w A n c xs hA hL hn hb AR m cR hR hf hm hs
 by_cases h:FewY L R s
 ·rw [Tr_yes h] at hF
  exact above_yes L R s w A n c xs hA hL AR m cR hR hT (small_ofN h.1) hty h.2.1 h.2.2 hF
 ·rw [Tr_no h] at hF
  exact above_no L R s w A n c xs hA hL AR m cR hR hT hF
theorem above_bytes (L:List EN) (R:List Ru) (S:ByteArray) (w:World) (A:Option Addr) (n c:Nat) (xs:List Value) (hA:Has w w.heap.size 2 A n xs) (hL:ENs w w.heap.size xs L) (AR:Option Addr) (m cR:Nat) (hR:Has w w.heap.size 5 AR m (rusC R)) (hT:TM w) (hn:n≤1048576) (hb:∀e∈L,BulkN e) (hty:TypesN L) (hf:∀r∈R,FitsR r) (hm:m≤maxLen) (hs:S.data.toList.length≤1048576):
  Calls Tryz.prog 5 #[.slice A n c,.slice AR m cR,.string S] w fun e w'=>e=.returned (.bool true)∧Below w.heap.size w w':=by
 have:=above_law L R S.data.toList w A n c xs hA hL AR m cR hR hT hn hb hty hf hm hs
 rwa [self_txtE] at this
end Go.Proofs.YtjjepcnijmlliaaGreatDoor
