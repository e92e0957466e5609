/- ViewRestricts: with the rules restricted to a context the view of what is under it is the same. By an AI agent. -/
import Derived.Test.YtjjepcnijmlliaaGreatDoorYBulk
import Derived.Test.YtjjepcnijmlliaaGreatDoorYY
set_option maxRecDepth 100000
set_option maxHeartbeats 64000000
namespace Go.Proofs.YtjjepcnijmlliaaGreatDoor
open Go.RowKit Go.Proofs.YtjjepcnijmlliaaGreatDoor.Opens
set_option linter.unusedVariables false
set_option linter.unusedSimpArgs false
noncomputable def underL (c:List UInt8) (L:List EN):List EN:=L.filter fun e=>underV e.1 c
theorem underL_len (c:List UInt8) (L:List EN):(underL c L).length≤L.length:=List.length_filter_le _ _
theorem underL_yes {c:List UInt8} {L:List EN} {e:EN} (h:underV e.1 c=true):underL c (L++[e])=underL c L++[e]:=by unfold underL;simp[h]
theorem underL_no {c:List UInt8} {L:List EN} {e:EN} (h:underV e.1 c=false):underL c (L++[e])=underL c L:=by unfold underL;simp[h]
theorem restr_mem {R:List Ru} {c:List UInt8} {r:Ru} (h:r∈restrV R c):r∈R:=by
 unfold restrV at h
 split at h
 ·exact (List.mem_filter.1 h).1
 ·cases h
theorem restr_len (R:List Ru) (c:List UInt8):(restrV R c).length≤R.length:=by
 unfold restrV
 split
 ·exact List.length_filter_le _ _
 ·simp
theorem restr_no1 (L:List EN) (R:List Ru) (s c0:List UInt8) (w:World) (A:Option Addr) (n c:Nat) (xs:List Value) (hA:Has w w.heap.size 2 A n xs) (hL:ENs w w.heap.size xs L) (AR:Option Addr) (m cR:Nat) (hR:Has w w.heap.size 5 AR m (rusC R)) (hT:TM w) (hF:∀w,Has w w.heap.size 2 A n xs→ENs w w.heap.size xs L→Has w w.heap.size 5 AR m (rusC R)→Calls Tryz.prog 9 #[.slice A n c,.slice AR m cR,.string (txt s)] w fun e w'=>e=.returned (.bool false)∧Below w.heap.size w w'):
  Calls Tryz.prog 6 #[.slice A n c,.slice AR m cR,.string (txt s),.string (txt c0)] w fun e w'=>e=.returned (.bool true)∧Below w.heap.size w w':=by
 have hC:VO w w AR m cR R A n xs L:=⟨Below.refl _ _,hT,hR,hA,hL⟩
 have HC:=hide hC
 have HF:=hide hF
 clear hC hF hA hL hR hT
 generalize txt s=S at *
 generalize txt c0=C at *
 go_enter Tryz.func6,Tryz.ntmps6
 go_wp2_with (go_at_call 8;fail)
 refine (awakeY_any _ HC.out.tm).mono ?_
 rintro e w2 ⟨rfl,hb2⟩
 have HC2:=hide (HC.out.grow hb2)
 clear hb2 HC
 go_wp2_with (go_at_call 9;fail)
 refine (HF.out _ HC2.out.has HC2.out.ents HC2.out.rules).mono ?_
 rintro e w3 ⟨rfl,hb3⟩
 have HC3:=hide (HC2.out.grow hb3)
 clear hb3 HC2 HF
 go_wp2_with (go_at_call 8;fail)
 refine (awakeY_any _ HC3.out.tm).mono ?_
 rintro e w4 ⟨rfl,hb4⟩
 have HC4:=hide (HC3.out.grow hb4)
 clear hb4 HC3
 go_wp2
 go_ret
 exact⟨rfl,HC4.out.base⟩
theorem restr_no2 (L:List EN) (R:List Ru) (s c0:List UInt8) (w:World) (A:Option Addr) (n c:Nat) (xs:List Value) (hA:Has w w.heap.size 2 A n xs) (hL:ENs w w.heap.size xs L) (AR:Option Addr) (m cR:Nat) (hR:Has w w.heap.size 5 AR m (rusC R)) (hT:TM w) (hc:3000<c0.length) (hF:∀w,Has w w.heap.size 2 A n xs→ENs w w.heap.size xs L→Has w w.heap.size 5 AR m (rusC R)→Calls Tryz.prog 9 #[.slice A n c,.slice AR m cR,.string (txt s)] w fun e w'=>e=.returned (.bool true)∧Below w.heap.size w w'):
  Calls Tryz.prog 6 #[.slice A n c,.slice AR m cR,.string (txt s),.string (txt c0)] w fun e w'=>e=.returned (.bool true)∧Below w.heap.size w w':=by
 have hC:VO w w AR m cR R A n xs L:=⟨Below.refl _ _,hT,hR,hA,hL⟩
 have HC:=hide hC
 have HF:=hide hF
 have z:(3000:Int)<((txt c0).size:Int):=by rw[txt_size];omega
 clear hC hF hA hL hR hT hc
 generalize txt s=S at *
 generalize txt c0=C at *
 go_enter Tryz.func6,Tryz.ntmps6
 go_wp2_with (go_at_call 8;fail)
 refine (awakeY_any _ HC.out.tm).mono ?_
 rintro e w2 ⟨rfl,hb2⟩
 have HC2:=hide (HC.out.grow hb2)
 clear hb2 HC
 go_wp2_with (go_at_call 9;fail)
 refine (HF.out _ HC2.out.has HC2.out.ents HC2.out.rules).mono ?_
 rintro e w3 ⟨rfl,hb3⟩
 have HC3:=hide (HC2.out.grow hb3)
 clear hb3 HC2 HF
 go_wp2_with (go_at_call 8;fail)
 refine (awakeY_any _ HC3.out.tm).mono ?_
 rintro e w4 ⟨rfl,hb4⟩
 have HC4:=hide (HC3.out.grow hb4)
 clear hb4 HC3
 go_wp2
 go_ret
 exact⟨rfl,HC4.out.base⟩
theorem restr_yes (L:List EN) (R:List Ru) (s c0:List UInt8) (w:World) (A:Option Addr) (n c:Nat) (xs:List Value) (hA:Has w w.heap.size 2 A n xs) (hL:ENs w w.heap.size xs L) (AR:Option Addr) (m cR:Nat) (hR:Has w w.heap.size 5 AR m (rusC R)) (hT:TM w) (hsm:SmallN L) (hfr:FewR R) (hs:s.length≤3000) (hc:c0.length≤3000) (hF:∀w,Has w w.heap.size 2 A n xs→ENs w w.heap.size xs L→Has w w.heap.size 5 AR m (rusC R)→Calls Tryz.prog 9 #[.slice A n c,.slice AR m cR,.string (txt s)] w fun e w'=>e=.returned (.bool true)∧Below w.heap.size w w'):
  Calls Tryz.prog 6 #[.slice A n c,.slice AR m cR,.string (txt s),.string (txt c0)] w fun e w'=>e=.returned (.bool true)∧Below w.heap.size w w':=by
 have hnl:=hA.ens_n hL
 have hml:=hR.rules_n
 have hn:n≤3000:=by rw[hnl];exact hsm.len
 have hm:m≤100:=by rw[hml];exact hfr.1
 have hwe:=wee_of_small hsm
 have hC:VO w w AR m cR R A n xs L:=⟨Below.refl _ _,hT,hR,hA,hL⟩
 have z:¬(3000:Int)<((txt c0).size:Int):=by rw[txt_size];omega
 have hUn:∀e∈L,∀w,TM w→Calls Tryz.prog 21 #[.string (txt e.1),.string (txt c0)] w fun e' w'=>e'=.returned (.bool (underV e.1 c0))∧Below w.heap.size w w':=fun e he w hT=>runder_text e.1 c0 (hwe e he).1 (by omega) w hT
 have hTh:=fun w hR=>theirs12_any R w AR m cR hR (by omega)
 have hRe:=fun w A' c' (hA':Has w w.heap.size 5 A' R.length (rusC R)) hT=>restrict_any R c0 w A' R.length c' hA' hfr.2 (by omega) (by omega) hT
 have hw1:∀e∈underL c0 L,WeeN e:=fun e he=>hwe e (List.mem_filter.1 he).1
 have hul:(underL c0 L).length≤3000:=by have:=underL_len c0 L;omega
 have hOf:∀(R':List Ru),(∀r∈R',r.small)→R'.length≤100→∀(w:World) (A1 A2:Option Addr) (c1 c2:Nat) (us:List Value),Has w w.heap.size 5 A2 R'.length (rusC R')→Has w w.heap.size 2 A1 (underL c0 L).length us→ENs w w.heap.size us (underL c0 L)→TM w→
   Calls Tryz.prog 11 #[.slice A1 (underL c0 L).length c1,.slice A2 R'.length c2,.string (txt s)] w (EntsPost (viewL R' s (underL c0 L)) w):=fun R' h1 h2 w A1 A2 c1 c2 us h3 h4 h5 h6=>
  pof_any R' s (underL c0 L) w A2 _ c2 h3 h1 (by omega) (by omega) A1 _ c1 us h4 h5 (by omega) hw1 h6
 have hOf1:=hOf (restrV R c0) (fun r hr=>hfr.2 r (restr_mem hr)) (Nat.le_trans (restr_len R c0) (by omega))
 have hOf2:=hOf R hfr.2 (by omega)
 rw[views_restr R s c0 (underL c0 L) (fun e he=>(List.mem_filter.1 he).2)] at hOf1
 have hvl:(viewL R s (underL c0 L)).length≤3000:=Nat.le_trans (view_len _ _ _) hul
 have HC:=hide hC
 have HF:=hide hF
 have HUn:=hide hUn
 have HTh:=hide hTh
 have HRe:=hide hRe
 have HOf1:=hide hOf1
 have HOf2:=hide hOf2
 have HN:=hide hnl
 have Hul:=hide hul
 have Hvl:=hide hvl
 clear hC hF hA hL hR hT hUn hTh hRe hOf hOf1 hOf2 hnl hml hsm hfr hs hc hwe hw1 hul hvl
 generalize txt s=S at *
 generalize txt c0=C at *
 go_enter Tryz.func6,Tryz.ntmps6
 go_wp2_with (go_at_call 8;fail)
 refine (awakeY_any _ HC.out.tm).mono ?_
 rintro e w2 ⟨rfl,hb2⟩
 have HC2:=hide (HC.out.grow hb2)
 clear hb2 HC
 go_wp2_with (go_at_call 9;fail)
 refine (HF.out _ HC2.out.has HC2.out.ents HC2.out.rules).mono ?_
 rintro e w3 ⟨rfl,hb3⟩
 have HC3:=hide (HC2.out.grow hb3)
 clear hb3 HC2 HF
 go_wp2
 go_loopg [9,29] n (fun k s9 s29 wx=>∃(i:Nat) (zs:List Value),i+k=n∧s29=.int .i64 (i:Int)∧Hid (RowX wx w3.heap.size w3.heap.size 33 s9 zs (underL c0 (L.take i)))∧Hid (Below w3.heap.size w3 wx))
 case atStart=>exact⟨0,[],by omega,rfl,hide (RowX.start (World.ownsRow_nil _ _ _ _) (Nat.le_refl _) (Nat.le_refl _)),hide (Below.refl _ _)⟩
 case round=>
  obtain⟨i,zs,hig,rfl,hro,hbr⟩:=hrel
  cases gk with
  | zero=>
   obtain rfl:i=n:=by omega
   have hiz:¬((i:Int)<(i:Int)):=by omega
   have ho:=hro.out
   rw[List.take_of_length_le (by rw[←HN.out];exact Nat.le_refl _)] at ho
   obtain⟨Af,cf,rfl,hcf,hmf,hhf,hef⟩:=ho.told
   have HC4:=hide (HC3.out.grow hbr.out)
   have HE4:=hide (And.intro hhf hef)
   generalize underL c0 L=U at *
   obtain⟨ku,hku⟩:∃ku,U.length=ku:=⟨_,rfl⟩
   rw[hku] at HE4 HOf1 HOf2 hcf Hul
   rw[hku]
   have Hku:=hide hku
   generalize viewL R s U=X at *
   obtain⟨kx,hkx⟩:∃kx,X.length=kx:=⟨_,rfl⟩
   have Hkx:=hide hkx
   rw[hkx] at Hvl
   clear hro ho hcf hmf hhf hef hbr HUn HN HC3 hku hkx
   go_wp2_with (go_at_call 12;fail)
   refine (HTh.out _ HC4.out.rules).mono ?_
   rintro e w5 hpost
   obtain⟨v5,rfl,hown5,hb5⟩:=hpost.out
   obtain⟨A5,c5,rfl,hc5,hh5⟩:=own_form hown5
   have HC5:=hide (HC4.out.grow hb5)
   have HE5:=hide (And.intro ((HE4.out.1.below hb5).upto hb5.size) (HE4.out.2.grow hb5))
   have H5:=hide hh5
   clear hpost hown5 hc5 hh5 hb5 HC4 HE4
   go_wp2_with (go_at_call 22;fail)
   refine (HRe.out _ _ _ H5.out HC5.out.tm).mono ?_
   rintro e w6 hpost
   obtain⟨v6,rfl,hown6,hb6⟩:=hpost.out
   obtain⟨A6,c6,rfl,hc6,hh6⟩:=own_form hown6
   have HC6:=hide (HC5.out.grow hb6)
   have HE6:=hide (And.intro ((HE5.out.1.below hb6).upto hb6.size) (HE5.out.2.grow hb6))
   have H6:=hide hh6
   clear hpost hown6 hc6 hh6 hb6 HC5 HE5 H5 HRe
   go_wp2_with (go_at_call 11;fail)
   refine (HOf1.out _ _ _ _ _ _ H6.out HE6.out.1 HE6.out.2 HC6.out.tm).mono ?_
   rintro e w7 hpost
   obtain⟨A7,c7,ys7,rfl,hc7,hm7,hh7,he7,hb7⟩:=hpost.read
   have HC7:=hide (HC6.out.grow hb7)
   have HE7:=hide (And.intro ((HE6.out.1.below hb7).upto hb7.size) (HE6.out.2.grow hb7))
   rw[Hkx.out] at hh7 ⊢
   have HV7:=hide (And.intro hh7 he7)
   clear hpost hc7 hm7 hh7 he7 hb7 HC6 HE6 H6 HOf1
   go_wp2_with (go_at_call 12;fail)
   refine (HTh.out _ HC7.out.rules).mono ?_
   rintro e w8 hpost
   obtain⟨v8,rfl,hown8,hb8⟩:=hpost.out
   obtain⟨A8,c8,rfl,hc8,hh8⟩:=own_form hown8
   have HC8:=hide (HC7.out.grow hb8)
   have HE8:=hide (And.intro ((HE7.out.1.below hb8).upto hb8.size) (HE7.out.2.grow hb8))
   have HV8:=hide (And.intro ((HV7.out.1.below hb8).upto hb8.size) (HV7.out.2.grow hb8))
   have H8:=hide hh8
   clear hpost hown8 hc8 hh8 hb8 HC7 HE7 HV7 HTh
   go_wp2_with (go_at_call 11;fail)
   refine (HOf2.out _ _ _ _ _ _ H8.out HE8.out.1 HE8.out.2 HC8.out.tm).mono ?_
   rintro e w9 hpost
   obtain⟨A9,c9,ys9,rfl,hc9,hm9,hh9,he9,hb9⟩:=hpost.read
   have HC9:=hide (HC8.out.grow hb9)
   rw[Hkx.out] at hh9 ⊢
   have hcs:=rsameall_any X X w9 A7 A9 kx kx c7 c9 ys7 ys9 ((HV8.out.1.below hb9).upto hb9.size) (HV8.out.2.grow hb9) hh9 he9 (by unfold maxLen;have:=Hvl.out;omega) (by unfold maxLen;have:=Hvl.out;omega)
   rw[Tr_yes rfl] at hcs
   have Hcs:=hide hcs
   clear hpost hc9 hm9 hh9 he9 hb9 HC8 HE8 HV8 H8 HOf2 hcs
   go_wp2_with (go_at_call 10;fail)
   refine Hcs.out.mono ?_
   rintro e w10 ⟨rfl,hb10⟩
   have HC10:=hide (HC9.out.grow hb10)
   clear hb10 HC9 Hcs
   go_wp2
   go_ret
   exact⟨rfl,HC10.out.base⟩
  | succ r=>
   have hi:i<n:=by omega
   have hiz:(i:Int)<(n:Int):=by omega
   obtain⟨e,he⟩:∃e,L[i]?=some e:=⟨_,List.getElem?_eq_getElem (by rw[←HN.out];exact hi)⟩
   obtain⟨g,o,hAe,hg,hat⟩:=HC3.out.has.en HC3.out.ents (fun h=>by rw[h] at he;simp at he)
   subst hAe
   obtain⟨U,cu,ys,hat⟩:=hat i e he
   have hatr:=hat.below hg hbr.out
   have e0:=hatr.e0
   have hun:=HUn.out e (List.mem_of_getElem? he) wr (HC3.out.grow hbr.out).tm
   have htk:L.take (i+1)=L.take i++[e]:=by rw[List.take_add_one,he];rfl
   have hlen:(underL c0 (L.take i)).length≤3000:=by
    have:=underL_len c0 (L.take i)
    rw[List.length_take] at this
    omega
   cases hu:underV e.1 c0 with
   | true=>
    rw[hu] at hun
    have Hun:=hide hun
    have Htk:Hid (underL c0 (L.take (i+1))=underL c0 (L.take i)++[e]):=hide (by rw[htk];exact underL_yes hu)
    have Hat:=hide hat
    obtain⟨k,hk⟩:∃k,e.2.length=k:=⟨_,rfl⟩
    obtain⟨TE,hTE⟩:∃TE,txt e.1=TE:=⟨_,rfl⟩
    rw[hTE] at Hun e0
    have Hk:=hide (And.intro hk hTE)
    clear hun hatr hat htk hk hTE he hu
    go_wp2_with (go_at_call 21;fail)
    refine Hun.out.mono ?_
    rintro e' w5 ⟨rfl,hb5⟩
    have hbr5:=hbr.out.trans (hb5.mono hbr.out.size)
    have hat5:=Hat.out.below hg hbr5
    have d0:=hat5.e0
    have d1:=hat5.e1
    rw[Hk.out.2] at d0
    rw[Hk.out.1] at d1
    have hba:=below1 w5 (.cells #[.string TE,.slice U k cu] 33)
    have hlit:=litY w5 (.string TE) (.slice U k cu) 33 rfl rfl
    have h1c:∀u∈[Value.string TE,Value.slice U k cu],u.oneCell'=true:=by simp[Value.oneCell']
    have hro6:=(hro.out.below hb5).below hba
    have hown6:=hro6.own
    have htop:=hro6.top
    have hbr6:=hbr5.trans (hba.mono hbr5.size)
    have H6:=hide (And.intro hro6 hbr6)
    clear hbr5 hat5 hba hro6 hbr6 hb5 Hun e0
    go_upto_region 8 with fail
    go_wp2_with (at_builtin;go_must (refine appN _ 22 33 _ 2 40 Tryz.underlying22 infoEN rfl (by omega) (by omega) rfl (.tmp 39) (.tmp 44) rfl w3.heap.size _ _ zs rfl hown6 _ _ 1 1 [.string TE,.slice U k cu] rfl (Has.own hlit) h1c (by omega) htop ?_))
    intro v7 w7 hown7 hb7 hg7 ht7
    have HR7:Hid (RowX w7 w3.heap.size w3.heap.size 33 v7 (zs++[.string TE,.slice U k cu]) (underL c0 (L.take (i+1)))):=hide (by
     rw[Htk.out]
     obtain⟨hk,ht⟩:=Hk.out
     subst hk ht
     exact H6.out.1.snoc Hat.out.cap Hat.out.most (Hat.out.has.below H6.out.2) (Hat.out.attrs.below H6.out.2) hown7 hb7)
    have HB7:=hide (H6.out.2.trans hb7)
    clear hown7 hb7 hg7 ht7 H6 hlit h1c hown6 htop d0 d1 Hat Hk Htk hlen
    go_wp2
    go_roundg r
    case measure=>omega
    case rel=>exact⟨i+1,_,by omega,by go_num,HR7,HB7⟩
   | false=>
    rw[hu] at hun
    have Hun:=hide hun
    have Htk:Hid (underL c0 (L.take (i+1))=underL c0 (L.take i)):=hide (by rw[htk];exact underL_no hu)
    generalize txt e.1=TE at *
    clear hun hatr hat htk he hlen hu
    go_wp2_with (go_at_call 21;fail)
    refine Hun.out.mono ?_
    rintro e' w5 ⟨rfl,hb5⟩
    have HR5:Hid (RowX w5 w3.heap.size w3.heap.size 33 u9 zs (underL c0 (L.take (i+1)))):=hide (by rw[Htk.out];exact hro.out.below hb5)
    have HB5:=hide (hbr.out.trans (hb5.mono hbr.out.size))
    clear hb5 Hun e0 hro hbr
    go_wp2
    go_roundg r
    case measure=>omega
    case rel=>exact⟨i+1,_,by omega,by go_num,HR5,HB5⟩
theorem restr_law (L:List EN) (R:List Ru) (s c0:List UInt8) (w:World) (A:Option Addr) (n c:Nat) (xs:List Value) (hA:Has w w.heap.size 2 A n xs) (hL:ENs w w.heap.size xs L) (AR:Option Addr) (m cR:Nat) (hR:Has w w.heap.size 5 AR m (rusC R)) (hT:TM w) (hn:n≤1048576) (hb:∀e∈L,BulkN e) (hty:TypesN L) (hf:∀r∈R,FitsR r) (hm:m≤maxLen) (hs:s.length≤1048576) (hc:c0.length≤1048576):
  Calls Tryz.prog 6 #[.slice A n c,.slice AR m cR,.string (txt s),.string (txt c0)] w fun e w'=>e=.returned (.bool true)∧Below w.heap.size w w':=by
 have hF:∀w,Has w w.heap.size 2 A n xs→ENs w w.heap.size xs L→Has w w.heap.size 5 AR m (rusC R)→Calls Tryz.prog 9 #[.slice A n c,.slice AR m cR,.string (txt s)] w fun e w'=>e=.returned (.bool (Tr (FewY L R s)))∧Below w.heap.size w w':=fun w hA hL hR=>
  fewY_any L R s w A n c xs hA hL hn hb AR m cR hR hf hm hs
 by_cases h:FewY L R s
 ·rw [Tr_yes h] at hF
  by_cases hc3:c0.length≤3000
  ·exact restr_yes L R s c0 w A n c xs hA hL AR m cR hR hT (small_ofN h.1) h.2.1 h.2.2 hc3 hF
  ·exact restr_no2 L R s c0 w A n c xs hA hL AR m cR hR hT (by omega) hF
 ·rw [Tr_no h] at hF
  exact restr_no1 L R s c0 w A n c xs hA hL AR m cR hR hT hF
theorem restr_bytes (L:List EN) (R:List Ru) (S C:ByteArray) (w:World) (A:Option Addr) (n c:Nat) (xs:List Value) (hA:Has w w.heap.size 2 A n xs) (hL:ENs w w.heap.size xs L) (AR:Option Addr) (m cR:Nat) (hR:Has w w.heap.size 5 AR m (rusC R)) (hT:TM w) (hn:n≤1048576) (hb:∀e∈L,BulkN e) (hty:TypesN L) (hf:∀r∈R,FitsR r) (hm:m≤maxLen) (hs:S.data.toList.length≤1048576) (hc:C.data.toList.length≤1048576):
  Calls Tryz.prog 6 #[.slice A n c,.slice AR m cR,.string S,.string C] w fun e w'=>e=.returned (.bool true)∧Below w.heap.size w w':=by
 have:=restr_law L R S.data.toList C.data.toList w A n c xs hA hL AR m cR hR hT hn hb hty hf hm hs hc
 rwa [self_txtE,self_txtE] at this
end Go.Proofs.YtjjepcnijmlliaaGreatDoor
