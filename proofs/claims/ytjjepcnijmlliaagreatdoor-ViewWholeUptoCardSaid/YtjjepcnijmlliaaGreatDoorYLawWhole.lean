/- ViewWhole: who may read everything sees all that is formed, as it is; who may read nothing sees nothing. By an AI agent. -/
import Derived.Test.YtjjepcnijmlliaaGreatDoorYBulk
import Derived.Test.YtjjepcnijmlliaaGreatDoorEY
set_option maxRecDepth 100000
set_option maxHeartbeats 64000000
namespace Go.Proofs.YtjjepcnijmlliaaGreatDoor
open Go.RowKit Go.Proofs.YtjjepcnijmlliaaGreatDoor.Opens
set_option linter.unusedVariables false
set_option linter.unusedSimpArgs false
theorem whole_no (L:List EN) (s:List UInt8) (w:World) (A:Option Addr) (n c:Nat) (xs:List Value) (hA:Has w w.heap.size 2 A n xs) (hL:ENs w w.heap.size xs L) (hT:TM w)
  (hF:∀w,Has w w.heap.size 2 A n xs→ENs w w.heap.size xs L→Calls Tryz.prog 9 #[.slice A n c,.slice none 0 0,.string (txt s)] w fun e w'=>e=.returned (.bool false)∧Below w.heap.size w w'):
  Calls Tryz.prog 7 #[.slice A n c,.string (txt s)] w fun e w'=>e=.returned (.bool true)∧Below w.heap.size w w':=by
 have hC:VO w w none 0 0 [] A n xs L:=⟨Below.refl _ _,hT,Has.nil,hA,hL⟩
 have HC:=hide hC
 have HF:=hide hF
 clear hC hF hA hL hT
 generalize txt s=S at *
 go_enter Tryz.func7,Tryz.ntmps7
 go_wp2_with (go_at_call 8;fail)
 refine (awakeY_any _ HC.out.tm).mono ?_
 rintro e w2 ⟨rfl,hb2⟩
 have HC2:=hide (HC.out.grow hb2)
 clear hb2 HC
 go_wp2_with (go_at_call 9;fail)
 refine (HF.out _ HC2.out.has HC2.out.ents).mono ?_
 rintro e w3 ⟨rfl,hb3⟩
 have HC3:=hide (HC2.out.grow hb3)
 clear hb3 HC2 HF
 go_wp2_with (go_at_call 8;fail)
 refine (awakeY_any _ HC3.out.tm).mono ?_
 rintro e w4 ⟨rfl,hb4⟩
 have HC4:=hide (HC3.out.grow hb4)
 clear hb4 HC3
 go_wp2
 go_ret
 exact⟨rfl,HC4.out.base⟩
theorem whole_yes (L:List EN) (s:List UInt8) (w:World) (A:Option Addr) (n c:Nat) (xs:List Value) (hA:Has w w.heap.size 2 A n xs) (hL:ENs w w.heap.size xs L) (hT:TM w) (hsm:SmallN L) (hty:TypesN L) (hs:s.length≤3000)
  (hF:∀w,Has w w.heap.size 2 A n xs→ENs w w.heap.size xs L→Calls Tryz.prog 9 #[.slice A n c,.slice none 0 0,.string (txt s)] w fun e w'=>e=.returned (.bool true)∧Below w.heap.size w w'):
  Calls Tryz.prog 7 #[.slice A n c,.string (txt s)] w fun e w'=>e=.returned (.bool true)∧Below w.heap.size w w':=by
 have hnl:=hA.ens_n hL
 have hn:n≤3000:=by rw[hnl];exact hsm.len
 have hwe:=wee_of_small hsm
 have hC:VO w w none 0 0 [] A n xs L:=⟨Below.refl _ _,hT,Has.nil,hA,hL⟩
 have hNm:=fun w hT=>rnormal_text s (by omega) w hT
 have hFo:∀e∈L,∀(w:World) (U:Option Addr) (cu:Nat) (ys:List Value),Has w w.heap.size 2 U e.2.length ys→EAs w w.heap.size ys e.2→TM w→Calls Tryz.prog 24 #[.agg #[.string (txt e.1),.slice U e.2.length cu]] w fun e' w'=>e'=.returned (.bool (Tr (FormedE e.1 e.2)))∧Below w.heap.size w w':=fun e he w U cu ys hA hL hT=>by
  obtain⟨h1,h2,h3⟩:=hwe e he
  exact rformedE_any e.1 e.2 w U _ cu ys hA hL h2 h1 (fun a ha=>⟨by have:=hty e he a ha;omega,h3 a ha⟩) hT
 have hOf1:∀(w:World) (AR:Option Addr),Has w w.heap.size 5 AR 1 (rusC allR)→Has w w.heap.size 2 A n xs→ENs w w.heap.size xs L→TM w→Calls Tryz.prog 11 #[.slice A n c,.slice AR 1 1,.string (txt s)] w (EntsPost (wholeL s L) w):=fun w AR hR hA hL hT=>by
  rw[←views_all]
  exact pof_any allR s L w AR 1 1 hR (fun r hr=>by
   obtain rfl:=List.mem_singleton.1 hr
   unfold Ru.small
   decide) (by omega) (by omega) A n c xs hA hL (by omega) hwe hT
 have hOf0:∀(w:World),Has w w.heap.size 2 A n xs→ENs w w.heap.size xs L→TM w→Calls Tryz.prog 11 #[.slice A n c,.slice none 0 0,.string (txt s)] w (EntsPost [] w):=fun w hA hL hT=>by
  rw[←views_nothing s L]
  exact pof_any [] s L w none 0 0 Has.nil (fun r hr=>by cases hr) (by omega) (by omega) A n c xs hA hL (by omega) hwe hT
 have HC:=hide hC
 have HF:=hide hF
 have HNm:=hide hNm
 have HFo:=hide hFo
 have HOf1:=hide hOf1
 have HOf0:=hide hOf0
 have HN:=hide hnl
 clear hC hF hA hL hT hNm hFo hOf1 hOf0 hnl hsm hty hs hwe
 generalize txt s=S at *
 generalize txt (normT s).1=NS at *
 obtain⟨y,hy⟩:∃y,(normT s).2=y:=⟨_,rfl⟩
 rw[hy] at HNm
 have Hy:=hide hy
 clear hy
 go_enter Tryz.func7,Tryz.ntmps7
 go_wp2_with (go_at_call 8;fail)
 refine (awakeY_any _ HC.out.tm).mono ?_
 rintro e w2 ⟨rfl,hb2⟩
 have HC2:=hide (HC.out.grow hb2)
 clear hb2 HC
 go_wp2_with (go_at_call 9;fail)
 refine (HF.out _ HC2.out.has HC2.out.ents).mono ?_
 rintro e w3 ⟨rfl,hb3⟩
 have HC3:=hide (HC2.out.grow hb3)
 clear hb3 HC2 HF
 go_wp2_with (go_at_call 23;fail)
 refine (HNm.out _ HC3.out.tm).mono ?_
 rintro e w4 ⟨rfl,hb4⟩
 have HC4:=hide (HC3.out.grow hb4)
 clear hb4 HC3 HNm
 go_wp2
 go_loopg [7,26] n (fun k s7 s26 wx=>∃(i:Nat) (zs:List Value),i+k=n∧s26=.int .i64 (i:Int)∧Hid (RowX wx w4.heap.size w4.heap.size 33 s7 zs (wholeL s (L.take i)))∧Hid (Below w4.heap.size w4 wx))
 case atStart=>exact⟨0,[],by omega,rfl,hide (RowX.start (World.ownsRow_nil _ _ _ _) (Nat.le_refl _) (Nat.le_refl _)),hide (Below.refl _ _)⟩
 case round=>
  obtain⟨i,zs,hig,rfl,hro,hbr⟩:=hrel
  cases gk with
  | zero=>
   obtain rfl:i=n:=by omega
   have hiz:¬((i:Int)<(i:Int)):=by omega
   have ho:=hro.out
   rw[List.take_of_length_le (by rw[←HN.out];exact Nat.le_refl _)] at ho
   obtain⟨Af,cf,rfl,hcf,hmf,hhf,hef⟩:=ho.told
   have hC5:=HC4.out.grow hbr.out
   have hba:=below1 wr (.cells #[.string ⟨#[42]⟩,.string ⟨#[]⟩,.string ⟨#[]⟩,.int .i64 1,.bool true] 58)
   have hX5:Blk (wr.alloc (.cells #[.string ⟨#[42]⟩,.string ⟨#[]⟩,.string ⟨#[]⟩,.int .i64 1,.bool true] 58)) wr.heap.size (rusC allR):=Blk.new wr [.string ⟨#[42]⟩,.string ⟨#[]⟩,.string ⟨#[]⟩,.int .i64 1,.bool true] 58
   have hC6:=hC5.grow hba
   have Hcall:=hide (HOf1.out _ _ (hX5.has 5 1 rfl) hC6.has hC6.ents hC6.tm)
   have HC6:=hide hC6
   have HE:=hide (And.intro ((hhf.below hba).upto hba.size) (hef.grow hba))
   have hlen:(wholeL s L).length≤3000:=by
    have:=wholeL_len s L
    have:=HN.out
    omega
   generalize wholeL s L=X at *
   have HXl:Hid (∃kx,X.length=kx):=hide ⟨_,rfl⟩
   obtain⟨kx,hkx⟩:=HXl.out
   rw[hkx]
   have Hkx:=hide hkx
   rw[hkx] at HE hcf hlen
   clear hro ho hcf hmf hhf hef hC5 hba hX5 hC6 hbr HOf1 HFo HN HC4 HXl hkx
   go_wp2_with (go_at_call 11;fail)
   refine Hcall.out.mono ?_
   rintro e w7 hpost
   obtain⟨A7,c7,ys7,rfl,hc7,hm7,hh7,he7,hb7⟩:=hpost.read
   rw[Hkx.out] at hh7 hc7 ⊢
   have HC7:=hide (HC6.out.grow hb7)
   have hcs:=rsameall_any X X w7 A7 Af kx kx c7 cf ys7 zs hh7 he7 ((HE.out.1.below hb7).upto hb7.size) (HE.out.2.grow hb7) (by unfold maxLen;omega) (by unfold maxLen;omega)
   rw[Tr_yes rfl] at hcs
   have Hcs:=hide hcs
   clear hpost hc7 hm7 hh7 he7 hb7 Hcall HC6 HE hcs
   go_wp2_with (go_at_call 10;fail)
   refine Hcs.out.mono ?_
   rintro e w8 ⟨rfl,hb8⟩
   have HC8:=hide (HC7.out.grow hb8)
   clear hb8 HC7 Hcs
   go_wp2_with (go_at_call 11;fail)
   refine (HOf0.out _ HC8.out.has HC8.out.ents HC8.out.tm).mono ?_
   rintro e w9 hpost
   obtain⟨A9,c9,ys9,rfl,_,_,_,_,hb9⟩:=hpost.read
   have HC9:=hide (HC8.out.grow hb9)
   clear hpost hb9 HC8 HOf0
   simp only[List.length_nil]
   go_wp2
   go_ret
   exact⟨rfl,HC9.out.base⟩
  | succ r=>
   have hi:i<n:=by omega
   have hiz:(i:Int)<(n:Int):=by omega
   obtain⟨e,he⟩:∃e,L[i]?=some e:=⟨_,List.getElem?_eq_getElem (by rw[←HN.out];exact hi)⟩
   obtain⟨g,o,hAe,hg,hat⟩:=HC4.out.has.en HC4.out.ents (fun h=>by rw[h] at he;simp at he)
   subst hAe
   obtain⟨U,cu,ys,hat⟩:=hat i e he
   have hatr:=hat.below hg hbr.out
   have e0:=hatr.e0
   have e1:=hatr.e1
   have hfo:=HFo.out e (List.mem_of_getElem? he) wr U cu ys (hatr.has.upto hbr.out.size) (hatr.attrs.upto hbr.out.size) (HC4.out.grow hbr.out).tm
   have htk:L.take (i+1)=L.take i++[e]:=by rw[List.take_add_one,he];rfl
   have hlen:(wholeL s (L.take i)).length≤3000:=by
    have:=wholeL_len s (L.take i)
    rw[List.length_take] at this
    omega
   by_cases hf:FormedE e.1 e.2
   ·rw [Tr_yes hf] at hfo
    have Hfo:=hide hfo
    by_cases hy0:y=0
    ·have Htk:Hid (wholeL s (L.take (i+1))=wholeL s (L.take i)++[e]):=hide (by rw[htk];exact wholeL_yes ⟨hf,Hy.out.trans hy0⟩)
     have q0:(y==0)=true:=by rw[hy0];rfl
     have Hat:=hide hat
     obtain⟨k,hk⟩:∃k,e.2.length=k:=⟨_,rfl⟩
     obtain⟨TE,hTE⟩:∃TE,txt e.1=TE:=⟨_,rfl⟩
     rw[hk,hTE] at Hfo
     rw[hk] at e1
     rw[hTE] at e0
     have Hk:=hide (And.intro hk hTE)
     clear hfo hatr hat hf htk hk hTE he hy0
     go_wp2_with (go_at_call 24;fail)
     refine Hfo.out.mono ?_
     rintro e' w5 ⟨rfl,hb5⟩
     have hbr5:=hbr.out.trans (hb5.mono hbr.out.size)
     have hat5:=Hat.out.below hg hbr5
     have d0:=hat5.e0
     have d1:=hat5.e1
     rw[Hk.out.2] at d0
     rw[Hk.out.1] at d1
     have hba:=below1 w5 (.cells #[.string TE,.slice U k cu] 33)
     have hlit:=litY w5 (.string TE) (.slice U k cu) 33 rfl rfl
     have h1c:∀u∈[Value.string TE,Value.slice U k cu],u.oneCell'=true:=by simp[Value.oneCell']
     have hro6:=(hro.out.below hb5).below hba
     have hown6:=hro6.own
     have htop:=hro6.top
     have hbr6:=hbr5.trans (hba.mono hbr5.size)
     have H6:=hide (And.intro hro6 hbr6)
     clear hbr5 hat5 hba hro6 hbr6 hb5 Hfo e0 e1
     go_upto_region 9 with fail
     go_wp2_with (at_builtin;go_must (refine appN _ 22 33 _ 2 40 Tryz.underlying22 infoEN rfl (by omega) (by omega) rfl (.tmp 38) (.tmp 43) rfl w4.heap.size _ _ zs rfl hown6 _ _ 1 1 [.string TE,.slice U k cu] rfl (Has.own hlit) h1c (by omega) htop ?_))
     intro v7 w7 hown7 hb7 hg7 ht7
     have HR7:Hid (RowX w7 w4.heap.size w4.heap.size 33 v7 (zs++[.string TE,.slice U k cu]) (wholeL s (L.take (i+1)))):=hide (by
      rw[Htk.out]
      obtain⟨hk,ht⟩:=Hk.out
      subst hk ht
      exact H6.out.1.snoc Hat.out.cap Hat.out.most (Hat.out.has.below H6.out.2) (Hat.out.attrs.below H6.out.2) hown7 hb7)
     have HB7:=hide (H6.out.2.trans hb7)
     clear hown7 hb7 hg7 ht7 H6 hlit h1c hown6 htop d0 d1 Hat Hk Htk hlen
     go_wp2
     go_roundg r
     case measure=>omega
     case rel=>exact⟨i+1,_,by omega,by go_num,HR7,HB7⟩
    ·have q0:(y==0)=false:=beq_false_of_ne hy0
     have Htk:Hid (wholeL s (L.take (i+1))=wholeL s (L.take i)):=hide (by rw[htk];exact wholeL_no fun h=>hy0 (Hy.out.symm.trans h.2))
     generalize txt e.1=TE at *
     generalize e.2.length=k at *
     clear hfo hatr hat hf htk he hlen hy0
     go_wp2_with (go_at_call 24;fail)
     refine Hfo.out.mono ?_
     rintro e' w5 ⟨rfl,hb5⟩
     have HR5:Hid (RowX w5 w4.heap.size w4.heap.size 33 u7 zs (wholeL s (L.take (i+1)))):=hide (by rw[Htk.out];exact hro.out.below hb5)
     have HB5:=hide (hbr.out.trans (hb5.mono hbr.out.size))
     clear hb5 Hfo e0 e1 hro hbr
     go_wp2
     go_roundg r
     case measure=>omega
     case rel=>exact⟨i+1,_,by omega,by go_num,HR5,HB5⟩
   ·rw [Tr_no hf] at hfo
    have Hfo:=hide hfo
    have Htk:Hid (wholeL s (L.take (i+1))=wholeL s (L.take i)):=hide (by rw[htk];exact wholeL_no fun h=>hf h.1)
    generalize txt e.1=TE at *
    generalize e.2.length=k at *
    clear hfo hatr hat hf htk he hlen
    go_wp2_with (go_at_call 24;fail)
    refine Hfo.out.mono ?_
    rintro e' w5 ⟨rfl,hb5⟩
    have HR5:Hid (RowX w5 w4.heap.size w4.heap.size 33 u7 zs (wholeL s (L.take (i+1)))):=hide (by rw[Htk.out];exact hro.out.below hb5)
    have HB5:=hide (hbr.out.trans (hb5.mono hbr.out.size))
    clear hb5 Hfo e0 e1 hro hbr
    go_wp2
    go_roundg r
    case measure=>omega
    case rel=>exact⟨i+1,_,by omega,by go_num,HR5,HB5⟩
theorem whole_law (L:List EN) (s:List UInt8) (w:World) (A:Option Addr) (n c:Nat) (xs:List Value) (hA:Has w w.heap.size 2 A n xs) (hL:ENs w w.heap.size xs L) (hT:TM w) (hn:n≤1048576) (hb:∀e∈L,BulkN e) (hty:TypesN L) (hs:s.length≤1048576):
  Calls Tryz.prog 7 #[.slice A n c,.string (txt s)] w fun e w'=>e=.returned (.bool true)∧Below w.heap.size w w':=by
 have hF:∀w,Has w w.heap.size 2 A n xs→ENs w w.heap.size xs L→Calls Tryz.prog 9 #[.slice A n c,.slice none 0 0,.string (txt s)] w fun e w'=>e=.returned (.bool (Tr (FewY L [] s)))∧Below w.heap.size w w':=fun w hA hL=>
  fewY_any L [] s w A n c xs hA hL hn hb none 0 0 Has.nil (fun r hr=>by cases hr) (by unfold maxLen;omega) hs
 by_cases h:FewY L [] s
 ·rw [Tr_yes h] at hF
  exact whole_yes L s w A n c xs hA hL hT (small_ofN h.1) hty h.2.2 hF
 ·rw [Tr_no h] at hF
  exact whole_no L s w A n c xs hA hL hT hF
theorem whole_bytes (L:List EN) (S:ByteArray) (w:World) (A:Option Addr) (n c:Nat) (xs:List Value) (hA:Has w w.heap.size 2 A n xs) (hL:ENs w w.heap.size xs L) (hT:TM w) (hn:n≤1048576) (hb:∀e∈L,BulkN e) (hty:TypesN L) (hs:S.data.toList.length≤1048576):
  Calls Tryz.prog 7 #[.slice A n c,.string S] w fun e w'=>e=.returned (.bool true)∧Below w.heap.size w w':=by
 have:=whole_law L S.data.toList w A n c xs hA hL hT hn hb hty hs
 rwa [self_txtE] at this
end Go.Proofs.YtjjepcnijmlliaaGreatDoor
