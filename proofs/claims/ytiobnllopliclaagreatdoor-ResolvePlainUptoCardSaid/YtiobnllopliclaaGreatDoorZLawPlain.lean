/- ResolvePlain. By an AI agent. -/
import Derived.Test.YtiobnllopliclaaGreatDoorZFind
import Derived.Test.YtiobnllopliclaaGreatDoorZFew
import Derived.Test.YtiobnllopliclaaGreatDoorZAwake
set_option maxRecDepth 100000
set_option maxHeartbeats 64000000
namespace Go.Proofs.YtiobnllopliclaaGreatDoor
open Go.RowKit Go.Proofs.YtiobnllopliclaaGreatDoor.Opens
set_option linter.unusedVariables false
set_option linter.unusedSimpArgs false
theorem plain_no (L:List EN) (s:List UInt8) (w:World) (A:Option Addr) (n c:Nat) (xs:List Value) (hA:Has w w.heap.size 2 A n xs) (hL:ENs w w.heap.size xs L) (hT:TM w) (hF:∀w,Has w w.heap.size 2 A n xs→ENs w w.heap.size xs L→TM w→Calls Tryz.prog 21 #[.slice A n c,.string (txt s)] w fun e w'=>e=.returned (.bool false)∧Below w.heap.size w w'):
  Calls Tryz.prog 8 #[.slice A n c,.string (txt s)] w fun e w'=>e=.returned (.bool true)∧Below w.heap.size w w':=by
 have hC:VZ w w A n xs L:=⟨Below.refl _ _,hT,hA,hL⟩
 have HC:=hide hC
 have HF:=hide hF
 clear hC hF hA hL hT
 generalize txt s=S at *
 go_enter Tryz.func8,Tryz.ntmps8
 go_wp2_with (go_at_call 20;fail)
 refine (awakeZ_any _ HC.out.tm).mono ?_
 rintro e w2 ⟨rfl,hb⟩
 have HC2:=hide (HC.out.grow hb)
 clear hb HC
 go_wp2_with (go_at_call 21;fail)
 refine (HF.out _ HC2.out.has HC2.out.ents HC2.out.tm).mono ?_
 rintro e w3 ⟨rfl,hb⟩
 have HC3:=hide (HC2.out.grow hb)
 clear hb HC2 HF
 go_wp2_with (go_at_call 20;fail)
 refine (awakeZ_any _ HC3.out.tm).mono ?_
 rintro e w4 ⟨rfl,hb⟩
 have HC4:=hide (HC3.out.grow hb)
 clear hb HC3
 go_wp2
 go_ret
 exact⟨rfl,HC4.out.base⟩
theorem plain_yes (L:List EN) (s:List UInt8) (w:World) (A:Option Addr) (n c:Nat) (xs:List Value) (hA:Has w w.heap.size 2 A n xs) (hL:ENs w w.heap.size xs L) (hT:TM w) (hfew:FewZ L s) (hF:∀w,Has w w.heap.size 2 A n xs→ENs w w.heap.size xs L→TM w→Calls Tryz.prog 21 #[.slice A n c,.string (txt s)] w fun e w'=>e=.returned (.bool true)∧Below w.heap.size w w'):
  Calls Tryz.prog 8 #[.slice A n c,.string (txt s)] w fun e w'=>e=.returned (.bool true)∧Below w.heap.size w w':=by
 obtain⟨hw,hs,hok⟩:=hfew
 obtain⟨hlen,hwe⟩:=wee_z hw
 have hml:=hA.ens_n hL
 have hno:∀e∈L,normT e.1=(e.1,0):=fun e he=>(hok e he).1
 have hC:VZ w w A n xs L:=⟨Below.refl _ _,hT,hA,hL⟩
 have HC:=hide hC
 have HF:=hide hF
 have hP:∀(x:List UInt8) (fo:Bool),x.length≤1000000→∀w,Has w w.heap.size 2 A n xs→ENs w w.heap.size xs L→TM w→Calls Tryz.prog 24 #[.slice A n c,.string (txt x),.bool fo] w fun e w'=>e=.returned (.tuple #[.string (txt (findV L x fo).1),.bool (findV L x fo).2.1,.int .i64 (findV L x fo).2.2])∧Below w.heap.size w w':=fun x fo hx w hA hL hT=>pfind_any L x fo w A n c xs hA hL (by omega) hwe hno hx hT
 have hn3:n≤3000:=by rw[hml];exact hlen
 have hP1:=hP s false (by omega)
 have hPt:(∀e∈L,(aliasE e.2).2=false)→∀w,Has w w.heap.size 2 A n xs→ENs w w.heap.size xs L→TM w→Calls Tryz.prog 24 #[.slice A n c,.string (txt s),.bool true] w fun e w'=>e=.returned (.tuple #[.string (txt (findV L s false).1),.bool (findV L s false).2.1,.int .i64 (findV L s false).2.2])∧Below w.heap.size w w':=fun h=>by
  have:=hP s true (by omega)
  rw[find_plain h] at this
  exact this
 have hN:=fun w hT=>rnormal_text s (by omega) w hT
 have hAl:∀e∈L,∀(w:World) (U:Option Addr) (cu:Nat) (ys:List Value),Has w w.heap.size 2 U e.2.length ys→EAs w w.heap.size ys e.2→TM w→
   Calls Tryz.prog 28 #[.agg #[.string (txt e.1),.slice U e.2.length cu]] w fun e2 w'=>e2=.returned (.tuple #[.string (txt (aliasE e.2).1),.bool (aliasE e.2).2])∧Below w.heap.size w w':=fun e he w U cu ys hA hL hT=>by
  obtain⟨h1,h2,h3⟩:=hwe e he
  exact ralias_any e.1 e.2 w U _ cu ys hA hL h2 h3 hT
 have hAt:∀x:List UInt8,x.length≤1000000→∀w,Has w w.heap.size 2 A n xs→ENs w w.heap.size xs L→TM w→Calls Tryz.prog 26 #[.slice A n c,.string (txt x)] w fun e w'=>e=.returned (.int .i64 (atN L x))∧Below w.heap.size w w':=fun x hx w hA hL hT=>rat_any L x w A n c xs hA hL (by omega) hx hT
 have HAl:=hide hAl
 have HM:=hide hml
 by_cases h0:(normT s).2=0
 ·have h:normT s=((normT s).1,0):=Prod.ext rfl h0
  obtain⟨x,hx⟩:∃x,(normT s).1=x:=⟨_,rfl⟩
  rw[hx] at h
  have hxn:=norm_self h
  have hx1:=norm_len1 hxn
  rw[h] at hN
  rw[find_still L h] at hP1 hPt
  have HAt:=hide (hAt x (by omega))
  have HN:=hide hN
  have hxx:=toeq x []
  have qq:((txt x).toList==(txt x).toList)=true:=by simp
  have qn:((txt x).toList !=(txt x).toList)=false:=by unfold bne;rw[qq];rfl
  have q00:((txt []).toList==(txt []).toList)=true:=by simp
  by_cases hx0:x=[]
  ·rw [if_pos (show thereB L x=true by unfold thereB;rw[hx0];rfl)] at hP1 hPt
   have q:((txt x).toList==[])=true:=by rw[hxx,hx0];rfl
   have HP1:=hide hP1
   have HPt:=hide hPt
   clear hP hP1 hPt hN hAl hAt hC hF hA hL hT hw hs hok hlen hwe hml hno h0 h hx hxn hx1 hxx q00 hx0 HAt
   generalize txt s=S at *
   generalize txt x=X at *
   go_enter Tryz.func8,Tryz.ntmps8
   go_wp2_with (go_at_call 20;fail)
   refine (awakeZ_any _ HC.out.tm).mono ?_
   rintro e w2 ⟨rfl,hb⟩
   have HC2:=hide (HC.out.grow hb)
   clear hb HC
   go_wp2_with (go_at_call 21;fail)
   refine (HF.out _ HC2.out.has HC2.out.ents HC2.out.tm).mono ?_
   rintro e w3 ⟨rfl,hb⟩
   have HC3:=hide (HC2.out.grow hb)
   clear hb HC2 HF
   go_wp2_with (go_at_call 27;fail)
   refine (HN.out _ HC3.out.tm).mono ?_
   rintro e w4 ⟨rfl,hb⟩
   have HC4:=hide (HC3.out.grow hb)
   clear hb HC3 HN
   go_wp2_with (go_at_call 24;fail)
   refine (HP1.out _ HC4.out.has HC4.out.ents HC4.out.tm).mono ?_
   rintro e w5 ⟨rfl,hb⟩
   have HC5:=hide (HC4.out.grow hb)
   clear hb HC4 HP1
   go_wp2
   go_loopg [75] n (fun k s75 wx=>∃i:Nat,i+k=n∧s75=.int .i64 (i:Int)∧Hid (∀e∈L.take i,(aliasE e.2).2=false)∧Hid (VZ w wx A n xs L))
   case atStart=>exact⟨0,by omega,rfl,hide (fun e he=>by simp at he),HC5⟩
   case round=>
    obtain⟨i,hig,rfl,hpre,hcr⟩:=hrel
    clear HC5
    cases gk with
    | zero=>
     obtain rfl:i=n:=by omega
     have hiz:¬((i:Int)<(i:Int)):=by omega
     have hp:=hpre.out
     rw[List.take_of_length_le (by rw[HM.out];exact Nat.le_refl _)] at hp
     have HP2:=hide (HPt.out hp)
     clear hp hpre HAl HM HPt
     go_wp2_with (go_at_call 24;fail)
     refine (HP2.out _ hcr.out.has hcr.out.ents hcr.out.tm).mono ?_
     rintro e w9 ⟨rfl,hb⟩
     have HC9:=hide (hcr.out.grow hb)
     clear hb hcr HP2
     have HE:=hide HC9.out.base
     clear HC9
     go_wp2
     go_ret
     exact⟨rfl,HE.out⟩
    | succ k=>
     have hi:i<n:=by omega
     have hiz:(i:Int)<(n:Int):=by omega
     obtain⟨e,he⟩:∃e,L[i]?=some e:=⟨_,List.getElem?_eq_getElem (by rw[←HM.out];exact hi)⟩
     obtain⟨g,o,hAe,hg,hat⟩:=hcr.out.has.en hcr.out.ents (fun h=>by rw[h] at he;simp at he)
     subst hAe
     obtain⟨U,cu,ys,hat⟩:=hat i e he
     have e0:=hat.e0
     have e1:=hat.e1
     have Hcall:=hide (HAl.out e (List.mem_of_getElem? he) wr U cu ys hat.has hat.attrs hcr.out.tm)
     have Hnx:Hid ((aliasE e.2).2=false→∀x∈L.take (i+1),(aliasE x.2).2=false):=hide (fun h=>by
      rw[List.take_add_one,he]
      intro x hx
      rcases List.mem_append.1 hx with hx | hx
      ·exact hpre.out x hx
      ·obtain rfl:x=e:=by simpa using hx
       exact h)
     generalize txt (aliasE e.2).1=TT1 at *
     generalize (aliasE e.2).2=al at *
     generalize txt e.1=TE at *
     generalize e.2.length=ke at *
     clear hat he hpre
     go_wp2_with (go_at_call 28;fail)
     refine Hcall.out.mono ?_
     rintro e w7 ⟨rfl,hb⟩
     have HC7:=hide (hcr.out.grow hb)
     clear hb hcr Hcall e0 e1
     cases al with
     | true=>
      have HE:=hide HC7.out.base
      clear HC7 Hnx HAl HM HPt
      go_wp2
      go_ret
      exact⟨rfl,HE.out⟩
     | false=>
      have Hn2:=hide (Hnx.out rfl)
      clear Hnx
      go_wp2
      go_roundg k
      case measure=>omega
      case rel=>exact⟨i+1,by omega,by go_num,Hn2,HC7⟩
  ·have q:((txt x).toList==[])=false:=by rw[hxx];simpa using hx0
   have hxb:(x==[])=false:=by simpa using hx0
   have hta:=there_at (L:=L) hxn
   rw[hxb,Bool.false_or] at hta
   by_cases hat:0≤atN L x
   ·rw [if_pos (show thereB L x=true by rw[hta];exact decide_eq_true hat)] at hP1 hPt
    have HP1:=hide hP1
    have HPt:=hide hPt
    generalize atN L x=ai at *
    have hz:¬ai<0:=by omega
    clear hP hP1 hPt hN hAl hAt hC hF hA hL hT hw hs hok hlen hwe hml hno h0 h hx hxn hx1 hxx q00 hx0 hxb hta
    generalize txt s=S at *
    generalize txt x=X at *
    go_enter Tryz.func8,Tryz.ntmps8
    go_wp2_with (go_at_call 20;fail)
    refine (awakeZ_any _ HC.out.tm).mono ?_
    rintro e w2 ⟨rfl,hb⟩
    have HC2:=hide (HC.out.grow hb)
    clear hb HC
    go_wp2_with (go_at_call 21;fail)
    refine (HF.out _ HC2.out.has HC2.out.ents HC2.out.tm).mono ?_
    rintro e w3 ⟨rfl,hb⟩
    have HC3:=hide (HC2.out.grow hb)
    clear hb HC2 HF
    go_wp2_with (go_at_call 27;fail)
    refine (HN.out _ HC3.out.tm).mono ?_
    rintro e w4 ⟨rfl,hb⟩
    have HC4:=hide (HC3.out.grow hb)
    clear hb HC3 HN
    go_wp2_with (go_at_call 24;fail)
    refine (HP1.out _ HC4.out.has HC4.out.ents HC4.out.tm).mono ?_
    rintro e w5 ⟨rfl,hb⟩
    have HC5:=hide (HC4.out.grow hb)
    clear hb HC4 HP1
    go_wp2_with (go_at_call 26;fail)
    refine (HAt.out _ HC5.out.has HC5.out.ents HC5.out.tm).mono ?_
    rintro e w6 ⟨rfl,hb⟩
    have HC6:=hide (HC5.out.grow hb)
    clear hb HC5 HAt
    go_wp2
    go_loopg [75] n (fun k s75 wx=>∃i:Nat,i+k=n∧s75=.int .i64 (i:Int)∧Hid (∀e∈L.take i,(aliasE e.2).2=false)∧Hid (VZ w wx A n xs L))
    case atStart=>exact⟨0,by omega,rfl,hide (fun e he=>by simp at he),HC6⟩
    case round=>
     obtain⟨i,hig,rfl,hpre,hcr⟩:=hrel
     clear HC6
     cases gk with
     | zero=>
      obtain rfl:i=n:=by omega
      have hiz:¬((i:Int)<(i:Int)):=by omega
      have hp:=hpre.out
      rw[List.take_of_length_le (by rw[HM.out];exact Nat.le_refl _)] at hp
      have HP2:=hide (HPt.out hp)
      clear hp hpre HAl HM HPt
      go_wp2_with (go_at_call 24;fail)
      refine (HP2.out _ hcr.out.has hcr.out.ents hcr.out.tm).mono ?_
      rintro e w9 ⟨rfl,hb⟩
      have HC9:=hide (hcr.out.grow hb)
      clear hb hcr HP2
      have HE:=hide HC9.out.base
      clear HC9
      go_wp2
      go_ret
      exact⟨rfl,HE.out⟩
     | succ k=>
      have hi:i<n:=by omega
      have hiz:(i:Int)<(n:Int):=by omega
      obtain⟨e,he⟩:∃e,L[i]?=some e:=⟨_,List.getElem?_eq_getElem (by rw[←HM.out];exact hi)⟩
      obtain⟨g,o,hAe,hg,hat⟩:=hcr.out.has.en hcr.out.ents (fun h=>by rw[h] at he;simp at he)
      subst hAe
      obtain⟨U,cu,ys,hat⟩:=hat i e he
      have e0:=hat.e0
      have e1:=hat.e1
      have Hcall:=hide (HAl.out e (List.mem_of_getElem? he) wr U cu ys hat.has hat.attrs hcr.out.tm)
      have Hnx:Hid ((aliasE e.2).2=false→∀x∈L.take (i+1),(aliasE x.2).2=false):=hide (fun h=>by
       rw[List.take_add_one,he]
       intro x hx
       rcases List.mem_append.1 hx with hx | hx
       ·exact hpre.out x hx
       ·obtain rfl:x=e:=by simpa using hx
        exact h)
      generalize txt (aliasE e.2).1=TT1 at *
      generalize (aliasE e.2).2=al at *
      generalize txt e.1=TE at *
      generalize e.2.length=ke at *
      clear hat he hpre
      go_wp2_with (go_at_call 28;fail)
      refine Hcall.out.mono ?_
      rintro e w7 ⟨rfl,hb⟩
      have HC7:=hide (hcr.out.grow hb)
      clear hb hcr Hcall e0 e1
      cases al with
      | true=>
       have HE:=hide HC7.out.base
       clear HC7 Hnx HAl HM HPt
       go_wp2
       go_ret
       exact⟨rfl,HE.out⟩
      | false=>
       have Hn2:=hide (Hnx.out rfl)
       clear Hnx
       go_wp2
       go_roundg k
       case measure=>omega
       case rel=>exact⟨i+1,by omega,by go_num,Hn2,HC7⟩
   ·rw [if_neg (show ¬thereB L x=true by rw[hta,decide_eq_false hat];simp)] at hP1 hPt
    have HP1:=hide hP1
    have HPt:=hide hPt
    generalize atN L x=ai at *
    have hz:ai<0:=by omega
    have hz2:¬0≤ai:=hat
    clear hP hP1 hPt hN hAl hAt hC hF hA hL hT hw hs hok hlen hwe hml hno h0 h hx hxn hx1 hxx hx0 hxb hta qq qn
    generalize txt s=S at *
    generalize txt x=X at *
    generalize txt []=X0 at *
    go_enter Tryz.func8,Tryz.ntmps8
    go_wp2_with (go_at_call 20;fail)
    refine (awakeZ_any _ HC.out.tm).mono ?_
    rintro e w2 ⟨rfl,hb⟩
    have HC2:=hide (HC.out.grow hb)
    clear hb HC
    go_wp2_with (go_at_call 21;fail)
    refine (HF.out _ HC2.out.has HC2.out.ents HC2.out.tm).mono ?_
    rintro e w3 ⟨rfl,hb⟩
    have HC3:=hide (HC2.out.grow hb)
    clear hb HC2 HF
    go_wp2_with (go_at_call 27;fail)
    refine (HN.out _ HC3.out.tm).mono ?_
    rintro e w4 ⟨rfl,hb⟩
    have HC4:=hide (HC3.out.grow hb)
    clear hb HC3 HN
    go_wp2_with (go_at_call 24;fail)
    refine (HP1.out _ HC4.out.has HC4.out.ents HC4.out.tm).mono ?_
    rintro e w5 ⟨rfl,hb⟩
    have HC5:=hide (HC4.out.grow hb)
    clear hb HC4 HP1
    go_wp2_with (go_at_call 26;fail)
    refine (HAt.out _ HC5.out.has HC5.out.ents HC5.out.tm).mono ?_
    rintro e w6 ⟨rfl,hb⟩
    have HC6:=hide (HC5.out.grow hb)
    clear hb HC5 HAt
    go_wp2
    go_loopg [75] n (fun k s75 wx=>∃i:Nat,i+k=n∧s75=.int .i64 (i:Int)∧Hid (∀e∈L.take i,(aliasE e.2).2=false)∧Hid (VZ w wx A n xs L))
    case atStart=>exact⟨0,by omega,rfl,hide (fun e he=>by simp at he),HC6⟩
    case round=>
     obtain⟨i,hig,rfl,hpre,hcr⟩:=hrel
     clear HC6
     cases gk with
     | zero=>
      obtain rfl:i=n:=by omega
      have hiz:¬((i:Int)<(i:Int)):=by omega
      have hp:=hpre.out
      rw[List.take_of_length_le (by rw[HM.out];exact Nat.le_refl _)] at hp
      have HP2:=hide (HPt.out hp)
      clear hp hpre HAl HM HPt
      go_wp2_with (go_at_call 24;fail)
      refine (HP2.out _ hcr.out.has hcr.out.ents hcr.out.tm).mono ?_
      rintro e w9 ⟨rfl,hb⟩
      have HC9:=hide (hcr.out.grow hb)
      clear hb hcr HP2
      have HE:=hide HC9.out.base
      clear HC9
      go_wp2
      go_ret
      exact⟨rfl,HE.out⟩
     | succ k=>
      have hi:i<n:=by omega
      have hiz:(i:Int)<(n:Int):=by omega
      obtain⟨e,he⟩:∃e,L[i]?=some e:=⟨_,List.getElem?_eq_getElem (by rw[←HM.out];exact hi)⟩
      obtain⟨g,o,hAe,hg,hat⟩:=hcr.out.has.en hcr.out.ents (fun h=>by rw[h] at he;simp at he)
      subst hAe
      obtain⟨U,cu,ys,hat⟩:=hat i e he
      have e0:=hat.e0
      have e1:=hat.e1
      have Hcall:=hide (HAl.out e (List.mem_of_getElem? he) wr U cu ys hat.has hat.attrs hcr.out.tm)
      have Hnx:Hid ((aliasE e.2).2=false→∀x∈L.take (i+1),(aliasE x.2).2=false):=hide (fun h=>by
       rw[List.take_add_one,he]
       intro x hx
       rcases List.mem_append.1 hx with hx | hx
       ·exact hpre.out x hx
       ·obtain rfl:x=e:=by simpa using hx
        exact h)
      generalize txt (aliasE e.2).1=TT1 at *
      generalize (aliasE e.2).2=al at *
      generalize txt e.1=TE at *
      generalize e.2.length=ke at *
      clear hat he hpre
      go_wp2_with (go_at_call 28;fail)
      refine Hcall.out.mono ?_
      rintro e w7 ⟨rfl,hb⟩
      have HC7:=hide (hcr.out.grow hb)
      clear hb hcr Hcall e0 e1
      cases al with
      | true=>
       have HE:=hide HC7.out.base
       clear HC7 Hnx HAl HM HPt
       go_wp2
       go_ret
       exact⟨rfl,HE.out⟩
      | false=>
       have Hn2:=hide (Hnx.out rfl)
       clear Hnx
       go_wp2
       go_roundg k
       case measure=>omega
       case rel=>exact⟨i+1,by omega,by go_num,Hn2,HC7⟩
 ·have hy:=beq_false_of_ne h0
  have hx0:(normT s).1=[]:=by
   cases pt s with
   | no e he h'=>rw[norm_no' h']
   | ok T ho h'=>rw[norm_yes' h'] at h0;exact absurd rfl h0
  rw[hx0] at hN
  rw[find_bad h0] at hP1
  have q:((txt []).toList==[])=true:=by rw[toeq];rfl
  generalize (normT s).2=y at *
  have hy2:(y !=0)=true:=by unfold bne;rw[hy];rfl
  have HN:=hide hN
  have HP1:=hide hP1
  clear hP hP1 hPt hN hAl hAt hC hF hA hL hT hw hs hok hlen hwe hml hno h0 hx0 HAl HM
  generalize txt s=S at *
  generalize txt []=X0 at *
  go_enter Tryz.func8,Tryz.ntmps8
  go_wp2_with (go_at_call 20;fail)
  refine (awakeZ_any _ HC.out.tm).mono ?_
  rintro e w2 ⟨rfl,hb⟩
  have HC2:=hide (HC.out.grow hb)
  clear hb HC
  go_wp2_with (go_at_call 21;fail)
  refine (HF.out _ HC2.out.has HC2.out.ents HC2.out.tm).mono ?_
  rintro e w3 ⟨rfl,hb⟩
  have HC3:=hide (HC2.out.grow hb)
  clear hb HC2 HF
  go_wp2_with (go_at_call 27;fail)
  refine (HN.out _ HC3.out.tm).mono ?_
  rintro e w4 ⟨rfl,hb⟩
  have HC4:=hide (HC3.out.grow hb)
  clear hb HC3 HN
  go_wp2_with (go_at_call 24;fail)
  refine (HP1.out _ HC4.out.has HC4.out.ents HC4.out.tm).mono ?_
  rintro e w5 ⟨rfl,hb⟩
  have HC5:=hide (HC4.out.grow hb)
  clear hb HC4 HP1
  have HE:=hide HC5.out.base
  clear HC5
  go_wp2
  go_ret
  exact⟨rfl,HE.out⟩
theorem plain_bytes (L:List EN) (s:List UInt8) (w:World) (A:Option Addr) (n c:Nat) (xs:List Value) (hA:Has w w.heap.size 2 A n xs) (hL:ENs w w.heap.size xs L) (hn:n≤1048576) (hb:∀e∈L,BulkN e) (hs:s.length≤1048576) (hT:TM w):
  Calls Tryz.prog 8 #[.slice A n c,.string (txt s)] w fun e w'=>e=.returned (.bool true)∧Below w.heap.size w w':=by
 have hF:=fun w hA hL hT=>fewZ_any L s w A n c xs hA hL hn hb hs hT
 by_cases h:FewZ L s
 ·rw [Tr_yes h] at hF
  exact plain_yes L s w A n c xs hA hL hT h hF
 ·rw [Tr_no h] at hF
  exact plain_no L s w A n c xs hA hL hT hF
theorem plain_row (L:List EN) (S:ByteArray) (w:World) (A:Option Addr) (n c:Nat) (xs:List Value) (hA:Has w w.heap.size 2 A n xs) (hL:ENs w w.heap.size xs L) (hn:n≤1048576) (hb:∀e∈L,BulkN e) (hs:S.data.toList.length≤1048576) (hT:TM w):
  Calls Tryz.prog 8 #[.slice A n c,.string S] w fun e w'=>e=.returned (.bool true)∧Below w.heap.size w w':=by
 have:=plain_bytes L S.data.toList w A n c xs hA hL hn hb hs hT
 rwa [self_txtE] at this
end Go.Proofs.YtiobnllopliclaaGreatDoor
