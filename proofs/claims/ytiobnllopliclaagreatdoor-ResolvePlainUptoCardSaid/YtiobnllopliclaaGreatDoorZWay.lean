/- The names that a name comes to be, by the program. By an AI agent. -/
import Derived.Test.YtiobnllopliclaaGreatDoorZStep
import Derived.Test.YtiobnllopliclaaGreatDoorEX
set_option maxRecDepth 100000
set_option maxHeartbeats 64000000
namespace Go.Proofs.YtiobnllopliclaaGreatDoor
open Go.RowKit
set_option linter.unusedVariables false
set_option linter.unusedSimpArgs false
structure WayPost (G:List (List UInt8) × List UInt8 × Int) (w:World) (e:Ending) (w':World):Prop where
 out:∃A n c,e=.returned (.tuple #[.slice A n c,.int .i64 G.2.2])∧Below w.heap.size w w'∧(G.2.2=0→n=G.1.length∧Has w' w'.heap.size 1 A n (strs G.1))
theorem way_err {y:Int} (hy:y≠0) {w w':World} (A:Option Addr) (n c:Nat) (hb:Below w.heap.size w w'):WayPost ([],[],y) w (.returned (.tuple #[.slice A n c,.int .i64 y])) w':=⟨⟨A,n,c,rfl,hb,fun h=>absurd h hy⟩⟩
theorem pway_any (L:List EN) (n:List UInt8) (hn:normT n=(n,0)) (w:World) (A:Option Addr) (m c:Nat) (xs:List Value) (hA:Has w w.heap.size 2 A m xs) (hL:ENs w w.heap.size xs L) (hm:m≤1000000) (hwe:∀e∈L,WeeZ e) (hno:∀e∈L,normT e.1=(e.1,0)) (hT:TM w):
  Calls Tryz.prog 56 #[.slice A m c,.string (txt n)] w (WayPost (goV L 17 [n] n) w):=by
 have hC:VZ w w A m xs L:=⟨Below.refl _ _,hT,hA,hL⟩
 have hSt:∀x:List UInt8,normT x=(x,0)→∀w,Has w w.heap.size 2 A m xs→ENs w w.heap.size xs L→TM w→Calls Tryz.prog 22 #[.slice A m c,.string (txt x)] w fun e w'=>e=.returned (.tuple #[.string (txt (stepV L x).1),.bool (stepV L x).2.1,.int .i64 (stepV L x).2.2])∧Below w.heap.size w w':=fun x hx w hA hL hT=>
  pstep_any L x w A m c xs hA hL hm hwe hno (by have:=norm_len1 hx;omega) hT
 obtain⟨G,hG⟩:∃G,goV L 17 [n] n=G:=⟨_,rfl⟩
 rw[hG]
 have hb1:=below1 w (.cells #[.string (txt n)] 9)
 have hlit:=litS w (txt n)
 obtain⟨w1,hw1⟩:∃w1,w.alloc (.cells #[.string (txt n)] 9)=w1:=⟨_,rfl⟩
 rw[hw1] at hb1 hlit
 have HSt:=hide hSt
 have HC:=hide hC
 have HG:=hide hG
 have Hl:Hid (w1.ownsRow w.heap.size 9 1 (.slice (some ⟨w.heap.size,0,none⟩) 1 1) (0+1) (strs ([]++[n]))):=hide hlit
 have HB:=hide hb1
 have Hn:=hide hn
 have Hw1:=hide hw1
 clear hC hSt hG hb1 hlit hw1 hA hL hwe hno hT hn
 suffices H:Calls Tryz.prog 56 #[.slice A m c,.string (txt n)] w fun e w'=>Hid (WayPost G w e w') from H.mono fun e w' h=>h.out
 generalize hSN:txt n=SN at *
 clear hSN
 go_enter Tryz.func56,Tryz.ntmps56
 go_upto_region 2 with fail
 rw[Hw1.out]
 go_loopg [6] 17 (fun k s6 wx=>∃(p:List (List UInt8)) (x:List UInt8),Hid (goV L k (p++[x]) x=G)∧Hid (normT x=(x,0))∧p.length+k=17∧1≤k∧Hid (wx.ownsRow w.heap.size 9 1 s6 (p.length+1) (strs (p++[x])))∧Hid (Below w.heap.size w wx))
 case atStart=>exact⟨[],n,HG,Hn,rfl,by omega,Hl,HB⟩
 case round=>
  obtain⟨p,x,hgo,hnx,hpk,hk1,hro,hbr⟩:=hrel
  have hcr:=hide (HC.out.grow hbr.out)
  clear HG Hn Hl HB Hw1
  cases gk with
  | zero=>exact absurd hk1 (by omega)
  | succ r=>
   obtain⟨A5,c5,rfl,hc5,hH5⟩:=own_form hro.out
   obtain⟨g,o,hA5,hg5,hat5⟩:=hH5.texts (by simp)
   have d0:=hat5 p.length x (by simp)
   have hcall:=HSt.out x hnx.out wr hcr.out.has hcr.out.ents hcr.out.tm
   have Hcall:=hide hcall
   have hln:(p++[x]).length=p.length+1:=by simp
   have hgo2:=hgo.out
   obtain⟨st,hst⟩:∃st,stepV L x=st:=⟨_,rfl⟩
   rw[hst] at Hcall
   have hsn:st.2.2=0→normT st.1=(st.1,0):=fun h=>step_norm (L:=L) (n:=x) (b:=st.2.1) (by rw[hst];exact Prod.ext rfl (Prod.ext rfl h))
   obtain⟨tx,ok,code⟩:=st
   simp only at Hcall hsn
   have Hsn:=hide hsn
   have hz:(0:Int)<((p.length+1:Nat):Int):=by omega
   obtain⟨q,hq⟩:∃q,p.length=q:=⟨_,rfl⟩
   rw[hq] at d0 hz hro hH5 hc5 hpk
   rw[hq]
   have hqq:(q:Int)<(q:Int)+1:=by omega
   have Hq:=hide hq
   subst hA5
   clear hcall hgo hat5 hsn hq HSt
   by_cases h1:code=0
   ·subst h1
    cases ok with
    | false=>
     have hGe:Hid (G=(p++[x],x,0)):=hide (by rw[←hgo2,go_stay (by rw[hst]) (by rw[hst];simp)])
     clear hgo2 hst Hsn hnx hln
     generalize txt x=X at *
     generalize txt tx=TO at *
     go_wp2_with (go_at_call 22;fail)
     refine Hcall.out.mono ?_
     rintro e w3 ⟨rfl,hb3⟩
     have HE:=hide (hcr.out.grow hb3).base
     have HH:Hid (Has w3 w3.heap.size 1 (some ⟨g,o,none⟩) (q+1) (strs (p++[x]))):=hide ((hH5.below hb3).upto hb3.size)
     clear hb3 hcr hro Hcall d0 hH5 hg5
     go_wp2
     go_ret2
     exact hide ⟨⟨_,q+1,c5,by rw[hGe.out];rfl,HE.out,fun _=>by rw[hGe.out];exact⟨by simp[Hq.out],HH.out⟩⟩⟩
    | true=>
     have hnt:=Hsn.out rfl
     by_cases h16:16<q
     ·have hGe:Hid (G=([],[],36)):=hide (by rw[←hgo2,go_ring (by rw[hst]) (by rw[hst]) (Or.inl (by rw[hln,Hq.out];omega))])
      have z16:(16:Int)<(q:Int)+1:=by omega
      clear hgo2 hst Hsn hnx hln hnt
      generalize txt x=X at *
      generalize txt tx=TO at *
      go_wp2_with (go_at_call 22;fail)
      refine Hcall.out.mono ?_
      rintro e w3 ⟨rfl,hb3⟩
      have HE:=hide (hcr.out.grow hb3).base
      clear hb3 hcr hro Hcall d0 hH5 hg5
      go_wp2
      go_ret2
      exact hide (by rw[hGe.out];exact way_err (by decide) _ _ _ HE.out)
     ·by_cases h16':16<q+1
      ·have hGe:Hid (G=([],[],36)):=hide (by rw[←hgo2,go_ring (by rw[hst]) (by rw[hst]) (Or.inl (by rw[hln,Hq.out];omega))])
       have z16:(16:Int)<(q:Int)+1:=by omega
       clear hgo2 hst Hsn hnx hln hnt
       generalize txt x=X at *
       generalize txt tx=TO at *
       go_wp2_with (go_at_call 22;fail)
       refine Hcall.out.mono ?_
       rintro e w3 ⟨rfl,hb3⟩
       have HE:=hide (hcr.out.grow hb3).base
       clear hb3 hcr hro Hcall d0 hH5 hg5
       go_wp2
       go_ret2
       exact hide (by rw[hGe.out];exact way_err (by decide) _ _ _ HE.out)
      ·have z16:¬(16:Int)<(q:Int)+1:=by omega
       by_cases hin:tx∈p++[x]
       ·have hGe:Hid (G=([],[],36)):=hide (by rw[←hgo2,go_ring (by rw[hst]) (by rw[hst]) (Or.inr (by rw[hst];exact hin))])
        have hCo:∀w,Has w w.heap.size 1 (some ⟨g,o,none⟩) (q+1) (strs (p++[x]))→Calls Tryz.prog 93 #[.slice (some ⟨g,o,none⟩) (q+1) c5,.string (txt tx)] w fun e w'=>e=.returned (.bool true)∧w'=w:=fun w hH=>by
         have:=contains_any w w.heap.size (some ⟨g,o,none⟩) (q+1) c5 (p++[x]) tx hH (by omega)
         rw[Tr_yes hin] at this
         exact this
        have HCo:=hide hCo
        clear hgo2 hst Hsn hnx hln hnt hCo hin
        generalize txt x=X at *
        generalize txt tx=TO at *
        go_wp2_with (go_at_call 22;fail)
        refine Hcall.out.mono ?_
        rintro e w3 ⟨rfl,hb3⟩
        have HE:=hide (hcr.out.grow hb3).base
        have HH:Hid (Has w3 w3.heap.size 1 (some ⟨g,o,none⟩) (q+1) (strs (p++[x]))):=hide ((hH5.below hb3).upto hb3.size)
        clear hb3 hcr hro Hcall d0 hH5 hg5
        go_wp2_with (go_at_call 93;fail)
        refine (HCo.out _ HH.out).mono ?_
        rintro e w4 ⟨rfl,hw4⟩
        obtain rfl:=hw4.symm
        clear hw4 HCo HH
        go_wp2
        go_ret2
        exact hide (by rw[hGe.out];exact way_err (by decide) _ _ _ HE.out)
       ·have hnx2:Hid (goV L r ((p++[x])++[tx]) tx=G):=hide (by
         rw[←hgo2,go_on (by rw[hst]) (by rw[hst]) (by rw[hst,hln,Hq.out];exact fun h=>h.elim (fun h=>h16' h) hin),hst])
        have hCo:∀w,Has w w.heap.size 1 (some ⟨g,o,none⟩) (q+1) (strs (p++[x]))→Calls Tryz.prog 93 #[.slice (some ⟨g,o,none⟩) (q+1) c5,.string (txt tx)] w fun e w'=>e=.returned (.bool false)∧w'=w:=fun w hH=>by
         have:=contains_any w w.heap.size (some ⟨g,o,none⟩) (q+1) c5 (p++[x]) tx hH (by omega)
         rw[Tr_no hin] at this
         exact this
        have HCo:=hide hCo
        have Hnt:=hide hnt
        have Hln:=hide hln
        have hstr:Hid (strs (p++[x])++[.string (txt tx)]=strs ((p++[x])++[tx])):=hide (by simp[strs])
        clear hgo2 hst Hsn hnx hln hnt hCo hin
        generalize txt x=X at *
        generalize txt tx=TO at *
        go_wp2_with (go_at_call 22;fail)
        refine Hcall.out.mono ?_
        rintro e w3 ⟨rfl,hb3⟩
        have HC3:=hide (hcr.out.grow hb3)
        have Hro3:=hide (own_below hro.out hb3)
        have HH:Hid (Has w3 w3.heap.size 1 (some ⟨g,o,none⟩) (q+1) (strs (p++[x]))):=hide ((hH5.below hb3).upto hb3.size)
        clear hb3 hcr hro Hcall d0 hH5 hg5
        go_wp2_with (go_at_call 93;fail)
        refine (HCo.out _ HH.out).mono ?_
        rintro e w4 ⟨rfl,hw4⟩
        obtain rfl:=hw4.symm
        clear hw4 HCo HH
        have hor5:=Hro3.out.alloc (.cells #[.string TO] 9)
        have hl3:=litS w3 TO
        have hH:=Has.own hl3
        have hbc:=below1 w3 (.cells #[.string TO] 9)
        have HB5:=hide (HC3.out.grow hbc).base
        have hs5:w.heap.size≤(w3.alloc (.cells #[.string TO] 9)).heap.size:=HB5.out.size
        have h1c:∀u∈[Value.string TO],u.oneCell'=true:=by simp[Value.oneCell']
        clear hl3 hbc HC3 Hro3
        go_wp2_with (at_builtin;go_must (refine appE _ 50 9 _ 1 16 Tryz.underlying50 infoS rfl (by omega) (by omega) rfl (.tmp 41) (.tmp 43) rfl w.heap.size _ (q+1) (strs (p++[x])) rfl hor5 _ _ 1 1 [.string TO] rfl hH h1c (by omega) hs5 ?_))
        intro v' w6 hor6 hb6 hgr6
        rw[hstr.out] at hor6
        have Hor6:Hid (w6.ownsRow w.heap.size 9 1 v' ((p++[x]).length+1) (strs ((p++[x])++[tx]))):=hide (by rw[Hln.out,Hq.out];exact hor6)
        have HB6:=hide (HB5.out.trans hb6)
        clear hor5 hs5 hH hb6 h1c hstr hor6 HB5 hgr6
        go_wp2
        go_roundg r
        case measure=>omega
        case rel=>exact⟨p++[x],tx,hnx2,Hnt,by rw[Hln.out,Hq.out];omega,by omega,Hor6,HB6⟩
   ·have hGe:Hid (G=([],[],code)):=hide (by rw[←hgo2,go_err (by rw[hst];exact h1),hst])
    have zc:(code==0)=false:=beq_false_of_ne h1
    have zn:(code !=0)=true:=by unfold bne;rw[zc];rfl
    clear hgo2 hst Hsn hnx hln
    generalize txt x=X at *
    generalize txt tx=TO at *
    go_wp2_with (go_at_call 22;fail)
    refine Hcall.out.mono ?_
    rintro e w3 ⟨rfl,hb3⟩
    have HE:=hide (hcr.out.grow hb3).base
    clear hb3 hcr hro Hcall d0 hH5 hg5
    go_wp2
    go_ret2
    exact hide (by rw[hGe.out];exact way_err h1 _ _ _ HE.out)
end Go.Proofs.YtiobnllopliclaaGreatDoor
