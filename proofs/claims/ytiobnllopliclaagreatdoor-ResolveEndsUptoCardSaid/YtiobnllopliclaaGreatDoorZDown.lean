/- The names that a name is under, the highest first, by the program. By an AI agent. -/
import Derived.Test.YtiobnllopliclaaGreatDoorZMath
import Derived.Test.YtiobnllopliclaaGreatDoorEX
import Derived.Test.YtiobnllopliclaaGreatDoorEY
import Derived.Deep.CutRange
import Derived.Deep.CutBlock
set_option maxRecDepth 100000
set_option maxHeartbeats 32000000
namespace Go.Proofs.YtiobnllopliclaaGreatDoor
open Go.RowKit
set_option linter.unusedVariables false
set_option linter.unusedSimpArgs false
theorem pdown_any (n:List UInt8) (hn:normT n=(n,0)) (w:World) (hT:TM w):
  Calls Tryz.prog 87 #[.string (txt n)] w (ViewPost (downV n) w):=by
 obtain⟨S,ho,hp,hj⟩:=norm_parts hn
 have hd:downV n=(tailsJ S).reverse:=by rw[←hj];exact down_join ho
 suffices H:Calls Tryz.prog 87 #[.string (txt n)] w fun e w'=>∃A c,e=.returned (.slice A ((tailsJ S).reverse).length c)∧Has w' w'.heap.size 1 A ((tailsJ S).reverse).length (strs (tailsJ S).reverse)∧((tailsJ S).reverse).length≤c∧c≤maxLen∧Below w.heap.size w w' from H.mono fun e w' h=>⟨by rw[hd];exact h⟩
 have hb1:=below1 w (.cells #[.string (txt n)] 9)
 have hlit:=litS w (txt n)
 obtain⟨w1,hw1⟩:∃w1,w.alloc (.cells #[.string (txt n)] 9)=w1:=⟨_,rfl⟩
 rw[hw1] at hb1 hlit
 have hPa:∀T:List (List UInt8),TextsOk T→∀w,TM w→Calls Tryz.prog 119 #[.string (txt (joinC T))] w fun e w'=>e=.returned (.tuple #[.string (txt (parentV (joinC T)).1),.bool (parentV (joinC T)).2])∧Below w.heap.size w w':=fun T hT w hw=>pparent_any (joinC T) (by have:=hT.len;omega) w hw
 have HPa:=hide hPa
 have HB:=hide hb1
 have Hl:=hide hlit
 have HT0:=hide hT
 have Hj:=hide hj
 have Ho:=hide ho
 have Hw1:=hide hw1
 clear hb1 hlit hPa hT hw1 hn hp hd hj ho
 have HP0:Hid (∀w,TM w→Calls Tryz.prog 119 #[.string (txt n)] w fun e w'=>e=.returned (.tuple #[.string (txt (parentV (joinC S)).1),.bool (parentV (joinC S)).2])∧Below w.heap.size w w'):=hide (by
  have:=HPa.out S Ho.out
  rw[Hj.out] at this
  rw[Hj.out]
  exact this)
 have Hl0:Hid (w1.ownsRow w.heap.size 9 1 (.slice (some ⟨w.heap.size,0,none⟩) 1 1) (0+1) (strs ([]++[joinC S]))):=hide (by rw[Hj.out];exact Hl.out)
 clear Hl Hj
 generalize txt n=SN at *
 obtain⟨p0,hp0⟩:∃p0,parentV (joinC S)=p0:=⟨_,rfl⟩
 rw[hp0] at HP0
 have Hp0:=hide hp0
 clear hp0
 go_enter Tryz.func87,Tryz.ntmps87
 go_upto_region 2 with fail
 rw[Hw1.out]
 go_wp2_with (go_at_call 119;fail)
 refine (HP0.out _ (HT0.out.below HB.out)).mono ?_
 rintro e w2 ⟨rfl,hb2⟩
 have HB2:=hide (HB.out.trans (hb2.mono HB.out.size))
 have Hr2:=hide (own_below Hl0.out hb2)
 clear hb2 HB Hl0 HP0 Hw1
 go_wp2
 go_loopg [3,4,5] S.length (fun k s3 s4 s5 wx=>∃(pre T:List (List UInt8)),k=T.length∧Hid (pre++tailsJ T=tailsJ S)∧Hid (TextsOk T)∧s4=.string (txt (parentV (joinC T)).1)∧s5=.bool (parentV (joinC T)).2∧Hid (wx.ownsRow w.heap.size 9 1 s3 (pre.length+1) (strs (pre++[joinC T])))∧Hid (pre.length+T.length≤12)∧Hid (Below w.heap.size w wx))
 case atStart=>exact⟨[],S,rfl,hide rfl,Ho,by rw[Hp0.out],by rw[Hp0.out],Hr2,hide (by have:=Ho.out.le;simpa using this),HB2⟩
 case round=>
  obtain⟨pre,T,rfl,hpre,hto,rfl,rfl,hro,hle,hbr⟩:=hrel
  clear Hr2 HB2 Hp0
  cases T with
  | nil=>
   rw[parent_root]
   obtain⟨A5,c5,rfl,hc5,hH5⟩:=own_form hro.out
   have hm5:=own_most hro.out
   have hpl:=hle.out
   simp only[List.length_nil,Nat.add_zero] at hpl
   have hfull:pre++[joinC []]=tailsJ S:=hpre.out
   have hR:=reverse_any wr w.heap.size A5 (pre.length+1) c5 (pre++[joinC []]) hro.out hbr.out.size (by omega)
   rw[hfull] at hR
   have hlen:pre.length+1=(tailsJ S).reverse.length:=by rw[←hfull];simp
   have HR:=hide hR
   have Hlen:=hide hlen
   have Hc:=hide (And.intro hc5 hm5)
   generalize pre.length+1=m at *
   clear hR hlen hc5 hm5 hH5 hro hpre hto HPa Ho hfull hle HT0
   go_wp2_with (go_at_call 120;fail)
   refine HR.out.mono ?_
   rintro e w3 ⟨rfl,hH3,_,hb3⟩
   have H3:=hide hH3
   have HB3:=hide (hbr.out.trans hb3)
   clear hH3 hb3 hbr HR
   go_wp2
   go_ret
   exact⟨A5,c5,by rw[←Hlen.out];rfl,by rw[←Hlen.out];exact H3.out,by rw[←Hlen.out];exact Hc.out.1,Hc.out.2,HB3.out⟩
  | cons a T=>
   have hto2:=hto.out.tail
   have hPc:=HPa.out T hto2
   have hst:(pre++[joinC (a::T)])++tailsJ T=tailsJ S:=by
    rw[←hpre.out,List.append_assoc]
    rfl
   rw[parent_join hto.out]
   have hlen:=hle.out
   simp only[List.length_cons] at hlen
   have Hst:=hide hst
   have Hto:=hide hto2
   have HPc:=hide hPc
   have Hne:Hid (strs (pre++[joinC (a::T)])++[.string (txt (joinC T))]=strs ((pre++[joinC (a::T)])++[joinC T])):=hide (by simp[strs])
   have hpl:(pre++[joinC (a::T)]).length=pre.length+1:=by simp
   obtain⟨q,hq⟩:∃q,pre++[joinC (a::T)]=q:=⟨_,rfl⟩
   have hro2:wr.ownsRow w.heap.size 9 1 u3 q.length (strs q):=by
    rw[←hq,hpl]
    exact hro.out
   rw[hq] at Hst Hne hpl
   have hqle:q.length+T.length≤12:=by omega
   have Hqle:=hide hqle
   obtain⟨P,hP⟩:∃P,txt (joinC T)=P:=⟨_,rfl⟩
   rw[hP] at HPc Hne
   rw[hP]
   have hor5:=hro2.alloc (.cells #[.string P] 9)
   have hlit:=litS wr P
   have hH:=Has.own hlit
   have hbc:=below1 wr (.cells #[.string P] 9)
   have hB5:=hide (hbr.out.trans (hbc.mono hbr.out.size))
   have hs5:=hB5.out.size
   have h1c:∀u∈[Value.string P],u.oneCell'=true:=by simp[Value.oneCell']
   clear hst hto2 hPc hpl hq hro2 hlit hbc hro hpre hto hle hP hlen HPa Ho hbr
   go_wp2_with (at_builtin;go_must (refine appE _ 50 9 _ 1 16 Tryz.underlying50 infoS rfl (by omega) (by omega) rfl (.tmp 19) (.tmp 21) rfl w.heap.size _ q.length (strs q) rfl hor5 _ _ 1 1 [.string P] rfl hH h1c (by omega) hs5 ?_))
   intro v' w6 hor6 hb6 _
   have hB6:=hide (hB5.out.trans hb6)
   rw[Hne.out] at hor6
   have Hor6:=hide hor6
   clear hor5 hB5 hs5 hH hb6 h1c Hne hor6
   go_wp2_with (go_at_call 119;fail)
   refine (HPc.out _ (HT0.out.below hB6.out)).mono ?_
   rintro e w7 ⟨rfl,hb7⟩
   have HB7:=hide (hB6.out.trans (hb7.mono hB6.out.size))
   have Hor7:=hide (own_below Hor6.out hb7)
   clear hb7 hB6 Hor6 HPc
   go_wp2
   go_roundg T.length
   case measure=>simp only[List.length_cons];omega
   case rel=>exact⟨q,T,rfl,Hst,Hto,rfl,rfl,Hor7,Hqle,HB7⟩
end Go.Proofs.YtiobnllopliclaaGreatDoor
