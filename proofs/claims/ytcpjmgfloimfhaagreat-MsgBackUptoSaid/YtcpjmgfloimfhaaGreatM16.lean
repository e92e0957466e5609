/- Several texts in one: HOurs, MConv. By an AI agent. -/
import Derived.Test.YtcpjmgfloimfhaaGreatM04
import Derived.Test.YtcpjmgfloimfhaaGreatM02
import Derived.Deep.CutRange
import Derived.Deep.CutBlock
import Derived.Test.YtcpjmgfloimfhaaGreatM13
import Derived.Test.YtcpjmgfloimfhaaGreatM14
set_option linter.unusedSimpArgs false
set_option linter.unusedVariables false
set_option maxRecDepth 100000
set_option maxHeartbeats 64000000
namespace Go.Proofs.YtcpjmgfloimfhaaGreat
open Go.RowKit
theorem ours7_any (t:FT):t.wee->∀(w:World) (u0 u1 u2 u3 u4 u5 u6:Value),FIn w w.heap.size t [u0,u1,u2,u3,u4,u5,u6]->
  Calls Tryz.prog 46 #[.agg #[u0,u1,u2,u3,u4,u5,u6]] w (ConvPost t w):=by
 induction t using FT.induct
 rename_i k a v f l any ps ih
 intro hwee w u0 u1 u2 u3 u4 u5 u6 hF
 simp only[FIn] at hF
 simp only[FT.wee] at hwee
 obtain⟨A,c,D,dd,xs,hcs,⟨hml,hnl⟩,hA,hD,hP⟩:=hF
 cases hcs
 obtain⟨hwm,hwn,hwl⟩:=hwee
 have hwp:=FT.weeL_mem hwl
 obtain⟨m,hm⟩:∃m,any.length=m:=⟨_,rfl⟩
 obtain⟨np,hnp⟩:∃np,ps.length=np:=⟨_,rfl⟩
 have hnl1:(np:Int)<=9223372036854775807:=by omega
 have hm5:m<=100000:=by omega
 have hn5:np<=100000:=by omega
 have hX:=Box7.new w k (txt a) (txt v) (txt f) (txt l) A any.length c D ps.length dd 39
 have hb0:=below1 w (.cells #[.int .i64 k,.string (txt a),.string (txt v),.string (txt f),.string (txt l),.slice A any.length c,.slice D ps.length dd] 39)
 obtain⟨w1,hw1⟩:∃w1,(w.alloc (.cells #[.int .i64 k,.string (txt a),.string (txt v),.string (txt f),.string (txt l),.slice A any.length c,.slice D ps.length dd] 39))=w1:=⟨_,rfl⟩
 have hsz1:w1.heap.size=w.heap.size+1:=by rw[<-hw1];simp
 rw[hw1] at hX hb0
 have hR:=Out7.new (u0:=.int .i64 0) (u1:=.string ⟨#[]⟩) (u2:=.string ⟨#[]⟩) (u3:=.string ⟨#[]⟩) (u4:=.string ⟨#[]⟩) (u5:=.slice none 0 0) (u6:=.slice none 0 0) w1 25
 have hb1:=below1 w1 (.cells #[.int .i64 0,.string ⟨#[]⟩,.string ⟨#[]⟩,.string ⟨#[]⟩,.string ⟨#[]⟩,.slice none 0 0,.slice none 0 0] 25)
 obtain⟨w2,hw2⟩:∃w2,w1.alloc (.cells #[.int .i64 0,.string ⟨#[]⟩,.string ⟨#[]⟩,.string ⟨#[]⟩,.string ⟨#[]⟩,.slice none 0 0,.slice none 0 0] 25)=w2:=⟨_,rfl⟩
 rw[hw2] at hR hb1
 have hsz2:w2.heap.size=w.heap.size+2:=by rw[<-hw2];simp[hsz1]
 have hX2:=hX.below hX.lt hb1
 have hb2:=hb0.trans (hb1.mono hb0.size)
 rw[hm,hnp] at hX2 hw1 ⊢
 rw[hsz1] at hR
 have hA2:=hA.below hb2
 rw[hm] at hA2
 have HW1:=hide hw1
 have HW2:=hide hw2
 have HX:=hide hX2
 have HR:=hide hR
 have HB:=hide hb2
 have HA:=hide hA2
 have HA0:=hide hA
 have HD:=hide hD
 have HP:=hide hP
 have Hih:=hide ih
 have Hwp:=hide hwp
 have Hnp:=hide hnp
 have Hm:=hide hm
 have HS1:=hide hsz1
 have HS2:=hide hsz2
 have H1t:=hide (strs_one any)
 clear ih hA hA2 hD hP hm hnp hml hnl hwp hwl hwm hwn hX hX2 hR hb0 hb1 hb2 hw1 hw2 hsz1 hsz2
 generalize hsa:txt a=sa at *
 have Hsa:=hide hsa
 clear hsa
 generalize hsv:txt v=sv at *
 have Hsv:=hide hsv
 clear hsv
 generalize hsf:txt f=sf at *
 have Hsf:=hide hsf
 clear hsf
 generalize hsl:txt l=sl at *
 have Hsl:=hide hsl
 clear hsl
 go_enter Tryz.func46,Tryz.ntmps46
 go_upto_region 1 with fail
 rw[HW1.out]
 rw[HW2.out]
 have HLT:w.heap.size<w2.heap.size:=by rw[HS2.out];omega
 go_cut [3] from 5 to 19 (fun s3 wx=>∃(h:Nat) (v5:Value),s3=.pointer (some ⟨h,0,none⟩)/\Th1 w2 wx h k sa sv sf sl v5 m any)
 case first=>
  clear Hih HD HP Hwp Hnp HA0 Hm HW1 HW2 HB HR HS1 HS2
  refine grow_begin_at w2.heap.size (by kernel_rfl) ?_
  have hdr:Below w2.heap.size w2 w2.drew:=(Below.refl _ _).drew
  have HXd:=hide (HX.out.below HX.out.lt hdr)
  have HBc:=hide hdr
  clear hdr HX
  generalize w2.drew=wd at *
  refine zAa 0 (some 5) rfl rfl (by kernel_rfl) rfl (by rfl) (fun W hW=>by go_simp<;>with_reducible rfl) ?_
  simp only[pU]
  refine zAa 1 (some 6) (v:=?va1) rfl rfl (by kernel_rfl) rfl (by rfl) (fun W hW=>?ya1) ?_
  case ya1=>
   have h0:=(HXd.out.below HLT hW).c0
   go_simp<;>with_reducible rfl
  simp only[pU]
  refine zAa 2 (some 7) rfl rfl (by kernel_rfl) rfl (by rfl) (fun W hW=>by go_simp<;>with_reducible rfl) ?_
  simp only[pU]
  refine zAa 3 (some 8) (v:=?va3) rfl rfl (by kernel_rfl) rfl (by rfl) (fun W hW=>?ya3) ?_
  case ya3=>
   have h1:=(HXd.out.below HLT hW).c1
   go_simp<;>with_reducible rfl
  simp only[pU]
  refine zAa 4 (some 9) rfl rfl (by kernel_rfl) rfl (by rfl) (fun W hW=>by go_simp<;>with_reducible rfl) ?_
  simp only[pU]
  refine zAa 5 (some 10) (v:=?va5) rfl rfl (by kernel_rfl) rfl (by rfl) (fun W hW=>?ya5) ?_
  case ya5=>
   have h2:=(HXd.out.below HLT hW).c2
   go_simp<;>with_reducible rfl
  simp only[pU]
  refine zAa 6 (some 11) rfl rfl (by kernel_rfl) rfl (by rfl) (fun W hW=>by go_simp<;>with_reducible rfl) ?_
  simp only[pU]
  refine zAa 7 (some 12) (v:=?va7) rfl rfl (by kernel_rfl) rfl (by rfl) (fun W hW=>?ya7) ?_
  case ya7=>
   have h3:=(HXd.out.below HLT hW).c3
   go_simp<;>with_reducible rfl
  simp only[pU]
  refine zAa 8 (some 13) rfl rfl (by kernel_rfl) rfl (by rfl) (fun W hW=>by go_simp<;>with_reducible rfl) ?_
  simp only[pU]
  refine zAa 9 (some 14) (v:=?va9) rfl rfl (by kernel_rfl) rfl (by rfl) (fun W hW=>?ya9) ?_
  case ya9=>
   have h4:=(HXd.out.below HLT hW).c4
   go_simp<;>with_reducible rfl
  simp only[pU]
  refine zAa 11 (some 16) rfl rfl (by kernel_rfl) rfl (by rfl) (fun W hW=>by go_simp<;>with_reducible rfl) ?_
  simp only[pU]
  refine zAa 12 (some 17) (v:=?va12) rfl rfl (by kernel_rfl) rfl (by rfl) (fun W hW=>?ya12) ?_
  case ya12=>
   have h5:=(HXd.out.below HLT hW).c5
   go_simp<;>with_reducible rfl
  simp only[pU]
  refine grow_each [10,15] (by kernel_rfl) (by simp) ?_
  refine AllG.cons rfl (fun K hK=>?_) (AllG.cons rfl (fun K hK=>?_) AllG.nil)
  ·go_simp
   have hb3:Below w2.heap.size wd (wd.alloc (.cells #[] 9)):=(Below.refl _ _).alloc HBc.out.size _
   have HOw:=hide (zAg (nilS wd) HBc.out.size)
   replace HBc:=hide (HBc.out.trans hb3)
   refine hK.out _ _ hb3 ?_
   clear hK K hb3
   generalize (Value.slice (some ⟨wd.heap.size,0,none⟩) 0 0)=x10 at *
   generalize wd.alloc (.cells #[] 9)=w10 at *
   try simp only[pU]
   refine grow_each [13,15] (by kernel_rfl) (by simp) ?_
   refine AllG.cons rfl (fun K hK=>?_) (AllG.cons rfl (fun K hK=>?_) AllG.nil)
   ·refine stepA _ 22 9 _ 1 16 Tryz.underlying22 infoS rfl (by omega) (by omega) (some 18) rfl rfl (.tmp 15) (.tmp 17) rfl w2.heap.size _ 0 [] rfl HOw.out _ _ m _ (strs any) rfl (HA.out.below (HBc.out.mono (Nat.le_of_lt HLT))) H1t.out (by omega) HBc.out.size ?_
    intro v13 w13 hown hb3 hg ht
    have HOn:Hid (w13.ownsRow w2.heap.size 9 1 v13 m (strs any)):=hide (by simpa using hown)
    obtain⟨A3,d3,hv3,_,_⟩:=own_form HOn.out
    subst hv3
    replace HBc:=hide (HBc.out.trans hb3)
    refine hK.out _ _ hb3 ?_
    clear hK K hown hb3 hg ht HOw
    try simp only[pU]
    refine zAa 14 (some 19) rfl rfl (by kernel_rfl) rfl (by rfl) (fun W hW=>by go_simp<;>with_reducible rfl) ?_
    simp only[pU]
    refine zAc 15 rfl (by kernel_rfl) (fun K hK=>?_)
    go_simp
    have hb3:Below w2.heap.size w13 (w13.alloc (.cells #[.int .i64 0,.string ⟨#[]⟩,.string ⟨#[]⟩,.string ⟨#[]⟩,.string ⟨#[]⟩,.slice none 0 0,.slice none 0 0] 25)):=(Below.refl _ _).alloc HBc.out.size _
    have HOt:=hide (Out7.new (u0:=.int .i64 0) (u1:=.string ⟨#[]⟩) (u2:=.string ⟨#[]⟩) (u3:=.string ⟨#[]⟩) (u4:=.string ⟨#[]⟩) (u5:=.slice none 0 0) (u6:=.slice none 0 0) w13 25)
    have HLe:Hid (w2.heap.size<=w13.heap.size):=hide HBc.out.size
    have HOff2:Hid ((Value.slice A3 m d3).ownBlock≠some w13.heap.size):=hide (zBu HOn.out _ (Nat.le_refl _))
    replace HOn:=hide (HOn.out.alloc (.cells #[.int .i64 0,.string ⟨#[]⟩,.string ⟨#[]⟩,.string ⟨#[]⟩,.string ⟨#[]⟩,.slice none 0 0,.slice none 0 0] 25))
    replace HBc:=hide (HBc.out.trans hb3)
    refine hK.out _ _ hb3 ?_
    clear hK K hb3
    generalize w13.alloc (.cells #[.int .i64 0,.string ⟨#[]⟩,.string ⟨#[]⟩,.string ⟨#[]⟩,.string ⟨#[]⟩,.slice none 0 0,.slice none 0 0] 25)=w15 at *
    generalize w13.heap.size=h at *
    try simp only[pU]
    refine zAc 16 rfl (by kernel_rfl) (fun K hK=>?_)
    have h1c:=own_one HOn.out
    refine zAz _ none rfl rfl 25 (.tmp 3) (.tmp 19) rfl h 0 #[.int .i64 k,.string sa,.string sv,.string sf,.string sl,.slice A3 m d3,.slice none 0 0] rfl rfl HOt.out.there (by kernel_rfl) (by simp[h1c,Value.oneCell']) ?_
    have hg:=zAx h [.int .i64 k,.string sa,.string sv,.string sf,.string sl,.slice A3 m d3,.slice none 0 0] 0 w15
    have hb3:Below w2.heap.size w15 (w15.setCells h 0 [.int .i64 k,.string sa,.string sv,.string sf,.string sl,.slice A3 m d3,.slice none 0 0]):=zAv hg (fun k hk=>by cases hk;exact HLe.out) HBc.out.size
    have HTh:Th1 w2 (w15.setCells h 0 [.int .i64 k,.string sa,.string sv,.string sf,.string sl,.slice A3 m d3,.slice none 0 0]) h k sa sv sf sl (.slice A3 m d3) m any:=⟨HBc.out.trans hb3,HLe.out,HOt.out.sets,HOn.out.kept hg (.inr HOff2.out),.inr HOff2.out⟩
    refine hK.out _ _ hb3 ?_
    clear hK K hb3 hg h1c
    try simp only[pU]
    refine zAi (by kernel_rfl) ?_ _
    go_wp2_with fail
    go_meet
    case rel=>exact⟨h,.slice A3 m d3,rfl,HTh⟩
   ·go_simp
    have hb3:Below w2.heap.size w10 (w10.alloc (.cells #[.int .i64 0,.string ⟨#[]⟩,.string ⟨#[]⟩,.string ⟨#[]⟩,.string ⟨#[]⟩,.slice none 0 0,.slice none 0 0] 25)):=(Below.refl _ _).alloc HBc.out.size _
    have HOt:=hide (Out7.new (u0:=.int .i64 0) (u1:=.string ⟨#[]⟩) (u2:=.string ⟨#[]⟩) (u3:=.string ⟨#[]⟩) (u4:=.string ⟨#[]⟩) (u5:=.slice none 0 0) (u6:=.slice none 0 0) w10 25)
    have HLe:Hid (w2.heap.size<=w10.heap.size):=hide HBc.out.size
    have HOff:Hid (x10.ownBlock≠some w10.heap.size):=hide (zBu HOw.out _ (Nat.le_refl _))
    replace HOw:=hide (HOw.out.alloc (.cells #[.int .i64 0,.string ⟨#[]⟩,.string ⟨#[]⟩,.string ⟨#[]⟩,.string ⟨#[]⟩,.slice none 0 0,.slice none 0 0] 25))
    replace HBc:=hide (HBc.out.trans hb3)
    refine hK.out _ _ hb3 ?_
    clear hK K hb3
    generalize w10.alloc (.cells #[.int .i64 0,.string ⟨#[]⟩,.string ⟨#[]⟩,.string ⟨#[]⟩,.string ⟨#[]⟩,.slice none 0 0,.slice none 0 0] 25)=w15 at *
    generalize w10.heap.size=h at *
    try simp only[pU]
    refine zAc 13 rfl (by kernel_rfl) (fun K hK=>?_)
    refine stepA _ 22 9 _ 1 16 Tryz.underlying22 infoS rfl (by omega) (by omega) (some 18) rfl rfl (.tmp 15) (.tmp 17) rfl w2.heap.size _ 0 [] rfl HOw.out _ _ m _ (strs any) rfl (HA.out.below (HBc.out.mono (Nat.le_of_lt HLT))) H1t.out (by omega) HBc.out.size ?_
    intro v13 w13 hown hb3 hg ht
    have HOn:Hid (w13.ownsRow w2.heap.size 9 1 v13 m (strs any)):=hide (by simpa using hown)
    obtain⟨A3,d3,hv3,_,_⟩:=own_form HOn.out
    subst hv3
    have hlt0:=HOt.out.lt
    have HOff2:Hid ((Value.slice A3 m d3).ownBlock≠some h):=hide (by
     rcases ht with e | e
     ·rw [e];exact HOff.out
     ·rw [e];intro e';have:=Option.some.inj e';omega)
    replace HOt:=hide (HOt.out.keep hb3.size (hg.block h HOt.out.lt (fun e=>HOff.out e.symm)))
    replace HBc:=hide (HBc.out.trans hb3)
    refine hK.out _ _ hb3 ?_
    clear hK K hown hb3 hg ht HOw HOff hlt0
    try simp only[pU]
    refine zAa 14 (some 19) rfl rfl (by kernel_rfl) rfl (by rfl) (fun W hW=>by go_simp<;>with_reducible rfl) ?_
    simp only[pU]
    refine zAc 16 rfl (by kernel_rfl) (fun K hK=>?_)
    have h1c:=own_one HOn.out
    refine zAz _ none rfl rfl 25 (.tmp 3) (.tmp 19) rfl h 0 #[.int .i64 k,.string sa,.string sv,.string sf,.string sl,.slice A3 m d3,.slice none 0 0] rfl rfl HOt.out.there (by kernel_rfl) (by simp[h1c,Value.oneCell']) ?_
    have hg:=zAx h [.int .i64 k,.string sa,.string sv,.string sf,.string sl,.slice A3 m d3,.slice none 0 0] 0 w13
    have hb3:Below w2.heap.size w13 (w13.setCells h 0 [.int .i64 k,.string sa,.string sv,.string sf,.string sl,.slice A3 m d3,.slice none 0 0]):=zAv hg (fun k hk=>by cases hk;exact HLe.out) HBc.out.size
    have HTh:Th1 w2 (w13.setCells h 0 [.int .i64 k,.string sa,.string sv,.string sf,.string sl,.slice A3 m d3,.slice none 0 0]) h k sa sv sf sl (.slice A3 m d3) m any:=⟨HBc.out.trans hb3,HLe.out,HOt.out.sets,HOn.out.kept hg (.inr HOff2.out),.inr HOff2.out⟩
    refine hK.out _ _ hb3 ?_
    clear hK K hb3 hg h1c
    try simp only[pU]
    refine zAi (by kernel_rfl) ?_ _
    go_wp2_with fail
    go_meet
    case rel=>exact⟨h,.slice A3 m d3,rfl,HTh⟩
  ·go_simp
   have hb3:Below w2.heap.size wd (wd.alloc (.cells #[.int .i64 0,.string ⟨#[]⟩,.string ⟨#[]⟩,.string ⟨#[]⟩,.string ⟨#[]⟩,.slice none 0 0,.slice none 0 0] 25)):=(Below.refl _ _).alloc HBc.out.size _
   have HOt:=hide (Out7.new (u0:=.int .i64 0) (u1:=.string ⟨#[]⟩) (u2:=.string ⟨#[]⟩) (u3:=.string ⟨#[]⟩) (u4:=.string ⟨#[]⟩) (u5:=.slice none 0 0) (u6:=.slice none 0 0) wd 25)
   have HLe:Hid (w2.heap.size<=wd.heap.size):=hide HBc.out.size
   replace HBc:=hide (HBc.out.trans hb3)
   refine hK.out _ _ hb3 ?_
   clear hK K hb3
   generalize wd.alloc (.cells #[.int .i64 0,.string ⟨#[]⟩,.string ⟨#[]⟩,.string ⟨#[]⟩,.string ⟨#[]⟩,.slice none 0 0,.slice none 0 0] 25)=w15 at *
   generalize wd.heap.size=h at *
   try simp only[pU]
   refine zAc 10 rfl (by kernel_rfl) (fun K hK=>?_)
   go_simp
   have hb3:Below w2.heap.size w15 (w15.alloc (.cells #[] 9)):=(Below.refl _ _).alloc HBc.out.size _
   have HOw:=hide (zAg (nilS w15) HBc.out.size)
   have HOff:Hid ((Value.slice (some ⟨w15.heap.size,0,none⟩) 0 0).ownBlock≠some h):=hide (fun e=>by have:=HOt.out.lt;simp[Value.ownBlock] at e;omega)
   replace HOt:=hide (HOt.out.below HOt.out.lt (below1 w15 (.cells #[] 9)))
   replace HBc:=hide (HBc.out.trans hb3)
   refine hK.out _ _ hb3 ?_
   clear hK K hb3
   generalize (Value.slice (some ⟨w15.heap.size,0,none⟩) 0 0)=x10 at *
   generalize w15.alloc (.cells #[] 9)=w10 at *
   try simp only[pU]
   refine zAc 13 rfl (by kernel_rfl) (fun K hK=>?_)
   refine stepA _ 22 9 _ 1 16 Tryz.underlying22 infoS rfl (by omega) (by omega) (some 18) rfl rfl (.tmp 15) (.tmp 17) rfl w2.heap.size _ 0 [] rfl HOw.out _ _ m _ (strs any) rfl (HA.out.below (HBc.out.mono (Nat.le_of_lt HLT))) H1t.out (by omega) HBc.out.size ?_
   intro v13 w13 hown hb3 hg ht
   have HOn:Hid (w13.ownsRow w2.heap.size 9 1 v13 m (strs any)):=hide (by simpa using hown)
   obtain⟨A3,d3,hv3,_,_⟩:=own_form HOn.out
   subst hv3
   have hlt0:=HOt.out.lt
   have HOff2:Hid ((Value.slice A3 m d3).ownBlock≠some h):=hide (by
    rcases ht with e | e
    ·rw [e];exact HOff.out
    ·rw [e];intro e';have:=Option.some.inj e';omega)
   replace HOt:=hide (HOt.out.keep hb3.size (hg.block h HOt.out.lt (fun e=>HOff.out e.symm)))
   replace HBc:=hide (HBc.out.trans hb3)
   refine hK.out _ _ hb3 ?_
   clear hK K hown hb3 hg ht HOw HOff hlt0
   try simp only[pU]
   refine zAa 14 (some 19) rfl rfl (by kernel_rfl) rfl (by rfl) (fun W hW=>by go_simp<;>with_reducible rfl) ?_
   simp only[pU]
   refine zAc 16 rfl (by kernel_rfl) (fun K hK=>?_)
   have h1c:=own_one HOn.out
   refine zAz _ none rfl rfl 25 (.tmp 3) (.tmp 19) rfl h 0 #[.int .i64 k,.string sa,.string sv,.string sf,.string sl,.slice A3 m d3,.slice none 0 0] rfl rfl HOt.out.there (by kernel_rfl) (by simp[h1c,Value.oneCell']) ?_
   have hg:=zAx h [.int .i64 k,.string sa,.string sv,.string sf,.string sl,.slice A3 m d3,.slice none 0 0] 0 w13
   have hb3:Below w2.heap.size w13 (w13.setCells h 0 [.int .i64 k,.string sa,.string sv,.string sf,.string sl,.slice A3 m d3,.slice none 0 0]):=zAv hg (fun k hk=>by cases hk;exact HLe.out) HBc.out.size
   have HTh:Th1 w2 (w13.setCells h 0 [.int .i64 k,.string sa,.string sv,.string sf,.string sl,.slice A3 m d3,.slice none 0 0]) h k sa sv sf sl (.slice A3 m d3) m any:=⟨HBc.out.trans hb3,HLe.out,HOt.out.sets,HOn.out.kept hg (.inr HOff2.out),.inr HOff2.out⟩
   refine hK.out _ _ hb3 ?_
   clear hK K hb3 hg h1c
   try simp only[pU]
   refine zAi (by kernel_rfl) ?_ _
   go_wp2_with fail
   go_meet
   case rel=>exact⟨h,.slice A3 m d3,rfl,HTh⟩
 case rest=>
  obtain⟨h,v5,rfl,hTh⟩:=hcut
  obtain⟨A5,d5,hv5,_,_⟩:=own_form hTh.own
  subst hv5
  have hs2:=HS2.out
  have hbc:=hTh.bel
  have hsc:=hbc.size
  have hle:=hTh.le
  have hltc:=hTh.out.lt
  have HXc:=hide (HX.out.below HX.out.lt hbc)
  have HXb:=HX.out
  have HXl:w.heap.size<wc.heap.size:=by omega
  have HRc:=hide (HR.out.below (D:=w2.heap.size) (by omega) hbc)
  have HBc:=hT HB hbc
  have HBl:=HB.out.size
  have HTh:=hide hTh
  have Hsc:=hide hsc
  have Hle:=hide hle
  have Hs2:=hide hs2
  have HBl2:=hide HBl
  clear hTh hbc HXb HX HR HB HA HA0 HW1 HW2 HS1 hsc hle hs2 HBl H1t
  obtain⟨_,c0,c1,c2,c3,c4,c5,c6⟩:=HXc.out
  go_wp2
  go_loopg [23] np (fun r s23 wx=>∃(j:Nat) (v6:Value) (ys:List Value),j+r=np/\s23=.int .i64 (j:Int)/\Hid (ThL 25 wc wx h k sa sv sf sl (.slice A5 m d5) v6 j ys (ps.take j)))
  case atStart=>exact⟨0,.slice none 0 0,[],by omega,rfl,hide ⟨World.grownBy.refl wc _,HTh.out.out,World.ownsRow_nil _ _ _ _,by simp[FsInP]⟩⟩
  case round=>
   obtain⟨j,v6,ys,hjg,rfl,hL⟩:=hrel
   clear c0 c1 c2 c3 c4 c5 c6
   have hXr:=hide (HXc.out.keep hL.out.grown.size (hL.out.grown.block w.heap.size HXl (fun e=>by have:=Option.some.inj e;have:=Hle.out;have:=Hs2.out;omega)))
   obtain⟨_,c0,c1,c2,c3,c4,c5,c6⟩:=hXr.out
   cases gk with
   | zero=>
    obtain rfl:j=np:=by omega
    have hjz:¬((j:Int)<(j:Int)):=by omega
    obtain⟨D6,d6,hv6,_,_⟩:=own_form hL.out.own
    subst hv6
    have hRr:=hide (HRc.out.keep hL.out.grown.size (hL.out.grown.block (w.heap.size+1) (by have:=Hsc.out;have:=Hs2.out;omega) (fun e=>by have:=Option.some.inj e;have:=Hle.out;have:=Hs2.out;omega)))
    obtain⟨_,o0,o1,o2,o3,o4,o5,o6,_⟩:=hL.out.out
    have hTh:=HTh.out
    have hLL:=hL.out
    clear HD HP Hih Hwp
    obtain⟨wz,hwz⟩:∃wz,wr.setCells (w.heap.size+1) 0 [.int .i64 k,.string sa,.string sv,.string sf,.string sl,.slice A5 m d5,.slice D6 j d6]=wz:=⟨_,rfl⟩
    have hZ:=hRr.out.sets (v0:=.int .i64 k) (v1:=.string sa) (v2:=.string sv) (v3:=.string sf) (v4:=.string sl) (v5:=.slice A5 m d5) (v6:=.slice D6 j d6)
    rw[hwz] at hZ
    have hst:∀{ops:Array Oper} {rest:List Oper} {op:Oper} {a:Act} {Q:Exit->Act->World->Prop},op.guard=none->op.op=.store 25 (.tmp 2) (.tmp 38)->a.eval (.tmp 2)=.pointer (some ⟨w.heap.size+1,0,none⟩)->a.eval (.tmp 38)=.agg #[.int .i64 k,.string sa,.string sv,.string sf,.string sl,.slice A5 m d5,.slice D6 j d6]->
      wpList Tryz.prog ops Q rest (a.put op.dst undef) wz->wpList Tryz.prog ops Q (op::rest) a wr:=by
     intro ops rest op a Q h1 h2 h3 h4 h5
     rw[<-hwz] at h5
     exact wpList_store_mid h1 _ _ _ h2 _ _ _ h3 h4 hRr.out.there (by kernel_rfl) (by simp[Value.oneCell']) h5
    have Hwz:=hide hwz
    have HZ:=hide hZ
    obtain⟨_,z0,z1,z2,z3,z4,z5,z6,_⟩:=hZ
    clear hwz
    go_wp2_with (refine hst rfl rfl rfl rfl ?_)
    refine bodyPost_ret (v:=.agg #[.int .i64 k,.string sa,.string sv,.string sf,.string sl,.slice A5 m d5,.slice D6 j d6]) ?_ rfl ?_
    ·exact zAy rfl _ wz (w.heap.size+1) [.int .i64 k,.string sa,.string sv,.string sf,.string sl,.slice A5 m d5,.slice D6 j d6] _ rfl HZ.out.range Tryz.underlying25 rfl (by kernel_rfl)
    ·have hle:=Hle.out
     have hs2:=Hs2.out
     obtain rfl:=Hsa.out
     obtain rfl:=Hsv.out
     obtain rfl:=Hsf.out
     obtain rfl:=Hsl.out
     have hLp:=hL.out
     rw[List.take_of_length_le (by rw[Hnp.out];exact Nat.le_refl _)] at hLp
     have hd:=conv_done HTh.out hLp Hm.out Hnp.out hm5 hn5 (show w.heap.size<=w.heap.size+1 by omega) (by omega) HBl2.out HBc.out [.int .i64 k,.string (txt a),.string (txt v),.string (txt f),.string (txt l),.slice A5 m d5,.slice D6 j d6]
     rw[Hwz.out] at hd
     exact⟨_,_,_,_,_,_,_,rfl,hd.1,hd.2⟩
   | succ r=>
    have hj:j<np:=by omega
    have hjz:(j:Int)<(np:Int):=by omega
    obtain⟨p,hp⟩:∃p,ps[j]?=some p:=⟨_,List.getElem?_eq_getElem (by rw[Hnp.out];exact hj)⟩
    have hpm:=List.mem_of_getElem? hp
    obtain⟨g,o,hDe,hg,hparts⟩:=HD.out.part HP.out (fun h=>by rw[h] at hp;simp at hp)
    subst hDe
    obtain⟨u0,u1,u2,u3,u4,u5,u6,hpart⟩:=hparts j p hp
    have hLo:=hL.out
    have hgb:Below w.heap.size wc wr:=zAv hLo.grown (fun q hq=>by have:=Option.some.inj hq;have:=Hle.out;have:=Hs2.out;omega) (by omega)
    have hbw:=HBc.out.trans hgb
    have hsw:=hLo.grown.size
    have hdr:∀B,Below B wr wr.drew:=fun B=>(Below.refl _ _).drew
    have HPd:=hide ((hpart.below hbw).below (hdr _))
    have hcall:=Hih.out p hpm (Hwp.out p hpm) wr.drew _ _ _ _ _ _ _ ((HPd.out.fin).upto (Nat.le_trans hbw.size (hdr 0).size))
    have HXd:=hide (hXr.out.below hXr.out.lt (hdr _))
    have HOd:=hide (hLo.out.below hLo.out.lt (hdr _))
    have HLd:Hid (ThL 25 wc wr.drew h k sa sv sf sl (.slice A5 m d5) v6 j ys (ps.take j)):=hide ⟨⟨hLo.grown.os,hLo.grown.tape,hLo.grown.output,hLo.grown.size,hLo.grown.block⟩,HOd.out,zAo hLo.own (hdr _),FsInP.move (w:=wr) (w':=wr.drew) (P':=fun b=>wc.heap.size<=b/\b<wr.drew.heap.size/\some b≠v6.ownBlock) (fun _ _=>rfl) (fun _ h=>h) hLo.parts⟩
    have htk:Hid (ps.take (j+1)=ps.take j++[p]):=hide (by rw[List.take_add_one,hp];rfl)
    have hswd:wc.heap.size<=wr.drew.heap.size:=hsw
    have HWC:Hid (w.heap.size<=wc.heap.size):=hide (by omega)
    clear HD HP Hih Hwp Hnp Hm HTh HRc hp hpm hparts hpart hLo hgb hbw hsw hdr hL hXr HBc HXc HBl2
    clear c0 c1 c2 c3 c4 c5 c6
    go_wp2_with fail
    refine grow_begin_atL wc.heap.size 11 (by kernel_rfl) ?_
    generalize wr.drew=wd at *
    refine zAl 0 (some 26) rfl rfl (by kernel_rfl) rfl (by kernel_rfl) (by rfl) (fun W hW=>by go_simp<;>with_reducible rfl) ?_
    simp only[pU]
    refine zAl 1 (some 27) (v:=?vb1) rfl rfl (by kernel_rfl) rfl (by kernel_rfl) (by rfl) (fun W hW=>?yb1) ?_
    case yb1=>
     have h6:=(HOd.out.below hltc hW).c6
     go_simp<;>with_reducible rfl
    simp only[pU]
    refine zAl 2 (some 28) rfl rfl (by kernel_rfl) rfl (by kernel_rfl) (by rfl) (fun W hW=>by go_simp<;>with_reducible rfl) ?_
    simp only[pU]
    refine zAl 3 (some 29) (v:=?vb3) rfl rfl (by kernel_rfl) rfl (by kernel_rfl) (by rfl) (fun W hW=>?yb3) ?_
    case yb3=>
     have h6:=(HXd.out.below HXl hW).c6
     go_simp<;>with_reducible rfl
    simp only[pU]
    refine zAl 4 (some 30) rfl rfl (by kernel_rfl) rfl (by kernel_rfl) (by rfl) (fun W hW=>by go_simp<;>with_reducible rfl) ?_
    simp only[pU]
    refine zAl 5 (some 31) rfl rfl (by kernel_rfl) rfl (by kernel_rfl) (by rfl) (fun W hW=>by go_simp<;>with_reducible rfl) ?_
    simp only[pU]
    refine zAl 6 (some 32) (v:=?vb6) rfl rfl (by kernel_rfl) rfl (by kernel_rfl) (by rfl) (fun W hW=>?yb6) ?_
    case yb6=>
     obtain⟨_,_,e0,e1,e2,e3,e4,e5,e6⟩:=HPd.out.below (hW.mono HWC.out)
     go_simp<;>with_reducible rfl
    simp only[pU]
    refine zBe 7 rfl (by kernel_rfl) (fun K hK=>?_)
    go_simp
    refine hcall.mono ?_
    rintro e w7 hpost
    obtain⟨y0,y1,y2,y3,y4,y5,y6,rfl,hy,hb7⟩:=hpost.out
    have HY:=hide hy
    have HB7:=hide hb7
    have hOw:=zAo HLd.out.own hb7
    have HOw:=hide hOw
    have hs7:wc.heap.size<=w7.heap.size:=Nat.le_trans hswd hb7.size
    refine hK.out _ _ (fun _=>hb7.mono hswd) ?_
    clear hK K hy hb7 hOw hpost
    try simp only[pU]
    refine zBe 8 rfl (by kernel_rfl) (fun K hK=>?_)
    go_simp
    have hb8:Below wc.heap.size w7 (w7.alloc (.cells #[y0,y1,y2,y3,y4,y5,y6] 25)):=(Below.refl _ _).alloc hs7 _
    have hlit:=World.ownsRow_lit (e:=25) (size:=7) w7 #[y0,y1,y2,y3,y4,y5,y6] 1 (Nat.le_refl _) (by unfold maxLen;omega) rfl
    have hOw8:=HOw.out.alloc (.cells #[y0,y1,y2,y3,y4,y5,y6] 25)
    have hs8:=Nat.le_trans hs7 hb8.size
    refine hK.out _ _ (fun _=>hb8) ?_
    clear hK K hb8
    try simp only[pU]
    refine zBe 9 rfl (by kernel_rfl) (fun K hK=>?_)
    refine stepA _ 23 25 _ 7 120 Tryz.underlying23 infoG rfl (by omega) (by omega) (some 35) rfl rfl (.tmp 27) (.tmp 34) rfl wc.heap.size _ j ys rfl hOw8 _ _ 1 1 [y0,y1,y2,y3,y4,y5,y6] rfl (Has.own hlit) HY.out.one (by omega) hs8 ?_
    intro v9 w9 hown9 hb9 hg9 ht9
    have hN:=HLd.out.next hltc HB7.out HY.out hown9 hg9 ht9
    have h1c:=own_one hown9
    obtain⟨A9,d9,hv9,_,_⟩:=own_form hown9
    subst hv9
    have hO9:=hN.out
    have HO9:Hid (Out7 w9 h (.int .i64 k) (.string sa) (.string sv) (.string sf) (.string sl) (.slice A5 m d5) v6):=hide ((HOd.out.below (Nat.lt_of_lt_of_le hltc hswd) HB7.out).keep (Nat.le_trans (by simp) hg9.size) ((hg9.block h (by have:=HB7.out.size;simp;omega) (fun e=>by have:=(HLd.out.own.lt h e.symm).1;omega)).trans (heap_alloc_old w7 _ (by have:=HB7.out.size;omega))))
    have HN:=hide hN
    refine hK.out _ _ (fun _=>hb9) ?_
    clear hK K hown9 hb9 hg9 ht9 hN hO9 hlit hOw8 hs8 HY HB7 HOw h1c
    try simp only[pU]
    refine zAl 10 (some 36) rfl rfl (by kernel_rfl) rfl (by kernel_rfl) (by rfl) (fun W hW=>by go_simp<;>with_reducible rfl) ?_
    simp only[pU]
    refine zBe 11 rfl (by kernel_rfl) (fun K hK=>?_)
    obtain⟨_,_,_,_,_,_,_,o6,ofz⟩:=HO9.out
    have of6:=ofz 6
    go_simp
    refine hK.out _ _ (fun h=>absurd rfl h) ?_
    clear hK K o6 of6 ofz
    try simp only[pU]
    refine grow_doneL (by kernel_rfl) ?_ _
    have hrel2:=HN.out
    rw[<-htk.out] at hrel2
    go_wp2
    go_roundg r
    case measure=>omega
    case rel=>exact⟨j+1,_,_,by omega,by go_num,hide hrel2⟩
theorem loadI8 (W:World) (p:Addr) (v:Value) (h:W.cell? p=some v):(loadVar 2 p).run Tryz.prog W=.ok v W:=by go_simp
theorem loadS8 (W:World) (p:Addr) (v:Value) (h:W.cell? p=some v):(loadVar 9 p).run Tryz.prog W=.ok v W:=by go_simp
theorem loadB8 (W:World) (p:Addr) (v:Value) (h:W.cell? p=some v):(loadVar 4 p).run Tryz.prog W=.ok v W:=by go_simp
theorem loadRC (W:World) (p:Addr) (v:Value) (h:W.cell? p=some v):(loadVar 28 p).run Tryz.prog W=.ok v W:=by go_simp
theorem rowC_any {w w':World} {P P':Nat->Prop}:∀{L:List Ct} {xs:List Value},rowIn elC w P L xs->rowIn elC w' P' L xs
 | [],xs,h=>h
 | c::r,xs,h=>⟨h.1,rowC_any h.2⟩
abbrev ctCells (c:Ct):List Value:=[.string (txt c.oid),.bool c.crit,.bool c.hasv,.string (txt c.value)]
structure MConv (m:MT) (w:World) (e:Ending) (w':World):Prop where
 out:∃v',e=.returned v'/\repM w' (inB w') m v'/\Below w.heap.size w w'
structure MTh (w2 wx:World) (h:Nat) (cy:List Value) (t:FT) (g0 g1 g2 g3 g4 g5 g6:Value):Prop where
 bel:Below w2.heap.size w2 wx
 le:w2.heap.size<=h
 blk:Blk wx h cy
 filt:FInP wx (fun b=>w2.heap.size<=b/\b≠h/\b<wx.heap.size) t [g0,g1,g2,g3,g4,g5,g6]
structure MLp (cty:TypeId) (wc wx:World) (h:Nat) (cy:List Value) (v:Value) (L:List Ct) (xs:List Value):Prop where
 fr:Fr (fun k=>k=h) wc wx
 blk:Blk wx h (cy.set 31 v)
 own:wx.ownsRow wc.heap.size cty 4 v L.length xs
 row:rowIn elC wx (inB wx) L xs
theorem MLp.next {cty:TypeId} {wc wr w9:World} {h:Nat} {cy:List Value} {v6 v9:Value} {L:List Ct} {xs:List Value} {c:Ct} {o:Obj} {wd:World} (hd:Fr (fun _=>False) wr wd) (hT:MLp cty wc wr h cy v6 L xs) (hlt:h<wc.heap.size) (hn:cy.length=32)
  (hown:w9.ownsRow wc.heap.size cty 4 v9 (L.length+1) (xs++ctCells c)) (hg:(wd.alloc o).grownBy w9 v6.ownBlock):
  MLp cty wc (w9.setCell ⟨h,31,none⟩ v9) h cy v9 (L++[c]) (xs++ctCells c):=by
 have hb:∀k,v6.ownBlock=some k->wc.heap.size<=k:=fun k hk=>(hT.own.lt k hk).1
 have h1:Fr (fun k=>v6.ownBlock=some k) wr w9:=((hd.mono fun _ _ q=>q.elim).trans (Fr.alloc _ wd o)).trans (Fr.grown hg fun k hk=>hk)
 have h2:Fr (fun k=>k=h) w9 (w9.setCell ⟨h,31,none⟩ v9):=Fr.setCell _ _ _ rfl
 have h3:Fr (fun k=>k=h) wc w9:=hT.fr.trans' h1 (fun i hi hk=>by have:=hb i hk;omega)
 refine⟨h3.trans h2,?_,?_,?_⟩
 ·have:=(hT.blk.fr h1 (fun hk=>by have:=hb h hk;omega)).set 31 v9 (by simp[hn])
  rwa [List.set_set] at this
 ·have:=own_fr hown h2 (fun k hk e=>by omega)
  simpa using this
 ·exact (rowC_any (rowIn.snoc (w:=wr) (P:=inB wr) hT.row (show elC.rep wr (inB wr) c (ctCells c) from rfl)))
theorem blk_same {w w':World} {h:Nat} {us:List Value} (t:Blk w h us) (hs:w.heap.size<=w'.heap.size) (hh:w'.heap[h]?=w.heap[h]?):Blk w' h us:=
 ⟨Nat.lt_of_lt_of_le t.lt hs,fun i u hu=>(World.cell?_of_block (w:=w) hh).trans (t.cells i u hu),fun i=>(World.frozen?_of_block (w:=w) hh).trans (t.fz i)⟩
theorem blk_sets32 {w:World} {h:Nat} {us cs:List Value} (t:Blk w h us) (hu:us.length=32) (hc:cs.length=32):Blk (w.setCells h 0 cs) h cs:=t.sets 0 cs (by omega) cs (by rw[List.drop_of_length_le (by omega)];simp)
theorem mcells_one {m:MT} {g0 g1 g2 g3 g4 g5 g6 va vl vc vr vk:Value} (hg:∀u∈[g0,g1,g2,g3,g4,g5,g6],u.oneCell'=true) (h1:va.oneCell'=true) (h2:vl.oneCell'=true) (h3:vc.oneCell'=true) (h4:vr.oneCell'=true) (h5:vk.oneCell'=true):
  ∀u∈mcells m g0 g1 g2 g3 g4 g5 g6 va vl vc vr vk,u.oneCell'=true:=by
 intro u hu
 have hu2:u∈([.int .i64 m.id,.int .i64 m.kind,.string (txt m.name),.string (txt m.pw),.int .i64 m.ver,.int .i64 m.scope,.int .i64 m.deref,.int .i64 m.size,.int .i64 m.time,.bool m.tonly]:List Value)++([g0,g1,g2,g3,g4,g5,g6]++([va,vl,vc]++(([.string (txt m.nrdn),.bool m.delold,.bool m.hassup,.string (txt m.sup),.string (txt m.attr),.string (txt m.value),.int .i64 m.target,.int .i64 m.code,.string (txt m.matched),.string (txt m.text)]:List Value)++[vr,vk]))):=hu
 rcases List.mem_append.1 hu2 with q | q
 ·simp only[List.mem_cons,List.not_mem_nil,or_false] at q
  rcases q with rfl | rfl | rfl | rfl | rfl | rfl | rfl | rfl | rfl | rfl<;>rfl
 rcases List.mem_append.1 q with q | q
 ·exact hg u q
 rcases List.mem_append.1 q with q | q
 ·simp only[List.mem_cons,List.not_mem_nil,or_false] at q
  rcases q with rfl | rfl | rfl<;>assumption
 rcases List.mem_append.1 q with q | q
 ·simp only[List.mem_cons,List.not_mem_nil,or_false] at q
  rcases q with rfl | rfl | rfl | rfl | rfl | rfl | rfl | rfl | rfl | rfl<;>rfl
 ·simp only[List.mem_cons,List.not_mem_nil,or_false] at q
  rcases q with rfl | rfl<;>assumption
theorem exec_build {a:Act} {W:World} (t:TypeId) (parts:Array (Nat × Operand)) (oi:Oper) (ho:oi.op=.build t parts) (cells:Array Value) (hb:Tryz.prog.built t (parts.map fun (i,x)=>(i,a.eval x)).toList=some cells):
  (execOp a.eval oi).run Tryz.prog W=.ok (.value (.agg cells)) W:=by
 unfold execOp
 simp only[ho,Sem.run_bind,run_build W t _ _ hb,Result.andThen_ok,Sem.run_pure]
theorem boxTo {ops:Array Oper} {rest:List Oper} {o:Oper} {a:Act} {w:World} {Q:Exit->Act->World->Prop} (hg:o.guard=none) (t:TypeId) (x:Operand) (ho:o.op=.box t x)
  (dst:Option Tmp) (hdst:o.dst=dst) (cs:List Value) (hx:a.eval x=.agg cs.toArray) (N:Nat) (hN:w.heap.size=N) (w':World) (hw:w.alloc (.cells cs.toArray t)=w')
  (h:wpList Tryz.prog ops Q rest (a.put dst (.pointer (some ⟨N,0,none⟩))) w'):wpList Tryz.prog ops Q (o::rest) a w:=by
 subst hdst hN hw
 refine wpList_plain hg fun K hK=>?_
 unfold Oper.wp execOp
 have hx2:(a.eval x).cells=cs.toArray:=by rw[hx];rfl
 simp only[ho,Sem.run_bind,Instr.box,newVar,newRow,run_newObj_alloc,Sem.run_pure,Result.andThen_ok,hx2]
 exact hK _ _ h
theorem stepB {ops:Array Oper} {o:Oper} {a:Act} {K:Act->World->Prop} {Q:Exit->Act->World->Prop} {E:Prop} (W:World) (hd:o.dst=none) (hgd:o.guard=none) (ty:TypeId) (x y:Operand) (ho:o.op=.store ty x y)
  (b:Nat) (us cs:List Value) (hx:a.eval x=.pointer (some ⟨b,0,none⟩)) (hy:a.eval y=.agg cs.toArray) (hB:Blk W b us) (hl:us.length=cs.length) (hi:(Tryz.prog.info? ty).map (·.size)=some cs.length) (h1:∀u∈cs,u.oneCell'=true)
  (h:∀wz,wz=W.setCells b 0 cs->K (a.put none undef) wz):if Region.wanted o (yielded ops a.tmps)=true then Oper.wp Tryz.prog o a W K Q else E:=by
 refine zAz W none hd hgd ty x y ho b 0 cs.toArray hx hy ?_ (by simpa using hi) (by simpa using h1) (h _ (by simp))
 have:=hB.there 0 cs.length (by omega)
 simpa using this
theorem loadMR {ops:Array Oper} {rest:List Oper} {op:Oper} {a:Act} {w:World} {Q:Exit->Act->World->Prop} (hgd:op.guard=none) (x:Operand) (ho:op.op=.load 30 x)
  (b:Nat) (hx:a.eval x=.pointer (some ⟨b,0,none⟩)) (cs:List Value) (hc:Blk w b cs) (hn:cs.length=32)
  (h:wpList Tryz.prog ops Q rest (a.put op.dst (.agg cs.toArray)) w):wpList Tryz.prog ops Q (op::rest) a w:=
 wpList_load_mid hgd 30 x ho b 0 hx cs _ hc.range Tryz.underlying30 rfl (by rw[hn];kernel_rfl) h
theorem storeToR {ops:Array Oper} {rest:List Oper} {o:Oper} {a:Act} {Q:Exit->Act->World->Prop} (w:World) (hgd:o.guard=none) (x y:Operand) (ho:o.op=.store 30 x y)
  (h:Nat) (us:List Value) (cs:List Value) (hx:a.eval x=.pointer (some ⟨h,0,none⟩)) (hy:a.eval y=.agg cs.toArray) (hB:Blk w h us) (hl:us.length=32) (hn:cs.length=32) (h1:∀u∈cs,u.oneCell'=true)
  (wz:World) (hwz:w.setCells h 0 cs=wz) (H:wpList Tryz.prog ops Q rest (a.put o.dst undef) wz):wpList Tryz.prog ops Q (o::rest) a w:=by
 subst hwz
 exact storeB w hgd 30 x y ho h 0 us cs hx hy hB (by omega) (by rw[hn];kernel_rfl) h1 (fun wz e=>by rw[e];exact H)
theorem results_msgR {fn:Func} {p:Tmp} (h:fn.results=#[.cell p 30]) (tmps:Array Value) (w:World) (b:Nat) (cs:List Value)
  (hp:tmps.getD p undef=.pointer (some ⟨b,0,none⟩)) (hc:w.rangeAt b 0 cs) (hn:cs.length=32):(results fn tmps).run Tryz.prog w=.ok (.agg cs.toArray) w:=
 zAy h tmps w b cs _ hp hc Tryz.underlying30 rfl (by rw[hn];kernel_rfl)
theorem storeToM {ops:Array Oper} {rest:List Oper} {o:Oper} {a:Act} {Q:Exit->Act->World->Prop} (w:World) (hgd:o.guard=none) (x y:Operand) (ho:o.op=.store 42 x y)
  (h:Nat) (us:List Value) (cs:List Value) (hx:a.eval x=.pointer (some ⟨h,0,none⟩)) (hy:a.eval y=.agg cs.toArray) (hB:Blk w h us) (hl:us.length=32) (hn:cs.length=32) (h1:∀u∈cs,u.oneCell'=true)
  (wz:World) (hwz:w.setCells h 0 cs=wz) (H:wpList Tryz.prog ops Q rest (a.put o.dst undef) wz):wpList Tryz.prog ops Q (o::rest) a w:=by
 subst hwz
 exact storeB w hgd 42 x y ho h 0 us cs hx hy hB (by omega) (by rw[hn];kernel_rfl) h1 (fun wz e=>by rw[e];exact H)
theorem built_msgM (m:MT) (g0 g1 g2 g3 g4 g5 g6:Value) (A1 A2 A3 A4:Option Addr) (n1 n2 n3 n4 c1 c2 c3 c4:Nat):Tryz.prog.built 42 [(0,.int .i64 m.id),(1,.int .i64 m.kind),(2,.string (txt m.name)),(3,.string (txt m.pw)),(4,.int .i64 m.ver),(5,.int .i64 m.scope),(6,.int .i64 m.deref),(7,.int .i64 m.size),(8,.int .i64 m.time),(9,.bool m.tonly),(10,.agg #[g0,g1,g2,g3,g4,g5,g6]),(11,.slice A1 n1 c1),(12,.slice A2 n2 c2),(13,.slice A3 n3 c3),(14,.string (txt m.nrdn)),(15,.bool m.delold),(16,.bool m.hassup),(17,.string (txt m.sup)),(18,.string (txt m.attr)),(19,.string (txt m.value)),(20,.int .i64 m.target),(21,.int .i64 m.code),(22,.string (txt m.matched)),(23,.string (txt m.text)),(24,.slice A4 n4 c4)]=some (mcells m g0 g1 g2 g3 g4 g5 g6 (.slice A1 n1 c1) (.slice A2 n2 c2) (.slice A3 n3 c3) (.slice A4 n4 c4) (.slice none 0 0)).toArray:=by kernel_rfl
theorem built_msgR (m:MT) (g0 g1 g2 g3 g4 g5 g6:Value) (A1 A2 A3 A4:Option Addr) (n1 n2 n3 n4 c1 c2 c3 c4:Nat):Tryz.prog.built 30 [(0,.int .i64 m.id),(1,.int .i64 m.kind),(2,.string (txt m.name)),(3,.string (txt m.pw)),(4,.int .i64 m.ver),(5,.int .i64 m.scope),(6,.int .i64 m.deref),(7,.int .i64 m.size),(8,.int .i64 m.time),(9,.bool m.tonly),(10,.agg #[g0,g1,g2,g3,g4,g5,g6]),(11,.slice A1 n1 c1),(12,.slice A2 n2 c2),(13,.slice A3 n3 c3),(14,.string (txt m.nrdn)),(15,.bool m.delold),(16,.bool m.hassup),(17,.string (txt m.sup)),(18,.string (txt m.attr)),(19,.string (txt m.value)),(20,.int .i64 m.target),(21,.int .i64 m.code),(22,.string (txt m.matched)),(23,.string (txt m.text)),(24,.slice A4 n4 c4)]=some (mcells m g0 g1 g2 g3 g4 g5 g6 (.slice A1 n1 c1) (.slice A2 n2 c2) (.slice A3 n3 c3) (.slice A4 n4 c4) (.slice none 0 0)).toArray:=by kernel_rfl
theorem infoCM:(Tryz.prog.info? 67).map (fun i=>(i.zero,i.size,i.bytes))=some (some (.agg #[.string .empty,.bool false,.bool false,.string .empty]),4,40):=by kernel_rfl
theorem infoCR:(Tryz.prog.info? 68).map (fun i=>(i.zero,i.size,i.bytes))=some (some (.agg #[.string .empty,.bool false,.bool false,.string .empty]),4,40):=by kernel_rfl
end Go.Proofs.YtcpjmgfloimfhaaGreat
