/- Several texts in one: QConcat, QJoin, QMove, QFacts, QFew, QSame, QValue, QPValue. By an AI agent. -/
import Derived.Test.YtiobnllopliclaaGreatDoorMH
import Derived.Lib.AppendZeros
set_option maxRecDepth 100000
set_option maxHeartbeats 64000000
namespace Go.Proofs.YtiobnllopliclaaGreatDoor
open Go.RowKit
set_option linter.unusedVariables false
theorem grow_any (n:Nat) (hn:n≤100000) (w:World):
  Calls Tryz.prog 122 #[.slice none 0 0,.int .i64 (n:Int)] w fun e w'=>∃v,e=.returned v∧w'.ownsRow w.heap.size 9 1 v 0 (strs [])∧Below w.heap.size w w':=by
 by_cases h0:n=0
 ·subst h0
  go_enter Tryz.func122,Tryz.ntmps122
  go_wp2
  go_ret
  exact⟨_,rfl,nil_own _ _ _ _,Below.refl _ _⟩
 ·have z0:¬((n:Int)<0):=by omega
  have z1:((0:Int)<(n:Int)):=by omega
  obtain⟨i0,hi,hz0,hz1,hz2⟩:=info_parts infoS
  have happ:=Lib.run_append_nil_zeros (P:=Tryz.prog) w 50 3 50 9 i0 (.string .empty) .i64 .i64 Tryz.underlying50 Tryz.underlying3 hi hz0 n (by omega) (by omega) (by omega) (by rw[hz2];omega)
  generalize hcap:grownCap w n 0 9=cap2 at happ
  have hcapge:n≤cap2:=by rw[←hcap];exact grownCap_ge w _ 0 9
  have hcaple:cap2≤maxLen:=by rw[←hcap];exact grownCap_le_maxLen w _ 0 9 (by unfold maxLen;omega)
  generalize hZ:(Builtin.zeroCells (Value.string .empty).cells n++Builtin.zeroCells (Value.string .empty).cells (cap2-n))=Z at happ
  have hZs:Z.size=cap2:=by rw[←hZ];simp[size_zeroCells,Value.cells];omega
  have hown:(w.drew.alloc (.cells Z 9)).ownsRow w.heap.size 9 1 (.slice (some ⟨w.heap.size,0,none⟩) 0 cap2) 0 (strs []):=
   ⟨rfl,.inr ⟨w.heap.size,cap2,Z,rfl,Nat.le_refl _,heap_alloc_new w.drew _,Nat.zero_le _,hcaple,by omega,by simp[strs]⟩⟩
  have hb:Below w.heap.size w (w.drew.alloc (.cells Z 9)):=((Below.refl _ _).drew).alloc (Nat.le_refl _) _
  have Hown:=hide hown
  have Hb:=hide hb
  have hcm:(cap2:Int)≤9223372036854775807:=by unfold maxLen at hcaple;omega
  clear hcap hZ hZs hown hb hi hz0 hz1 hz2 hcaple
  go_enter Tryz.func122,Tryz.ntmps122
  go_wp2_with (at_builtin;refine Lib.wpList_append_run _ rfl _ _ _ _ rfl _ _ rfl rfl _ _ happ ?_)
  go_wp2
  go_ret
  exact⟨_,rfl,Hown.out,Hb.out⟩
structure Two (w:World) (h:Nat) (u v:Value):Prop where
 c0:w.cell? ⟨h,0,none⟩=some u
 c1:w.cell? ⟨h,1,none⟩=some v
 lt:h<w.heap.size
theorem Two.new (w:World) (u v:Value) (e:TypeId):Two (w.alloc (.cells #[u,v] e)) w.heap.size u v:=
 ⟨by rw[World.cell?_alloc_at (hn:=by simp)];rfl,by rw[World.cell?_alloc_at (hn:=by simp)];rfl,by simp⟩
theorem concat_any (w:World) (h:Nat) (A B:Option Addr) (n c m d:Nat) (T U:List (List UInt8)) (hO:Two w h (.slice A n c) (.slice B m d)) (hA:Has w w.heap.size 1 A n (strs T)) (hB:Has w w.heap.size 1 B m (strs U)) (hn:n≤1000) (hm:m≤1000):
  Calls Tryz.prog 90 #[.slice (some ⟨h,0,none⟩) 2 2] w fun e w'=>∃v,e=.returned v∧w'.ownsRow w.heap.size 9 1 v (n+m) (strs (T++U))∧Below w.heap.size w w':=by
 obtain⟨c0,c1,hlt⟩:=hO
 have hG:=fun k hk w=>grow_any k hk w
 have HA:=hide hA
 have HB:=hide hB
 have h1t:=strs_one T
 have h1u:=strs_one U
 have H1t:=hide h1t
 have H1u:=hide h1u
 clear hA hB h1t h1u
 go_enter Tryz.func90,Tryz.ntmps90
 go_wp2
 go_loopg [3,11] 2 (fun k s3 s11 wx=>((k=2∧s11=.int .i64 0∧s3=.int .i64 0)∨(k=1∧s11=.int .i64 1∧s3=.int .i64 (n:Int))∨(k=0∧s11=.int .i64 2∧s3=.int .i64 ((n:Int)+(m:Int))))∧wx=w)
 case atStart=>exact⟨.inl ⟨rfl,rfl,rfl⟩,rfl⟩
 case round=>
  obtain⟨hcs0,hw0⟩:=hrel
  obtain rfl:=hw0.symm
  clear hw0
  rcases hcs0 with⟨rfl,rfl,rfl⟩ | ⟨rfl,rfl,rfl⟩ | ⟨rfl,rfl,rfl⟩
  ·have z0:¬((n:Int)<0):=by omega
   clear HA HB H1t H1u hG
   go_wp2
   go_roundg 1
   case measure=>omega
   case rel=>exact⟨.inr (.inl ⟨rfl,by go_num,by go_num⟩),rfl⟩
  ·have z0:¬((n:Int)+(m:Int)<0):=by omega
   clear HA HB H1t H1u hG
   go_wp2
   go_roundg 0
   case measure=>omega
   case rel=>exact⟨.inr (.inr ⟨rfl,by go_num,by go_num⟩),rfl⟩
  ·have hG1:=hG (n+m) (by omega) w
   rw[show (((n+m:Nat)):Int)=(n:Int)+(m:Int) by omega] at hG1
   have c0w:∀W,Below w.heap.size w W→W.cell? ⟨h,0,none⟩=some (.slice A n c):=fun W hW=>(hW.cell (p:=⟨h,0,none⟩) hlt).trans c0
   have c1w:∀W,Below w.heap.size w W→W.cell? ⟨h,1,none⟩=some (.slice B m d):=fun W hW=>(hW.cell (p:=⟨h,1,none⟩) hlt).trans c1
   have C0:=hide c0w
   have C1:=hide c1w
   clear hG c0w c1w c0 c1
   go_wp2_with (go_at_call 122;fail)
   refine hG1.mono ?_
   rintro e w1 ⟨v1,rfl,hown,hb1⟩
   have HB1:=hide hb1
   clear hG1 hb1
   go_wp2
   go_loopg [6,27] 2 (fun k s6 s27 wx=>Hid ((k=2∧s27=.int .i64 0∧wx.ownsRow w.heap.size 9 1 s6 0 (strs []))∨(k=1∧s27=.int .i64 1∧wx.ownsRow w.heap.size 9 1 s6 n (strs T))∨(k=0∧s27=.int .i64 2∧wx.ownsRow w.heap.size 9 1 s6 (n+m) (strs (T++U))))∧Hid (Below w.heap.size w wx))
   case atStart=>exact⟨hide (.inl ⟨rfl,rfl,hown⟩),HB1⟩
   case round=>
    obtain⟨hcs,hB1⟩:=hrel
    clear hown HB1
    rcases hcs.out with⟨rfl,rfl,hor⟩ | ⟨rfl,rfl,hor⟩ | ⟨rfl,rfl,hor⟩
    ·have c0:=C0.out _ hB1.out
     have hA1:=HA.out.below hB1.out
     have hs1:=hB1.out.size
     have ho1:=H1t.out
     clear hcs HA HB H1u C0 C1
     go_wp2_with (at_builtin;go_must (refine appE _ 50 9 _ 1 16 Tryz.underlying50 infoS rfl (by omega) (by omega) rfl (.tmp 31) (.tmp 32) rfl w.heap.size _ 0 (strs []) rfl hor _ _ n _ (strs T) rfl hA1 ho1 (by omega) hs1 ?_))
     intro v' w6 hor6 hb6 _
     have hB6:=hide (hB1.out.trans hb6)
     have hor7:w6.ownsRow w.heap.size 9 1 v' n (strs T):=by simpa[strs] using hor6
     clear hor hor6 hb6 hA1 hs1 ho1 hB1 c0
     go_wp2
     go_roundg 1
     case measure=>omega
     case rel=>exact⟨hide (.inr (.inl ⟨rfl,by go_num,hor7⟩)),hB6⟩
    ·have c1:=C1.out _ hB1.out
     have hA1:=HB.out.below hB1.out
     have hs1:=hB1.out.size
     have ho1:=H1u.out
     clear hcs HA HB H1t C0 C1
     go_wp2_with (at_builtin;go_must (refine appE _ 50 9 _ 1 16 Tryz.underlying50 infoS rfl (by omega) (by omega) rfl (.tmp 31) (.tmp 32) rfl w.heap.size _ n (strs T) rfl hor _ _ m _ (strs U) rfl hA1 ho1 (by omega) hs1 ?_))
     intro v' w6 hor6 hb6 _
     have hB6:=hide (hB1.out.trans hb6)
     rw[←strs_append] at hor6
     clear hor hb6 hA1 hs1 ho1 hB1 c1
     go_wp2
     go_roundg 0
     case measure=>omega
     case rel=>exact⟨hide (.inr (.inr ⟨rfl,by go_num,hor6⟩)),hB6⟩
    ·have Hor:=hide hor
     clear hcs HA HB H1t H1u C0 C1 hor
     go_wp2
     go_ret
     exact⟨_,rfl,Hor.out,hB1.out⟩
theorem fit_any (w:World) (A:Option Addr) (n c:Nat) (T:List (List UInt8)) (h:Has w w.heap.size 1 A n (strs T)) (hn:n≤10000) (hl:(joinC T).length≤100000000):
  Calls Tryz.prog 92 #[.slice A n c] w fun e w'=>e=.returned (.tuple #[.string (txt (fitV T).1),.int .i64 (fitV T).2])∧w'=w:=by
 have hJ:=fun w h=>joined_any w A n c T h hn hl
 have hnl:=h.strs_n
 by_cases h12:12<n
 ·have hf:fitV T=([],4):=by unfold fitV;rw[if_pos (Or.inl (by omega))]
  rw[hf]
  have z1:((12:Int)<(n:Int)):=by omega
  clear hJ hf hnl h hl
  go_enter Tryz.func92,Tryz.ntmps92
  go_wp2
  go_ret2
  exact⟨rfl,rfl⟩
 ·have z1:¬((12:Int)<(n:Int)):=by omega
  have hsz:(txt (joinC T)).size=(joinC T).length:=txt_size _
  have hJ1:=hJ w h
  by_cases h1:1000<(joinC T).length
  ·have hf:fitV T=([],4):=by unfold fitV;rw[if_pos (Or.inr h1)]
   rw[hf]
   have z2:((1000:Int)<((txt (joinC T)).size:Int)):=by omega
   generalize txt (joinC T)=X at *
   clear hf hnl h hl hsz h1 hJ
   go_enter Tryz.func92,Tryz.ntmps92
   go_wp2_with (go_at_call 59;fail)
   refine hJ1.mono ?_
   rintro e w1 ⟨rfl,hw1⟩
   obtain rfl:=hw1.symm
   clear hJ1 hw1
   go_wp2
   go_ret2
   exact⟨rfl,rfl⟩
  ·have hf:fitV T=(joinC T,0):=by unfold fitV;rw[if_neg (by omega)]
   rw[hf]
   have z2:¬((1000:Int)<((txt (joinC T)).size:Int)):=by omega
   simp only
   generalize txt (joinC T)=X at *
   clear hf hnl h hl hsz h1 hJ
   go_enter Tryz.func92,Tryz.ntmps92
   go_wp2_with (go_at_call 59;fail)
   refine hJ1.mono ?_
   rintro e w1 ⟨rfl,hw1⟩
   obtain rfl:=hw1.symm
   clear hw1
   go_wp2_with (go_at_call 59;fail)
   refine hJ1.mono ?_
   rintro e w1 ⟨rfl,hw1⟩
   obtain rfl:=hw1.symm
   clear hJ1 hw1
   go_wp2
   go_ret2
   exact⟨rfl,rfl⟩
end Go.Proofs.YtiobnllopliclaaGreatDoor
namespace Go.Proofs.YtiobnllopliclaaGreatDoor
open Go.RowKit
set_option linter.unusedVariables false
end Go.Proofs.YtiobnllopliclaaGreatDoor
namespace Go.Proofs.YtiobnllopliclaaGreatDoor
open Go.RowKit
set_option linter.unusedVariables false
noncomputable def moveV (l f t:List UInt8):List UInt8 × Int:=match partsV l with
 |(none,e)=>([],e)
 |(some S,_)=>match partsV f with
  |(none,e)=>([],e)
  |(some F,_)=>match partsV t with
   |(none,e)=>([],e)
   |(some Z,_)=>if undB S F=true then fitV (S.take (S.length-F.length)++Z) else ([],1)
theorem move_1 {l f t:List UInt8} {e:Int} (h:partsV l=(none,e)):moveV l f t=([],e):=by unfold moveV;rw[h]
theorem move_2 {l f t:List UInt8} {S:List (List UInt8)} {e:Int} (h:partsV l=(some S,0)) (h2:partsV f=(none,e)):moveV l f t=([],e):=by unfold moveV;rw[h];simp only;rw[h2]
theorem move_3 {l f t:List UInt8} {S F:List (List UInt8)} {e:Int} (h:partsV l=(some S,0)) (h2:partsV f=(some F,0)) (h3:partsV t=(none,e)):moveV l f t=([],e):=by unfold moveV;rw[h];simp only;rw[h2];simp only;rw[h3]
theorem move_4 {l f t:List UInt8} {S F Z:List (List UInt8)} (h:partsV l=(some S,0)) (h2:partsV f=(some F,0)) (h3:partsV t=(some Z,0)):moveV l f t=if undB S F=true then fitV (S.take (S.length-F.length)++Z) else ([],1):=by unfold moveV;rw[h];simp only;rw[h2];simp only;rw[h3]
theorem NT.len {t:List UInt8} (h:NT t):t.length≤2103:=by
 obtain⟨p,hp,hn,rfl⟩:=h
 have:=ptx_len hp
 unfold ptx at this
 rwa [hn] at this
theorem app_sum {S Z:List (List UInt8)} (hS:TextsOk S) (hZ:TextsOk Z) (k:Nat):(joinC (S.take k++Z)).length≤100000000:=by
 have h:=join_lens (S.take k++Z) 2103 fun t ht=>by
  rcases List.mem_append.1 ht with ht | ht
  ·exact (hS.each t (List.mem_of_mem_take ht)).len
  ·exact (hZ.each t ht).len
 have h1:=hS.le
 have h2:=hZ.le
 rw[List.length_append,List.length_take] at h
 have h3:min k S.length+Z.length≤24:=by omega
 have h4:=Nat.mul_le_mul_left 2104 h3
 omega
theorem pmove_text (l f t:List UInt8) (hl:l.length≤1000000) (hf:f.length≤1000000) (ht:t.length≤1000000) (w:World) (hT:TM w):
  Calls Tryz.prog 52 #[.string (txt l),.string (txt f),.string (txt t)] w fun e w'=>e=.returned (.tuple #[.string (txt (moveV l f t).1),.int .i64 (moveV l f t).2])∧Below w.heap.size w w':=by
 cases rkey l with
 | no y e1 e2 h=>
  have hP:=pp_no hl h w hT
  rw[move_1 h]
  generalize txt l=s at *
  generalize txt f=s2 at *
  generalize txt t=s3 at *
  clear h hl hf ht
  go_enter Tryz.func52,Tryz.ntmps52
  go_wp2_with (go_at_call 85;fail)
  refine hP.mono ?_
  rintro e w1 ⟨A,c,rfl,hb⟩
  clear hP
  go_wp2
  go_ret2
  exact⟨rfl,hb⟩
 | ok S ho h=>
  have hP:=pp_yes hl h w hT
  cases rkey f with
  | no y e1 e2 h2=>
   have hP2:=fun w hT=>pp_no hf h2 w hT
   rw[move_2 h h2]
   generalize txt l=s at *
   generalize txt f=s2 at *
   generalize txt t=s3 at *
   generalize S.length=n at *
   clear h h2 hl hf ht ho
   go_enter Tryz.func52,Tryz.ntmps52
   go_wp2_with (go_at_call 85;fail)
   refine hP.mono ?_
   rintro e w1 ⟨A,c,rfl,_,hb⟩
   clear hP
   go_wp2_with (go_at_call 85;fail)
   refine (hP2 _ (hT.below hb)).mono ?_
   rintro e w2 ⟨A2,c2,rfl,hb2⟩
   have hb3:=hb.trans (hb2.mono hb.size)
   clear hP2 hb hb2
   go_wp2
   go_ret2
   exact⟨rfl,hb3⟩
  | ok F ho2 h2=>
   have hP2:=fun w hT=>pp_yes hf h2 w hT
   cases rkey t with
   | no y e1 e2 h3=>
    have hP3:=fun w hT=>pp_no ht h3 w hT
    rw[move_3 h h2 h3]
    generalize txt l=s at *
    generalize txt f=s2 at *
    generalize txt t=s3 at *
    generalize S.length=n at *
    generalize F.length=n2 at *
    clear h h2 h3 hl hf ht ho ho2
    go_enter Tryz.func52,Tryz.ntmps52
    go_wp2_with (go_at_call 85;fail)
    refine hP.mono ?_
    rintro e w1 ⟨A,c,rfl,_,hb⟩
    clear hP
    go_wp2_with (go_at_call 85;fail)
    refine (hP2 _ (hT.below hb)).mono ?_
    rintro e w2 ⟨A2,c2,rfl,_,hb2⟩
    have hb3:=hb.trans (hb2.mono hb.size)
    clear hP2 hb hb2
    go_wp2_with (go_at_call 85;fail)
    refine (hP3 _ (hT.below hb3)).mono ?_
    rintro e w3 ⟨A3,c3,rfl,hb4⟩
    have hb5:=hb3.trans (hb4.mono hb3.size)
    clear hP3 hb3 hb4
    go_wp2
    go_ret2
    exact⟨rfl,hb5⟩
   | ok Z ho3 h3=>
    have hP3:=fun w hT=>pp_yes ht h3 w hT
    rw[move_4 h h2 h3]
    have hn12:=ho.le
    have hm12:=ho2.le
    have hk12:=ho3.le
    have hU:=hide (fun w A B c d hA hB hc hcm=>punder_any w A B S.length c F.length d S F hA hB (by omega) (by omega) hc hcm)
    by_cases hu:undB S F=true
    ·rw [if_pos hu]
     rw[hu] at hU
     have hle:=(und_yes hu).1
     obtain⟨k,hk⟩:∃k,k=S.length-F.length:=⟨_,rfl⟩
     rw[←hk]
     have hkn:k≤S.length:=by omega
     have z1:(S.length:Int)-(F.length:Int)=(k:Int):=by omega
     have z3:(k:Int)≤(S.length:Int):=by omega
     have hlen:(S.take k).length=k:=by rw[List.length_take];omega
     have hJ:=hide (fun w A c hh hc=>pjoin_any w A (k+Z.length) c (S.take k++Z) hh hc (by omega) (app_sum ho ho3 k))
     have hCon:=hide (fun w h A B c d hO hA hB=>concat_any w h A B k c Z.length d (S.take k) Z hO hA hB (by omega) (by omega))
     obtain⟨X0,hX0⟩:∃X,txt (fitV (S.take k++Z)).1=X:=⟨_,rfl⟩
     obtain⟨y0,hy0⟩:∃y,(fitV (S.take k++Z)).2=y:=⟨_,rfl⟩
     rw[hX0,hy0] at hJ ⊢
     generalize txt l=s at *
     generalize txt f=s2 at *
     generalize txt t=s3 at *
     obtain⟨n,hn⟩:∃n,S.length=n:=⟨_,rfl⟩
     obtain⟨n2,hn2⟩:∃n,F.length=n:=⟨_,rfl⟩
     obtain⟨n3,hn3⟩:∃n,Z.length=n:=⟨_,rfl⟩
     rw[hn] at hP hU z1 z3 hn12 hkn
     rw[hn2] at hP2 hU z1 hm12
     rw[hn3] at hP3 hJ hCon hk12
     clear h h2 h3 hl hf ht ho ho2 ho3 hn hn2 hn3 hu hle hk hlen hX0 hy0
     go_enter Tryz.func52,Tryz.ntmps52
     go_wp2_with (go_at_call 85;fail)
     refine hP.mono ?_
     rintro e w1 ⟨A,c,rfl,t1,hb⟩
     clear hP
     go_wp2_with (go_at_call 85;fail)
     refine (hP2 _ (hT.below hb)).mono ?_
     rintro e w2 ⟨A2,c2,rfl,t2,hb2⟩
     have hb3:=hb.trans (hb2.mono hb.size)
     have hcap:=t1.cap
     have hcm:=(own_caps t1.own).2
     have H1:=hide ((t1.has.below hb2).upto hb2.size)
     have H2:=hide t2.has
     clear hP2 hb hb2 t1 t2
     go_wp2_with (go_at_call 85;fail)
     refine (hP3 _ (hT.below hb3)).mono ?_
     rintro e w3 ⟨A3,c3,rfl,t3,hb4⟩
     have hb5:=hb3.trans (hb4.mono hb3.size)
     have H3:=hide ((H1.out.below hb4).upto hb4.size)
     have H4:=hide t3.has
     have hU3:=hU.out w3 A A2 c c2 H3.out ((H2.out.below hb4).upto hb4.size) hcap hcm
     unfold maxLen at hcm
     clear hP3 hb3 hb4 t3 H1 H2 hU
     go_wp2_with (go_at_call 89;fail)
     refine hU3.mono ?_
     rintro e w4 ⟨rfl,hb6⟩
     have hb7:=hb5.trans (hb6.mono hb5.size)
     have z4:(k:Int)≤(c:Int):=by omega
     have hTwo:=Two.new w4 (.slice A k c) (.slice A3 n3 c3) 50
     have hbb:=below1 w4 (.cells #[.slice A k c,.slice A3 n3 c3] 50)
     have hb8:=hb7.trans (hbb.mono hb7.size)
     have hC:=hCon.out _ _ _ _ _ _ hTwo (((take_has ((H3.out.below hb6).upto hb6.size) hkn).below hbb).upto hbb.size) ((((H4.out.below hb6).upto hb6.size).below hbb).upto hbb.size)
     clear hU3 hb5 hb6 hTwo hbb hb7 H3 H4 hCon
     go_wp2_with (go_at_call 90;fail)
     refine hC.mono ?_
     rintro e w6 ⟨v,rfl,hown,hb9⟩
     obtain⟨A6,c6,rfl,hc6,hH6⟩:=own_form hown
     have hb10:=hb8.trans (hb9.mono hb8.size)
     have hJ6:=hJ.out w6 A6 c6 hH6 hc6
     clear hC hown hb8 hb9 hH6 hJ
     go_wp2_with (go_at_call 86;fail)
     refine hJ6.mono ?_
     rintro e w7 ⟨rfl,hb11⟩
     have hb12:=hb10.trans (hb11.mono hb10.size)
     clear hJ6 hb10 hb11
     go_wp2
     go_ret2
     exact⟨rfl,hb12⟩
    ·rw [if_neg hu]
     have huf:undB S F=false:=by simpa using hu
     rw[huf] at hU
     generalize txt l=s at *
     generalize txt f=s2 at *
     generalize txt t=s3 at *
     obtain⟨n,hn⟩:∃n,S.length=n:=⟨_,rfl⟩
     obtain⟨n2,hn2⟩:∃n,F.length=n:=⟨_,rfl⟩
     obtain⟨n3,hn3⟩:∃n,Z.length=n:=⟨_,rfl⟩
     rw[hn] at hP hU hn12
     rw[hn2] at hP2 hU hm12
     rw[hn3] at hP3 hk12
     clear h h2 h3 hl hf ht ho ho2 ho3 hn hn2 hn3 hu huf
     go_enter Tryz.func52,Tryz.ntmps52
     go_wp2_with (go_at_call 85;fail)
     refine hP.mono ?_
     rintro e w1 ⟨A,c,rfl,t1,hb⟩
     clear hP
     go_wp2_with (go_at_call 85;fail)
     refine (hP2 _ (hT.below hb)).mono ?_
     rintro e w2 ⟨A2,c2,rfl,t2,hb2⟩
     have hb3:=hb.trans (hb2.mono hb.size)
     have hcap:=t1.cap
     have hcm:=(own_caps t1.own).2
     have H1:=hide ((t1.has.below hb2).upto hb2.size)
     have H2:=hide t2.has
     clear hP2 hb hb2 t1 t2
     go_wp2_with (go_at_call 85;fail)
     refine (hP3 _ (hT.below hb3)).mono ?_
     rintro e w3 ⟨A3,c3,rfl,t3,hb4⟩
     have hb5:=hb3.trans (hb4.mono hb3.size)
     have hU3:=hU.out w3 A A2 c c2 ((H1.out.below hb4).upto hb4.size) ((H2.out.below hb4).upto hb4.size) hcap hcm
     clear hP3 hb3 hb4 t3 H1 H2 hU hcm
     go_wp2_with (go_at_call 89;fail)
     refine hU3.mono ?_
     rintro e w4 ⟨rfl,hb6⟩
     have hb7:=hb5.trans (hb6.mono hb5.size)
     clear hU3 hb5 hb6
     go_wp2
     go_ret2
     exact⟨rfl,hb7⟩
theorem rmove_text (l f t:List UInt8) (hl:l.length≤1000000) (hf:f.length≤1000000) (ht:t.length≤1000000) (w:World) (hT:TM w):
  Calls Tryz.prog 55 #[.string (txt l),.string (txt f),.string (txt t)] w fun e w'=>e=.returned (.tuple #[.string (txt (moveV l f t).1),.int .i64 (moveV l f t).2])∧Below w.heap.size w w':=by
 cases rkey l with
 | no y e1 e2 h=>
  have hP:=rp_no hl h w hT
  rw[move_1 h]
  generalize txt l=s at *
  generalize txt f=s2 at *
  generalize txt t=s3 at *
  clear h hl hf ht
  go_enter Tryz.func55,Tryz.ntmps55
  go_wp2_with (go_at_call 58;fail)
  refine hP.mono ?_
  rintro e w1 ⟨A,c,rfl,hb⟩
  clear hP
  go_wp2
  go_ret2
  exact⟨rfl,hb⟩
 | ok S ho h=>
  have hP:=rp_yes hl h w hT
  cases rkey f with
  | no y e1 e2 h2=>
   have hP2:=fun w hT=>rp_no hf h2 w hT
   rw[move_2 h h2]
   generalize txt l=s at *
   generalize txt f=s2 at *
   generalize txt t=s3 at *
   generalize S.length=n at *
   clear h h2 hl hf ht ho
   go_enter Tryz.func55,Tryz.ntmps55
   go_wp2_with (go_at_call 58;fail)
   refine hP.mono ?_
   rintro e w1 ⟨A,c,rfl,_,hb⟩
   clear hP
   go_wp2_with (go_at_call 58;fail)
   refine (hP2 _ (hT.below hb)).mono ?_
   rintro e w2 ⟨A2,c2,rfl,hb2⟩
   have hb3:=hb.trans (hb2.mono hb.size)
   clear hP2 hb hb2
   go_wp2
   go_ret2
   exact⟨rfl,hb3⟩
  | ok F ho2 h2=>
   have hP2:=fun w hT=>rp_yes hf h2 w hT
   cases rkey t with
   | no y e1 e2 h3=>
    have hP3:=fun w hT=>rp_no ht h3 w hT
    rw[move_3 h h2 h3]
    generalize txt l=s at *
    generalize txt f=s2 at *
    generalize txt t=s3 at *
    generalize S.length=n at *
    generalize F.length=n2 at *
    clear h h2 h3 hl hf ht ho ho2
    go_enter Tryz.func55,Tryz.ntmps55
    go_wp2_with (go_at_call 58;fail)
    refine hP.mono ?_
    rintro e w1 ⟨A,c,rfl,_,hb⟩
    clear hP
    go_wp2_with (go_at_call 58;fail)
    refine (hP2 _ (hT.below hb)).mono ?_
    rintro e w2 ⟨A2,c2,rfl,_,hb2⟩
    have hb3:=hb.trans (hb2.mono hb.size)
    clear hP2 hb hb2
    go_wp2_with (go_at_call 58;fail)
    refine (hP3 _ (hT.below hb3)).mono ?_
    rintro e w3 ⟨A3,c3,rfl,hb4⟩
    have hb5:=hb3.trans (hb4.mono hb3.size)
    clear hP3 hb3 hb4
    go_wp2
    go_ret2
    exact⟨rfl,hb5⟩
   | ok Z ho3 h3=>
    have hP3:=fun w hT=>rp_yes ht h3 w hT
    rw[move_4 h h2 h3]
    have hn12:=ho.le
    have hm12:=ho2.le
    have hk12:=ho3.le
    have hU:=hide (fun w A B c d hA hB hc hcm=>rbelow_any w A B S.length c F.length d S F hA hB (by omega) (by omega) hc hcm)
    by_cases hu:undB S F=true
    ·rw [if_pos hu]
     rw[hu] at hU
     have hle:=(und_yes hu).1
     obtain⟨k,hk⟩:∃k,k=S.length-F.length:=⟨_,rfl⟩
     rw[←hk] at hU ⊢
     have hlen:(S.take k).length=k:=by rw[List.length_take];omega
     have hk12':k≤12:=by omega
     have hJ:=hide (fun w A c hh=>fit_any w A (k+Z.length) c (S.take k++Z) hh (by omega) (app_sum ho ho3 k))
     obtain⟨X0,hX0⟩:∃X,txt (fitV (S.take k++Z)).1=X:=⟨_,rfl⟩
     obtain⟨y0,hy0⟩:∃y,(fitV (S.take k++Z)).2=y:=⟨_,rfl⟩
     rw[hX0,hy0] at hJ ⊢
     have HLen:=hide hlen
     have H1s:=hide (strs_one (S.take k))
     have H1z:=hide (strs_one Z)
     have HApp:=hide (strs_append (S.take k) Z)
     generalize txt l=s at *
     generalize txt f=s2 at *
     generalize txt t=s3 at *
     obtain⟨n,hn⟩:∃n,S.length=n:=⟨_,rfl⟩
     obtain⟨n2,hn2⟩:∃n,F.length=n:=⟨_,rfl⟩
     obtain⟨n3,hn3⟩:∃n,Z.length=n:=⟨_,rfl⟩
     rw[hn] at hP hU hn12
     rw[hn2] at hP2 hU hm12
     rw[hn3] at hP3 hJ hk12
     generalize S.take k=K at *
     clear h h2 h3 hl hf ht ho ho2 ho3 hn hn2 hn3 hu hle hk hlen hX0 hy0
     go_enter Tryz.func55,Tryz.ntmps55
     go_wp2_with (go_at_call 58;fail)
     refine hP.mono ?_
     rintro e w1 ⟨A,c,rfl,t1,hb⟩
     clear hP
     go_wp2_with (go_at_call 58;fail)
     refine (hP2 _ (hT.below hb)).mono ?_
     rintro e w2 ⟨A2,c2,rfl,t2,hb2⟩
     have hb3:=hb.trans (hb2.mono hb.size)
     have hcap:=t1.cap
     have hcm:=(own_caps t1.own).2
     have H1:=hide ((t1.has.below hb2).upto hb2.size)
     have H2:=hide t2.has
     clear hP2 hb hb2 t1 t2
     go_wp2_with (go_at_call 58;fail)
     refine (hP3 _ (hT.below hb3)).mono ?_
     rintro e w3 ⟨A3,c3,rfl,t3,hb4⟩
     have hb5:=hb3.trans (hb4.mono hb3.size)
     have H4:=hide t3.has
     have hU3:=hU.out w3 A A2 c c2 ((H1.out.below hb4).upto hb4.size) ((H2.out.below hb4).upto hb4.size) hcap hcm
     clear hP3 hb3 hb4 t3 H1 H2 hU hcm hcap
     go_wp2_with (go_at_call 91;fail)
     refine hU3.mono ?_
     rintro e w4 hpost
     obtain⟨A4,k4,c4,rfl,himp,hb6⟩:=hpost.out
     obtain⟨hk4,_,hH4⟩:=himp rfl
     clear himp
     rw[HLen.out] at hk4
     subst hk4
     have hb7:=hb5.trans (hb6.mono hb5.size)
     have hown:=own_lit w4 #[] 9 0 (by unfold maxLen;omega) rfl
     have hba:=below1 w4 (.cells #[] 9)
     have hA4:=hH4.below hba
     have hZ4:=hide (((H4.out.below hb6).upto hb6.size).below hba)
     have hb8:=hb7.trans (hba.mono hb7.size)
     have hs8:=hba.size
     have hsw:=hb7.size
     have h1s:=H1s.out
     clear hU3 hpost hb5 hb6 hH4 H4 hb7 hba H1s
     obtain⟨w5,hw5⟩:∃w5,w4.alloc (.cells #[] 9)=w5:=⟨_,rfl⟩
     rw[hw5] at hown hA4 hZ4 hb8 hs8
     go_wp2_with (at_builtin;go_must (refine appE _ 50 9 _ 1 16 Tryz.underlying50 infoS rfl (by omega) (by omega) rfl (.tmp 46) (.tmp 47) rfl w4.heap.size _ 0 [] rfl hown _ _ k4 _ (strs K) rfl hA4 h1s (by omega) hs8 ?_))
     intro v' w6 hor6 hb9 _
     have hor7:w6.ownsRow w4.heap.size 9 1 v' k4 (strs K):=by simpa using hor6
     have hZ6:=hZ4.out.below hb9
     have hb10:=hb8.trans (hb9.mono hsw)
     have hs6:=Nat.le_trans hs8 hb9.size
     have h1z:=H1z.out
     clear hown hA4 hZ4 hb8 hs8 hor6 hb9 h1s hw5 H1z
     go_wp2_with (at_builtin;go_must (refine appE _ 50 9 _ 1 16 Tryz.underlying50 infoS rfl (by omega) (by omega) rfl (.tmp 48) (.tmp 49) rfl w4.heap.size _ k4 (strs K) rfl hor7 _ _ n3 _ (strs Z) rfl hZ6 h1z (by omega) hs6 ?_))
     intro v7 w7 hor8 hb11 _
     rw[←HApp.out] at hor8
     obtain⟨A8,c8,rfl,hc8,hH8⟩:=own_form hor8
     have hb12:=hb10.trans (hb11.mono hsw)
     have hJ7:=hJ.out w7 A8 c8 hH8
     clear hor7 hZ6 hb10 hs6 h1z hor8 hb11 hH8 hJ HApp
     go_wp2_with (go_at_call 92;fail)
     refine hJ7.mono ?_
     rintro e w8 ⟨rfl,hw8⟩
     obtain rfl:=hw8.symm
     clear hJ7 hw8
     go_wp2
     go_ret2
     exact⟨rfl,hb12⟩
    ·rw [if_neg hu]
     have huf:undB S F=false:=by simpa using hu
     rw[huf] at hU
     generalize txt l=s at *
     generalize txt f=s2 at *
     generalize txt t=s3 at *
     obtain⟨n,hn⟩:∃n,S.length=n:=⟨_,rfl⟩
     obtain⟨n2,hn2⟩:∃n,F.length=n:=⟨_,rfl⟩
     obtain⟨n3,hn3⟩:∃n,Z.length=n:=⟨_,rfl⟩
     rw[hn] at hP hU hn12
     rw[hn2] at hP2 hU hm12
     rw[hn3] at hP3 hk12
     clear h h2 h3 hl hf ht ho ho2 ho3 hn hn2 hn3 hu huf
     go_enter Tryz.func55,Tryz.ntmps55
     go_wp2_with (go_at_call 58;fail)
     refine hP.mono ?_
     rintro e w1 ⟨A,c,rfl,t1,hb⟩
     clear hP
     go_wp2_with (go_at_call 58;fail)
     refine (hP2 _ (hT.below hb)).mono ?_
     rintro e w2 ⟨A2,c2,rfl,t2,hb2⟩
     have hb3:=hb.trans (hb2.mono hb.size)
     have hcap:=t1.cap
     have hcm:=(own_caps t1.own).2
     have H1:=hide ((t1.has.below hb2).upto hb2.size)
     have H2:=hide t2.has
     clear hP2 hb hb2 t1 t2
     go_wp2_with (go_at_call 58;fail)
     refine (hP3 _ (hT.below hb3)).mono ?_
     rintro e w3 ⟨A3,c3,rfl,t3,hb4⟩
     have hb5:=hb3.trans (hb4.mono hb3.size)
     have hU3:=hU.out w3 A A2 c c2 ((H1.out.below hb4).upto hb4.size) ((H2.out.below hb4).upto hb4.size) hcap hcm
     clear hP3 hb3 hb4 t3 H1 H2 hU hcm
     go_wp2_with (go_at_call 91;fail)
     refine hU3.mono ?_
     rintro e w4 hpost
     obtain⟨A4,k4,c4,rfl,_,hb6⟩:=hpost.out
     have hb7:=hb5.trans (hb6.mono hb5.size)
     clear hU3 hb5 hb6 hpost
     go_wp2
     go_ret2
     exact⟨rfl,hb7⟩
end Go.Proofs.YtiobnllopliclaaGreatDoor
namespace Go.Proofs.YtiobnllopliclaaGreatDoor
set_option linter.unusedVariables false
theorem norm_again {l:List UInt8} (h:(normT l).2=0):normT (normT l).1=normT l∧(normT l).1.length≤1000:=by
 cases pt l with
 | no e he h'=>rw[norm_no' h'] at h;simp only at h;omega
 | ok T ho h'=>
  rw[norm_yes' h']
  exact⟨norm_yes' (parts_join ho),ho.len⟩
end Go.Proofs.YtiobnllopliclaaGreatDoor
namespace Go.Proofs.YtiobnllopliclaaGreatDoor
open Go.RowKit
set_option linter.unusedVariables false
end Go.Proofs.YtiobnllopliclaaGreatDoor
namespace Go.Proofs.YtiobnllopliclaaGreatDoor
open Go.RowKit
set_option linter.unusedVariables false
end Go.Proofs.YtiobnllopliclaaGreatDoor
namespace Go.Proofs.YtiobnllopliclaaGreatDoor
open Go.RowKit
set_option linter.unusedVariables false
noncomputable def valV (n v:List UInt8):List UInt8 × Int:=
 if (typ n).2≠5 then norm n v
 else if v.length<1∨200<v.length then ([],2)
 else if (normT v).2=0 then normT v
 else ([],2)
inductive Vway (n v:List UInt8):Prop where
 | other (h:((typ n).2==5)=false) (e:valV n v=norm n v)
 | short (h:((typ n).2==5)=true) (hv:v.length<1) (e:valV n v=([],2))
 | long (h:((typ n).2==5)=true) (hv:1≤v.length) (hw:200<v.length) (e:valV n v=([],2))
 | none (h:((typ n).2==5)=true) (hv:1≤v.length) (hw:v.length≤200) (hn:((normT v).2==0)=false) (e:valV n v=([],2))
 | name (h:((typ n).2==5)=true) (hv:1≤v.length) (hw:v.length≤200) (x:List UInt8) (hn:normT v=(x,0)) (e:valV n v=(x,0))
theorem vway (n v:List UInt8):Vway n v:=by
 by_cases h:(typ n).2=5
 ·have hb:((typ n).2==5)=true:=by rw[h];rfl
  by_cases h1:v.length<1
  ·exact .short hb h1 (by unfold valV;rw[if_neg (by simp[h]),if_pos (Or.inl h1)])
  ·by_cases h2:200<v.length
   ·exact .long hb (by omega) h2 (by unfold valV;rw[if_neg (by simp[h]),if_pos (Or.inr h2)])
   ·by_cases h3:(normT v).2=0
    ·have e:normT v=((normT v).1,0):=Prod.ext rfl h3
     exact .name hb (by omega) (by omega) (normT v).1 e (by unfold valV;rw[if_neg (by simp[h]),if_neg (by omega),if_pos h3];exact e)
    ·exact .none hb (by omega) (by omega) (beq_false_of_ne h3) (by unfold valV;rw[if_neg (by simp[h]),if_neg (by omega),if_neg h3])
 ·exact .other (beq_false_of_ne h) (by unfold valV;rw[if_pos h])
theorem rvalue_big (n v:List UInt8) (hn:n.length≤1000000) (hv:v.length≤1000000) (w:World) (hT:TM w):
  Calls Tryz.prog 37 #[.string (txt n),.string (txt v)] w fun e w'=>e=.returned (.tuple #[.string (txt (valV n v).1),.int .i64 (valV n v).2])∧Below w.heap.size w w':=by
 have hTy:=fun w=>rtype_any (txt n) (by rw[txt_size];omega) w
 simp only[txt_toList] at hTy
 have hsz:(txt v).size=v.length:=txt_size v
 obtain⟨M,hM⟩:∃M,txt (typ n).1=M:=⟨_,rfl⟩
 obtain⟨x,hx⟩:∃x,(typ n).2=x:=⟨_,rfl⟩
 rw[hM,hx] at hTy
 cases vway n v with
 | other h e=>
  have hNo:=fun w hT=>rnormal_any (txt n) (txt v) (by rw[txt_size];omega) (by rw[txt_size];omega) w hT
  simp only[txt_toList] at hNo
  rw[hx] at h
  rw[e]
  generalize txt (norm n v).1=X at *
  generalize (norm n v).2=y at *
  generalize txt n=s at *
  generalize txt v=t at *
  have h2:(x !=5)=true:=by unfold bne;rw[h];rfl
  clear hM hx e hsz hn hv
  go_enter Tryz.func37,Tryz.ntmps37
  go_wp2_with (go_at_call 35;fail)
  refine (hTy _).mono ?_
  rintro e w1 ⟨rfl,hb1⟩
  go_wp2_with (go_at_call 71;fail)
  refine (hNo _ (hT.below hb1).tt).mono ?_
  rintro e w2 ⟨rfl,hb2⟩
  have hb3:=hb1.trans (hb2.mono hb1.size)
  clear hb1 hb2 hTy hNo
  go_wp2
  go_ret2
  exact⟨rfl,hb3⟩
 | short h h1 e=>
  rw[hx] at h
  rw[e]
  have z1:((txt v).size:Int)<1:=by omega
  generalize txt n=s at *
  generalize txt v=t at *
  have h2:(x !=5)=false:=by unfold bne;rw[h];rfl
  clear hM hx e hsz hn hv
  go_enter Tryz.func37,Tryz.ntmps37
  go_wp2_with (go_at_call 35;fail)
  refine (hTy _).mono ?_
  rintro e w1 ⟨rfl,hb1⟩
  clear hTy
  go_wp2
  go_ret2
  exact⟨rfl,hb1⟩
 | long h h1 h3 e=>
  rw[hx] at h
  rw[e]
  have z1:¬((txt v).size:Int)<1:=by omega
  have z2:(200:Int)<((txt v).size:Int):=by omega
  generalize txt n=s at *
  generalize txt v=t at *
  have h2:(x !=5)=false:=by unfold bne;rw[h];rfl
  clear hM hx e hsz hn hv h1 h3
  go_enter Tryz.func37,Tryz.ntmps37
  go_wp2_with (go_at_call 35;fail)
  refine (hTy _).mono ?_
  rintro e w1 ⟨rfl,hb1⟩
  clear hTy
  go_wp2
  go_ret2
  exact⟨rfl,hb1⟩
 | none h h1 h3 hno e=>
  have hNo:=fun w hT=>rnormal_text v (by omega) w hT
  rw[hx] at h
  rw[e]
  have z1:¬((txt v).size:Int)<1:=by omega
  have z2:¬(200:Int)<((txt v).size:Int):=by omega
  have hno2:((normT v).2 !=0)=true:=by unfold bne;rw[hno];rfl
  generalize txt (normT v).1=X at *
  generalize (normT v).2=y at *
  generalize txt n=s at *
  generalize txt v=t at *
  have h2:(x !=5)=false:=by unfold bne;rw[h];rfl
  clear hM hx e hsz hn hv h1 h3
  go_enter Tryz.func37,Tryz.ntmps37
  go_wp2_with (go_at_call 35;fail)
  refine (hTy _).mono ?_
  rintro e w1 ⟨rfl,hb1⟩
  go_wp2_with (go_at_call 27;fail)
  refine (hNo _ (hT.below hb1)).mono ?_
  rintro e w2 ⟨rfl,hb2⟩
  have hb3:=hb1.trans (hb2.mono hb1.size)
  clear hb1 hb2 hTy hNo
  go_wp2
  go_ret2
  exact⟨rfl,hb3⟩
 | name h h1 h3 u hno e=>
  have hNo:=fun w hT=>rnormal_text v (by omega) w hT
  rw[hno] at hNo
  rw[hx] at h
  rw[e]
  have z1:¬((txt v).size:Int)<1:=by omega
  have z2:¬(200:Int)<((txt v).size:Int):=by omega
  simp only at hNo ⊢
  generalize txt u=X at *
  generalize txt n=s at *
  generalize txt v=t at *
  have h2:(x !=5)=false:=by unfold bne;rw[h];rfl
  clear hM hx e hsz hn hv h1 h3 hno
  go_enter Tryz.func37,Tryz.ntmps37
  go_wp2_with (go_at_call 35;fail)
  refine (hTy _).mono ?_
  rintro e w1 ⟨rfl,hb1⟩
  go_wp2_with (go_at_call 27;fail)
  refine (hNo _ (hT.below hb1)).mono ?_
  rintro e w2 ⟨rfl,hb2⟩
  have hb3:=hb1.trans (hb2.mono hb1.size)
  clear hb1 hb2 hTy hNo
  go_wp2
  go_ret2
  exact⟨rfl,hb3⟩
end Go.Proofs.YtiobnllopliclaaGreatDoor
namespace Go.Proofs.YtiobnllopliclaaGreatDoor
open Go.RowKit
set_option linter.unusedVariables false
theorem pvalue_big (n v:List UInt8) (hn:n.length≤1000000) (hv:v.length≤1000000) (w:World) (hT:TM w):
  Calls Tryz.prog 64 #[.string (txt n),.string (txt v)] w fun e w'=>e=.returned (.tuple #[.string (txt (valV n v).1),.int .i64 (valV n v).2])∧Below w.heap.size w w':=by
 have hTy:=fun w hT=>type_any (txt n) w hT
 simp only[txt_toList] at hTy
 have hsz:(txt v).size=v.length:=txt_size v
 obtain⟨M,hM⟩:∃M,txt (typ n).1=M:=⟨_,rfl⟩
 obtain⟨x,hx⟩:∃x,(typ n).2=x:=⟨_,rfl⟩
 rw[hM,hx] at hTy
 cases vway n v with
 | other h e=>
  have hNo:=fun w hT=>normal_any (txt n) (txt v) (by rw[txt_size];omega) w hT
  simp only[txt_toList] at hNo
  rw[hx] at h
  rw[e]
  generalize txt (norm n v).1=X at *
  generalize (norm n v).2=y at *
  generalize txt n=s at *
  generalize txt v=t at *
  have h2:(x !=5)=true:=by unfold bne;rw[h];rfl
  clear hM hx e hsz hn hv
  go_enter Tryz.func64,Tryz.ntmps64
  go_wp2_with (go_at_call 61;fail)
  refine (hTy _ hT.tt.types).mono ?_
  rintro e w1 ⟨rfl,hb1⟩
  go_wp2_with (go_at_call 99;fail)
  refine (hNo _ (hT.below hb1).tt).mono ?_
  rintro e w2 ⟨rfl,hb2⟩
  have hb3:=hb1.trans (hb2.mono hb1.size)
  clear hb1 hb2 hTy hNo
  go_wp2
  go_ret2
  exact⟨rfl,hb3⟩
 | short h h1 e=>
  rw[hx] at h
  rw[e]
  have e0:((txt v).toList==[])=true:=by cases v with | nil=>exact nil_text | cons a r=>simp at h1
  generalize txt n=s at *
  generalize txt v=t at *
  have h2:(x !=5)=false:=by unfold bne;rw[h];rfl
  clear hM hx e hsz hn hv
  go_enter Tryz.func64,Tryz.ntmps64
  go_wp2_with (go_at_call 61;fail)
  refine (hTy _ hT.tt.types).mono ?_
  rintro e w1 ⟨rfl,hb1⟩
  clear hTy
  go_wp2
  go_ret2
  exact⟨rfl,hb1⟩
 | long h h1 h3 e=>
  rw[hx] at h
  rw[e]
  have e0:((txt v).toList==[])=false:=ne_nil_text (by rintro rfl;simp at h1)
  have z2:(200:Int)<((txt v).size:Int):=by omega
  generalize txt n=s at *
  generalize txt v=t at *
  have h2:(x !=5)=false:=by unfold bne;rw[h];rfl
  clear hM hx e hsz hn hv h1 h3
  go_enter Tryz.func64,Tryz.ntmps64
  go_wp2_with (go_at_call 61;fail)
  refine (hTy _ hT.tt.types).mono ?_
  rintro e w1 ⟨rfl,hb1⟩
  clear hTy
  go_wp2
  go_ret2
  exact⟨rfl,hb1⟩
 | none h h1 h3 hno e=>
  have hNo:=fun w hT=>pnormal_text v (by omega) w hT
  rw[hx] at h
  rw[e]
  have e0:((txt v).toList==[])=false:=ne_nil_text (by rintro rfl;simp at h1)
  have z2:¬(200:Int)<((txt v).size:Int):=by omega
  have hno2:((normT v).2 !=0)=true:=by unfold bne;rw[hno];rfl
  generalize txt (normT v).1=X at *
  generalize (normT v).2=y at *
  generalize txt n=s at *
  generalize txt v=t at *
  have h2:(x !=5)=false:=by unfold bne;rw[h];rfl
  clear hM hx e hsz hn hv h1 h3
  go_enter Tryz.func64,Tryz.ntmps64
  go_wp2_with (go_at_call 61;fail)
  refine (hTy _ hT.tt.types).mono ?_
  rintro e w1 ⟨rfl,hb1⟩
  go_wp2_with (go_at_call 50;fail)
  refine (hNo _ (hT.below hb1)).mono ?_
  rintro e w2 ⟨rfl,hb2⟩
  have hb3:=hb1.trans (hb2.mono hb1.size)
  clear hb1 hb2 hTy hNo
  go_wp2
  go_ret2
  exact⟨rfl,hb3⟩
 | name h h1 h3 u hno e=>
  have hNo:=fun w hT=>pnormal_text v (by omega) w hT
  rw[hno] at hNo
  rw[hx] at h
  rw[e]
  have e0:((txt v).toList==[])=false:=ne_nil_text (by rintro rfl;simp at h1)
  have z2:¬(200:Int)<((txt v).size:Int):=by omega
  simp only at hNo ⊢
  generalize txt u=X at *
  generalize txt n=s at *
  generalize txt v=t at *
  have h2:(x !=5)=false:=by unfold bne;rw[h];rfl
  clear hM hx e hsz hn hv h1 h3 hno
  go_enter Tryz.func64,Tryz.ntmps64
  go_wp2_with (go_at_call 61;fail)
  refine (hTy _ hT.tt.types).mono ?_
  rintro e w1 ⟨rfl,hb1⟩
  go_wp2_with (go_at_call 50;fail)
  refine (hNo _ (hT.below hb1)).mono ?_
  rintro e w2 ⟨rfl,hb2⟩
  have hb3:=hb1.trans (hb2.mono hb1.size)
  clear hb1 hb2 hTy hNo
  go_wp2
  go_ret2
  exact⟨rfl,hb3⟩
end Go.Proofs.YtiobnllopliclaaGreatDoor
