/- Several texts in one: YFew, YRow, YRestr. By an AI agent. -/
import Derived.Test.YtjjepcnijmlliaaGreatDoorYX
import Derived.Test.YtjjepcnijmlliaaGreatDoorVR
set_option maxRecDepth 100000
set_option maxHeartbeats 64000000
namespace Go.Proofs.YtjjepcnijmlliaaGreatDoor
open Go.RowKit Go.Proofs.YtjjepcnijmlliaaGreatDoor.Opens
set_option linter.unusedVariables false
set_option linter.unusedSimpArgs false
def FewY (L:List EN) (R:List Ru) (s:List UInt8):Prop:=nW L≤3000∧FewR R∧s.length≤3000
theorem fewY_any (L:List EN) (R:List Ru) (s:List UInt8) (w:World) (A:Option Addr) (n c:Nat) (xs:List Value) (hA:Has w w.heap.size 2 A n xs) (hL:ENs w w.heap.size xs L) (hn:n≤1048576) (hb:∀e∈L,BulkN e)
  (AR:Option Addr) (m cR:Nat) (hR:Has w w.heap.size 5 AR m (rusC R)) (hf:∀r∈R,FitsR r) (hm:m≤maxLen) (hs:s.length≤1048576):
  Calls Tryz.prog 9 #[.slice A n c,.slice AR m cR,.string (txt s)] w fun e w'=>e=.returned (.bool (Tr (FewY L R s)))∧Below w.heap.size w w':=by
 have hS:=rsmallE_all L w A n c xs hA hL hn hb
 have hF:=few12_any R w AR m cR hR hf hm
 have hsz:=txt_size s
 have HS:=hide hS
 have HF:=hide hF
 clear hS hF hA hL hn hb hR hf hm
 by_cases h1:nW L≤3000
 ·rw [decide_eq_true h1] at HS
  by_cases h2:FewR R
  ·rw [Tr_yes h2] at HF
   by_cases h3:s.length≤3000
   ·rw [Tr_yes ⟨h1,h2,h3⟩]
    have z:((txt s).size:Int)≤(3000:Int):=by omega
    clear h1 h2 h3 hs hsz
    generalize txt s=S at *
    go_enter Tryz.func9,Tryz.ntmps9
    go_wp2_with (go_at_call 25;fail)
    refine HS.out.mono ?_
    rintro e w2 ⟨rfl,hw2⟩
    obtain rfl:=hw2.symm
    clear hw2 HS
    go_wp2_with (go_at_call 26;fail)
    refine HF.out.mono ?_
    rintro e w3 ⟨rfl,hb3⟩
    have HB:=hide hb3
    clear hb3 HF
    go_wp2
    go_ret
    exact⟨rfl,HB.out⟩
   ·rw [Tr_no (show ¬FewY L R s from fun h=>h3 h.2.2)]
    have z:¬((txt s).size:Int)≤(3000:Int):=by omega
    clear h1 h2 h3 hs hsz
    generalize txt s=S at *
    go_enter Tryz.func9,Tryz.ntmps9
    go_wp2_with (go_at_call 25;fail)
    refine HS.out.mono ?_
    rintro e w2 ⟨rfl,hw2⟩
    obtain rfl:=hw2.symm
    clear hw2 HS
    go_wp2_with (go_at_call 26;fail)
    refine HF.out.mono ?_
    rintro e w3 ⟨rfl,hb3⟩
    have HB:=hide hb3
    clear hb3 HF
    go_wp2
    go_ret
    exact⟨by show Ending.returned (.bool (decide _))=_;rw[decide_eq_false (by omega)],HB.out⟩
  ·rw [Tr_no h2] at HF
   rw[Tr_no (show ¬FewY L R s from fun h=>h2 h.2.1)]
   clear h1 h2 hs hsz
   generalize txt s=S at *
   go_enter Tryz.func9,Tryz.ntmps9
   go_wp2_with (go_at_call 25;fail)
   refine HS.out.mono ?_
   rintro e w2 ⟨rfl,hw2⟩
   obtain rfl:=hw2.symm
   clear hw2 HS
   go_wp2_with (go_at_call 26;fail)
   refine HF.out.mono ?_
   rintro e w3 ⟨rfl,hb3⟩
   have HB:=hide hb3
   clear hb3 HF
   go_wp2
   go_ret
   exact⟨rfl,HB.out⟩
 ·rw [decide_eq_false h1] at HS
  rw[Tr_no (show ¬FewY L R s from fun h=>h1 h.1)]
  clear h1 hs hsz HF
  generalize txt s=S at *
  go_enter Tryz.func9,Tryz.ntmps9
  go_wp2_with (go_at_call 25;fail)
  refine HS.out.mono ?_
  rintro e w2 ⟨rfl,hw2⟩
  obtain rfl:=hw2.symm
  clear hw2 HS
  go_wp2
  go_ret
  exact⟨rfl,Below.refl _ _⟩
theorem Blk.has {w:World} {h:Nat} {us:List Value} (t:Blk w h us) (size n:Nat) (hl:us.length=n*size):Has w w.heap.size size (some ⟨h,0,none⟩) n us:=
 ⟨hl,.inr ⟨_,rfl,t.lt,fun j u hu=>by
  have:=t.cells j u hu
  rwa [show (⟨h,0,none⟩:Addr).add j=⟨h,j,none⟩ by unfold Addr.add;split<;>simp_all]⟩⟩
theorem awakeY_any (w:World) (hT:TM w):
  Calls Tryz.prog 8 #[] w fun e w'=>e=.returned (.bool true)∧Below w.heap.size w w':=by
 have hb1:=below1 w (.cells #[.string ⟨#[120]⟩] 9)
 have hX1:Blk (w.alloc (.cells #[.string ⟨#[120]⟩] 9)) w.heap.size [.string ⟨#[120]⟩]:=Blk.new w [.string ⟨#[120]⟩] 9
 obtain⟨w1,hw1⟩:∃w1,w.alloc (.cells #[.string ⟨#[120]⟩] 9)=w1:=⟨_,rfl⟩
 have hs1:w1.heap.size=w.heap.size+1:=by rw[←hw1];simp
 rw[hw1] at hb1 hX1
 have hb2:=below1 w1 (.cells #[.string ⟨#[111]⟩] 9)
 have hX2:Blk (w1.alloc (.cells #[.string ⟨#[111]⟩] 9)) w1.heap.size [.string ⟨#[111]⟩]:=Blk.new w1 [.string ⟨#[111]⟩] 9
 obtain⟨w2,hw2⟩:∃w2,w1.alloc (.cells #[.string ⟨#[111]⟩] 9)=w2:=⟨_,rfl⟩
 have hs2:w2.heap.size=w.heap.size+2:=by rw[←hw2];simp[hs1]
 rw[hw2] at hb2 hX2
 rw[hs1] at hX2
 have hb3:=below1 w2 (.cells #[.string ⟨#[100,99]⟩,.slice (some ⟨w.heap.size,0,none⟩) 1 1,.string ⟨#[111,98,106,101,99,116,67,108,97,115,115]⟩,.slice (some ⟨w.heap.size+1,0,none⟩) 1 1] 42)
 have hX3:Blk (w2.alloc (.cells #[.string ⟨#[100,99]⟩,.slice (some ⟨w.heap.size,0,none⟩) 1 1,.string ⟨#[111,98,106,101,99,116,67,108,97,115,115]⟩,.slice (some ⟨w.heap.size+1,0,none⟩) 1 1] 42)) w2.heap.size [.string ⟨#[100,99]⟩,.slice (some ⟨w.heap.size,0,none⟩) 1 1,.string ⟨#[111,98,106,101,99,116,67,108,97,115,115]⟩,.slice (some ⟨w.heap.size+1,0,none⟩) 1 1]:=Blk.new w2 [.string ⟨#[100,99]⟩,.slice (some ⟨w.heap.size,0,none⟩) 1 1,.string ⟨#[111,98,106,101,99,116,67,108,97,115,115]⟩,.slice (some ⟨w.heap.size+1,0,none⟩) 1 1] 42
 obtain⟨w3,hw3⟩:∃w3,w2.alloc (.cells #[.string ⟨#[100,99]⟩,.slice (some ⟨w.heap.size,0,none⟩) 1 1,.string ⟨#[111,98,106,101,99,116,67,108,97,115,115]⟩,.slice (some ⟨w.heap.size+1,0,none⟩) 1 1] 42)=w3:=⟨_,rfl⟩
 have hs3:w3.heap.size=w.heap.size+3:=by rw[←hw3];simp[hs2]
 rw[hw3] at hb3 hX3
 rw[hs2] at hX3
 have hb4:=below1 w3 (.cells #[.string ⟨#[100,99,61,120]⟩,.slice (some ⟨w.heap.size+2,0,none⟩) 2 2] 33)
 have hX4:Blk (w3.alloc (.cells #[.string ⟨#[100,99,61,120]⟩,.slice (some ⟨w.heap.size+2,0,none⟩) 2 2] 33)) w3.heap.size [.string ⟨#[100,99,61,120]⟩,.slice (some ⟨w.heap.size+2,0,none⟩) 2 2]:=Blk.new w3 [.string ⟨#[100,99,61,120]⟩,.slice (some ⟨w.heap.size+2,0,none⟩) 2 2] 33
 obtain⟨w4,hw4⟩:∃w4,w3.alloc (.cells #[.string ⟨#[100,99,61,120]⟩,.slice (some ⟨w.heap.size+2,0,none⟩) 2 2] 33)=w4:=⟨_,rfl⟩
 have hs4:w4.heap.size=w.heap.size+4:=by rw[←hw4];simp[hs3]
 rw[hw4] at hb4 hX4
 rw[hs3] at hX4
 have hb5:=below1 w4 (.cells #[.string ⟨#[42]⟩,.string ⟨#[]⟩,.string ⟨#[]⟩,.int .i64 1,.bool true] 58)
 have hX5:Blk (w4.alloc (.cells #[.string ⟨#[42]⟩,.string ⟨#[]⟩,.string ⟨#[]⟩,.int .i64 1,.bool true] 58)) w4.heap.size (rusC allR):=Blk.new w4 [.string ⟨#[42]⟩,.string ⟨#[]⟩,.string ⟨#[]⟩,.int .i64 1,.bool true] 58
 obtain⟨w5,hw5⟩:∃w5,w4.alloc (.cells #[.string ⟨#[42]⟩,.string ⟨#[]⟩,.string ⟨#[]⟩,.int .i64 1,.bool true] 58)=w5:=⟨_,rfl⟩
 rw[hw5] at hb5 hX5
 rw[hs4] at hX5
 have hY1:=(((hX1.grow hb2).grow hb3).grow hb4).grow hb5
 have hY2:=((hX2.grow hb3).grow hb4).grow hb5
 have hY3:=(hX3.grow hb4).grow hb5
 have hbb:Below w.heap.size w w5:=(((hb1.trans (hb2.mono (by omega))).trans (hb3.mono (by omega))).trans (hb4.mono (by omega))).trans (hb5.mono (by omega))
 have h1:=hY1.has 1 1 rfl
 have h2:=hY2.has 1 1 rfl
 have h3:=hY3.has 2 2 rfl
 have h5:=hX5.has 5 1 rfl
 have hE:EAs w5 w5.heap.size [.string ⟨#[100,99]⟩,.slice (some ⟨w.heap.size,0,none⟩) 1 1,.string ⟨#[111,98,106,101,99,116,67,108,97,115,115]⟩,.slice (some ⟨w.heap.size+1,0,none⟩) 1 1] awE:=⟨rfl,fun i a ha=>by
  match i,ha with
  | 0,ha=>obtain rfl:=Option.some.inj ha;exact⟨_,1,rfl,rfl,by decide,by unfold maxLen;omega,h1⟩
  | 1,ha=>obtain rfl:=Option.some.inj ha;exact⟨_,1,rfl,rfl,by decide,by unfold maxLen;omega,h2⟩
  | k+2,ha=>cases ha⟩
 have hO:=pone_any allR [] [100,99,61,120] awE w5 _ 1 1 h5 (fun r hr=>by
  obtain rfl:=List.mem_singleton.1 hr
  unfold Ru.small
  decide) (by decide) (by decide) (by decide) _ 2 2 _ h3 hE (by decide) (fun a ha=>by
  rcases List.mem_cons.1 ha with rfl | ha
  ·exact ⟨by decide,by decide⟩
  ·obtain rfl:=List.mem_singleton.1 ha
   exact⟨by decide,by decide⟩) (hT.below hbb)
 rw[view_awake] at hO
 have x0:=hX4.grow hb5
 have y0:=x0.cells 0 _ rfl
 have y1:=x0.cells 1 _ rfl
 change Calls Tryz.prog 14 #[.agg #[.string ⟨#[100,99,61,120]⟩,.slice (some ⟨w.heap.size+2,0,none⟩) 2 2],.slice (some ⟨w.heap.size+4,0,none⟩) 1 1,.string ⟨#[]⟩] w5 (OnePost (some ([100,99,61,120],awE)) w5) at hO
 have HO:=hide hO
 have HB:=hide hbb
 have z4:=hX4.cells 0 _ rfl
 have z5:=hX4.cells 1 _ rfl
 have Hw:=hide (And.intro hw1 (And.intro hw2 (And.intro hw3 (And.intro hw4 hw5))))
 have Hs:=hide (And.intro hs1 (And.intro hs2 (And.intro hs3 hs4)))
 clear hO hbb hE h1 h2 h3 h5 hY1 hY2 hY3 hX1 hX2 hX3 hX4 hX5 hb1 hb2 hb3 hb4 hb5 hw1 hw2 hw3 hw4 hw5 hs1 hs2 hs3 hs4 hT x0 y0 y1
 go_enter Tryz.func8,Tryz.ntmps8
 go_upto_region 2 with fail
 rw[Hw.out.1]
 try rw[Hs.out.1]
 rw[Hw.out.2.1]
 try rw[Hs.out.2.1]
 rw[Hw.out.2.2.1]
 try rw[Hs.out.2.2.1]
 rw[Hw.out.2.2.2.1]
 try rw[Hs.out.2.2.2]
 have Hw5:=hide Hw.out.2.2.2.2
 go_wp2_with (go_at_call 14;fail)
 try rw[Hw5.out]
 try rw[Hs.out.2.2.2]
 refine HO.out.mono ?_
 rintro e w6 hpost
 obtain⟨A6,c6,ys6,rfl,_,_,_,_,hb6⟩:=one_some hpost
 have HB6:=hide (HB.out.trans (hb6.mono HB.out.size))
 have hl:awE.length=2:=rfl
 have ht:txt [100,99,61,120]=(⟨#[100,99,61,120]⟩:ByteArray):=rfl
 simp only[hl,ht]
 clear hpost hb6 HO HB Hw Hs Hw5 z4 z5 hl ht
 have hbx:=below1 w6 (.cells #[.string ⟨#[100,99,61,120]⟩,.slice A6 2 c6] 33)
 have hXe:=BoxE.new w6 ⟨#[100,99,61,120]⟩ A6 2 c6 33
 have x0:=hXe.c0
 have x1:=hXe.c1
 have HB7:=hide (HB6.out.trans (hbx.mono HB6.out.size))
 have q:((⟨#[100,99,61,120]⟩:ByteArray).toList==[100,99,61,120])=true:=by
  have:=txt_bytes [100,99,61,120]
  show ((txt [100,99,61,120]).toList==_)=true
  rw[this]
  decide
 clear hbx hXe HB6
 go_wp2
 go_ret
 exact⟨rfl,HB7.out⟩
end Go.Proofs.YtjjepcnijmlliaaGreatDoor
namespace Go.Proofs.YtjjepcnijmlliaaGreatDoor
open Go.RowKit
set_option linter.unusedVariables false
set_option linter.unusedSimpArgs false
structure RowX (w:World) (B base:Nat) (E:TypeId) (v:Value) (zs:List Value) (L:List EN):Prop where
 own:w.ownsRow base E 2 v L.length zs
 ents:ENs w B zs L
 le:B≤base
 top:base≤w.heap.size
theorem ENs.snoc {w:World} {B:Nat} {xs:List Value} {L:List EN} (h:ENs w B xs L) {a:EN} {A:Option Addr} {c:Nat} {ys:List Value} (hc:a.2.length≤c) (hm:c≤maxLen) (hH:Has w B 2 A a.2.length ys) (hE:EAs w B ys a.2):ENs w B (xs++[.string (txt a.1),.slice A a.2.length c]) (L++[a]):=
 (h.ensP.snoc hc hm hH.hasP hE.easP).ens fun b hb=>hb
section
variable {w w':World} {B base:Nat} {E:TypeId} {v v':Value} {zs:List Value} {L:List EN}
theorem RowX.start (h:w.ownsRow base E 2 v 0 []) (hB:B≤base) (ht:base≤w.heap.size):RowX w B base E v [] []:=⟨h,⟨rfl,fun i e he=>by simp at he⟩,hB,ht⟩
theorem RowX.below (h:RowX w B base E v zs L) (hb:Below w.heap.size w w'):RowX w' B base E v zs L:=
 ⟨own_below h.own hb,h.ents.below (hb.mono (Nat.le_trans h.le h.top)),h.le,Nat.le_trans h.top hb.size⟩
theorem RowX.snoc (h:RowX w B base E v zs L) {a:EN} {A:Option Addr} {c:Nat} {ys:List Value} (hc:a.2.length≤c) (hm:c≤maxLen) (hH:Has w B 2 A a.2.length ys) (hE:EAs w B ys a.2)
  (hown:w'.ownsRow base E 2 v' (L.length+1) (zs++[.string (txt a.1),.slice A a.2.length c])) (hb:Below base w w'):RowX w' B base E v' (zs++[.string (txt a.1),.slice A a.2.length c]) (L++[a]):=by
 have hbB:=hb.mono h.le
 exact⟨by rw[List.length_append];exact hown,(h.ents.below hbB).snoc hc hm (hH.below hbB) (hE.below hbB),h.le,Nat.le_trans h.top hb.size⟩
theorem RowX.told (h:RowX w B base E v zs L):∃A c,v=.slice A L.length c∧L.length≤c∧c≤maxLen∧Has w w.heap.size 2 A L.length zs∧ENs w w.heap.size zs L:=by
 obtain⟨A,c,rfl,hc,hH⟩:=own_form h.own
 exact⟨A,c,rfl,hc,own_most h.own,hH,h.ents.upto (Nat.le_trans h.le h.top)⟩
end
theorem EntsPost.read {X:List EN} {w w':World} {e:Ending} (h:EntsPost X w e w'):∃A c ys,e=.returned (.slice A X.length c)∧X.length≤c∧c≤maxLen∧Has w' w'.heap.size 2 A X.length ys∧ENs w' w'.heap.size ys X∧Below w.heap.size w w':=by
 obtain⟨A,c,ys,h1,h2,h3,h4,h5,h6⟩:=h.out
 exact⟨A,c,ys,h1,h2,h3,h4.has fun b hb=>hb.2,h5.ens fun b hb=>hb.2,h6⟩
theorem wee_of_small {L:List EN} (h:SmallN L):∀e∈L,WeeN e:=fun e he=>⟨by have:=h.name e he;omega,by have:=h.attrs e he;omega,fun a ha=>⟨by have:=(h.each e he a ha).1;omega,fun u hu=>by have:=(h.each e he a ha).2 u hu;omega⟩⟩
def TypesN (L:List EN):Prop:=∀e∈L,∀a∈e.2,a.1.length≤1048576
theorem wholeL_len (s:List UInt8) (L:List EN):(wholeL s L).length≤L.length:=List.length_filter_le _ _
theorem wholeL_yes {s:List UInt8} {L:List EN} {e:EN} (h:FormedE e.1 e.2∧(normT s).2=0):wholeL s (L++[e])=wholeL s L++[e]:=by rw[whole_snoc,if_pos h]
theorem wholeL_no {s:List UInt8} {L:List EN} {e:EN} (h:¬(FormedE e.1 e.2∧(normT s).2=0)):wholeL s (L++[e])=wholeL s L:=by rw[whole_snoc,if_neg h,List.append_nil]
end Go.Proofs.YtjjepcnijmlliaaGreatDoor
namespace Go.Proofs.YtjjepcnijmlliaaGreatDoor
open Go Go.RowKit
set_option linter.unusedVariables false
set_option linter.unusedSimpArgs false
structure upSame (h:Nat) (w W:World):Prop where
 grown:w.grownBy W (some h)
 same:∀i,W.cell? ⟨h,i,none⟩=w.cell? ⟨h,i,none⟩
 fz:∀i,W.frozen? ⟨h,i,none⟩=w.frozen? ⟨h,i,none⟩
instance sameWay (h:Nat):Way (upSame h):=⟨fun w=>⟨World.grownBy.refl w _,fun _=>rfl,fun _=>rfl⟩,fun {a b c} p q=>⟨(butWay (some h)).trans p.grown q.grown,fun i=>(q.same i).trans (p.same i),fun i=>(q.fz i).trans (p.fz i)⟩⟩
theorem grow_begin_same {P:Program} {ops:Array Oper} {Q:Exit→Act→World→Prop} (h:Nat) {id:Nat} {a:Act} {w:World} (hm:P.follows .mixedOrders=true)
  (H:wpAnyG (upSame h) P .any ops Q ops.size (Array.replicate ops.size false) a w.drew):(Code.region id ops true).wp P Q a w:=
 wp_region_any hm (wpAny_of_grow _ _ _ _ H)
theorem same_of_below {h:Nat} {w W:World} (hh:h<w.heap.size) (hb:Below w.heap.size w W):upSame h w W:=⟨but_of_below _ hb,fun i=>hb.cell (p:=⟨h,i,none⟩) hh,fun i=>hb.frozen (p:=⟨h,i,none⟩) hh⟩
theorem same_set (w:World) (h i:Nat) (u:Value) (hc:w.cell? ⟨h,i,none⟩=some u):upSame h w (w.setCell ⟨h,i,none⟩ u):=
 ⟨grown_setCell w h i u,fun j=>by
  by_cases hj:j=i
  ·subst hj
   rw[World.cell?_setCell_same _ _ _ hc,hc]
  ·exact World.cell?_setCell_other _ _ _ _ (by simp;try omega),fun j=>World.frozen?_setCell _ _ _ _⟩
theorem Blk.same {w W:World} {h:Nat} {us:List Value} (t:Blk w h us) (hs:upSame h w W):Blk W h us:=
 ⟨Nat.lt_of_lt_of_le t.lt hs.grown.size,fun i u hu=>(hs.same i).trans (t.cells i u hu),fun i=>(hs.fz i).trans (t.fz i)⟩
theorem copied_any (A0 A1 A2:ByteArray) (x:Int) (y:Bool) (w:World) (h0:A0.size≤1000000) (h1:A1.size≤1000000) (h2:A2.size≤1000000):
  Calls Tryz.prog 43 #[.agg #[.string A0,.string A1,.string A2,.int .i64 x,.bool y]] w fun e w'=>e=.returned (.agg #[.string A0,.string A1,.string A2,.int .i64 x,.bool y])∧Below w.heap.size w w':=by
 have hC0:=fun w=>clone_any A0 (by omega) w
 have hC1:=fun w=>clone_any A1 (by omega) w
 have hC2:=fun w=>clone_any A2 (by omega) w
 have hb1:=below1 w (.cells #[.string A0,.string A1,.string A2,.int .i64 x,.bool y] 58)
 have hX:Blk (w.alloc (.cells #[.string A0,.string A1,.string A2,.int .i64 x,.bool y] 58)) w.heap.size [.string A0,.string A1,.string A2,.int .i64 x,.bool y]:=Blk.new w [.string A0,.string A1,.string A2,.int .i64 x,.bool y] 58
 obtain⟨w1,hw1⟩:∃w1,w.alloc (.cells #[.string A0,.string A1,.string A2,.int .i64 x,.bool y] 58)=w1:=⟨_,rfl⟩
 have hs1:w1.heap.size=w.heap.size+1:=by rw[←hw1];simp
 rw[hw1] at hb1 hX
 have hb2:=below1 w1 (.cells #[.string ⟨#[]⟩,.string ⟨#[]⟩,.string ⟨#[]⟩,.int .i64 0,.bool false] 58)
 have hZ:Blk (w1.alloc (.cells #[.string ⟨#[]⟩,.string ⟨#[]⟩,.string ⟨#[]⟩,.int .i64 0,.bool false] 58)) w1.heap.size [.string ⟨#[]⟩,.string ⟨#[]⟩,.string ⟨#[]⟩,.int .i64 0,.bool false]:=Blk.new w1 [.string ⟨#[]⟩,.string ⟨#[]⟩,.string ⟨#[]⟩,.int .i64 0,.bool false] 58
 obtain⟨w2,hw2⟩:∃w2,w1.alloc (.cells #[.string ⟨#[]⟩,.string ⟨#[]⟩,.string ⟨#[]⟩,.int .i64 0,.bool false] 58)=w2:=⟨_,rfl⟩
 rw[hw2] at hb2 hZ
 rw[hs1] at hZ
 have HX:=hide (hX.grow hb2)
 have HZ:=hide hZ
 have HB:=hide (hb1.trans (hb2.mono hb1.size))
 have HC0:=hide hC0
 have HC1:=hide hC1
 have HC2:=hide hC2
 have Hw1:=hide hw1
 have Hw2:=hide hw2
 have Hs1:=hide hs1
 clear hC0 hC1 hC2 hb1 hX hw1 hb2 hZ hw2 hs1 h0 h1 h2
 go_enter Tryz.func43,Tryz.ntmps43
 go_upto_region 1 with fail
 rw[Hw1.out,Hw2.out]
 try rw[Hs1.out]
 refine grow_begin_same w.heap.size (by kernel_rfl) ?_
 have hdr:Below w2.heap.size w2 w2.drew:=(Below.refl _ _).drew
 have HXd:=hide (HX.out.grow hdr)
 have HZd:=hide (HZ.out.grow hdr)
 have HBd:=hide (HB.out.trans (hdr.mono HB.out.size))
 clear hdr HX HZ HB
 generalize w2.drew=wd at *
 refine grow_take 0 (some 3) (v:=?va0) rfl rfl (by kernel_rfl) (by kernel_rfl) (by kernel_rfl) (fun _ _ _ h=>h) (by rfl) (fun W hW=>?ya0) ?_
 case ya0=>
  go_simp<;>with_reducible rfl
 try simp only[Act.put,List.setIfInBounds_toArray,List.set_cons_zero,List.set_cons_succ]
 refine grow_take 1 (some 4) (v:=?va1) rfl rfl (by kernel_rfl) (by kernel_rfl) (by kernel_rfl) (fun _ _ _ h=>h) (by rfl) (fun W hW=>?ya1) ?_
 case ya1=>
  have k0:=(hW.same 0).trans (HXd.out.cells 0 _ rfl)
  go_simp<;>with_reducible rfl
 try simp only[Act.put,List.setIfInBounds_toArray,List.set_cons_zero,List.set_cons_succ]
 refine grow_take 3 (some 6) (v:=?va3) rfl rfl (by kernel_rfl) (by kernel_rfl) (by kernel_rfl) (fun _ _ _ h=>h) (by rfl) (fun W hW=>?ya3) ?_
 case ya3=>
  go_simp<;>with_reducible rfl
 try simp only[Act.put,List.setIfInBounds_toArray,List.set_cons_zero,List.set_cons_succ]
 refine grow_take 4 (some 7) (v:=?va4) rfl rfl (by kernel_rfl) (by kernel_rfl) (by kernel_rfl) (fun _ _ _ h=>h) (by rfl) (fun W hW=>?ya4) ?_
 case ya4=>
  have k0:=(hW.same 1).trans (HXd.out.cells 1 _ rfl)
  go_simp<;>with_reducible rfl
 try simp only[Act.put,List.setIfInBounds_toArray,List.set_cons_zero,List.set_cons_succ]
 refine grow_take 6 (some 9) (v:=?va6) rfl rfl (by kernel_rfl) (by kernel_rfl) (by kernel_rfl) (fun _ _ _ h=>h) (by rfl) (fun W hW=>?ya6) ?_
 case ya6=>
  go_simp<;>with_reducible rfl
 try simp only[Act.put,List.setIfInBounds_toArray,List.set_cons_zero,List.set_cons_succ]
 refine grow_take 7 (some 10) (v:=?va7) rfl rfl (by kernel_rfl) (by kernel_rfl) (by kernel_rfl) (fun _ _ _ h=>h) (by rfl) (fun W hW=>?ya7) ?_
 case ya7=>
  have k0:=(hW.same 2).trans (HXd.out.cells 2 _ rfl)
  go_simp<;>with_reducible rfl
 try simp only[Act.put,List.setIfInBounds_toArray,List.set_cons_zero,List.set_cons_succ]
 refine grow_only 2 rfl (by kernel_rfl) (fun K hK=>?_)
 go_simp
 refine (HC0.out _).mono ?_
 rintro e wa ⟨rfl,hb⟩
 have hs:=same_of_below HXd.out.lt hb
 refine hK.out _ _ hs ?_
 have HX1:=hide (HXd.out.grow hb)
 have HZ1:=hide (HZd.out.grow hb)
 have HB1:=hide (HBd.out.trans (hb.mono HBd.out.size))
 clear hK K hb hs HC0 HZd HBd
 try simp only[Act.put,List.setIfInBounds_toArray,List.set_cons_zero,List.set_cons_succ]
 refine grow_take 9 (some 12) (v:=?va9) rfl rfl (by kernel_rfl) (by kernel_rfl) (by kernel_rfl) (fun _ _ _ h=>h) (by rfl) (fun W hW=>?ya9) ?_
 case ya9=>
  go_simp<;>with_reducible rfl
 try simp only[Act.put,List.setIfInBounds_toArray,List.set_cons_zero,List.set_cons_succ]
 refine grow_only 5 rfl (by kernel_rfl) (fun K hK=>?_)
 go_simp
 refine (HC1.out _).mono ?_
 rintro e wb ⟨rfl,hb⟩
 have hs:=same_of_below HX1.out.lt hb
 refine hK.out _ _ hs ?_
 have HX2:=hide (HX1.out.grow hb)
 have HZ2:=hide (HZ1.out.grow hb)
 have HB2:=hide (HB1.out.trans (hb.mono HB1.out.size))
 clear hK K hb hs HC1 HX1 HZ1 HB1
 try simp only[Act.put,List.setIfInBounds_toArray,List.set_cons_zero,List.set_cons_succ]
 refine grow_only 8 rfl (by kernel_rfl) (fun K hK=>?_)
 go_simp
 refine (HC2.out _).mono ?_
 rintro e we ⟨rfl,hb⟩
 have hs:=same_of_below HX2.out.lt hb
 refine hK.out _ _ hs ?_
 have HX3:=hide (HX2.out.grow hb)
 have HZ3:=hide (HZ2.out.grow hb)
 have HB3:=hide (HB2.out.trans (hb.mono HB2.out.size))
 clear hK K hb hs HC2 HX2 HZ2 HB2
 try simp only[Act.put,List.setIfInBounds_toArray,List.set_cons_zero,List.set_cons_succ]
 refine grow_only 10 rfl (by kernel_rfl) (fun K hK=>?_)
 have cm:=HX3.out.cells 0 _ rfl
 have fm:=HX3.out.fz 0
 go_simp
 change K _ (we.setCell ⟨w.heap.size,0,none⟩ (.string A0))
 have hs:=same_set we w.heap.size 0 (.string A0) cm
 refine hK.out _ _ hs ?_
 have HX4:=hide (HX3.out.same hs)
 have HZ4:=hide (HZ3.out.grown (grown_setCell we w.heap.size 0 (.string A0)) (fun e=>by have:=Option.some.inj e;omega))
 have HB4:=hide (HB3.out.trans (below_of_grown (base:=w.heap.size) (grown_setCell we w.heap.size 0 (.string A0)) (fun q hq=>by have:=Option.some.inj hq;omega) HB3.out.size))
 clear hK K hs cm fm HX3 HZ3 HB3
 generalize we.setCell ⟨w.heap.size,0,none⟩ (.string A0)=wf at *
 try simp only[Act.put,List.setIfInBounds_toArray,List.set_cons_zero,List.set_cons_succ]
 refine grow_take 11 (some 13) (v:=?va11) rfl rfl (by kernel_rfl) (by kernel_rfl) (by kernel_rfl) (fun _ _ _ h=>h) (by rfl) (fun W hW=>?ya11) ?_
 case ya11=>
  go_simp<;>with_reducible rfl
 try simp only[Act.put,List.setIfInBounds_toArray,List.set_cons_zero,List.set_cons_succ]
 refine grow_only 12 rfl (by kernel_rfl) (fun K hK=>?_)
 have cm:=HX4.out.cells 1 _ rfl
 have fm:=HX4.out.fz 1
 go_simp
 change K _ (wf.setCell ⟨w.heap.size,1,none⟩ (.string A1))
 have hs:=same_set wf w.heap.size 1 (.string A1) cm
 refine hK.out _ _ hs ?_
 have HX5:=hide (HX4.out.same hs)
 have HZ5:=hide (HZ4.out.grown (grown_setCell wf w.heap.size 1 (.string A1)) (fun e=>by have:=Option.some.inj e;omega))
 have HB5:=hide (HB4.out.trans (below_of_grown (base:=w.heap.size) (grown_setCell wf w.heap.size 1 (.string A1)) (fun q hq=>by have:=Option.some.inj hq;omega) HB4.out.size))
 clear hK K hs cm fm HX4 HZ4 HB4
 generalize wf.setCell ⟨w.heap.size,1,none⟩ (.string A1)=wg at *
 try simp only[Act.put,List.setIfInBounds_toArray,List.set_cons_zero,List.set_cons_succ]
 refine grow_take 13 (some 14) (v:=?va13) rfl rfl (by kernel_rfl) (by kernel_rfl) (by kernel_rfl) (fun _ _ _ h=>h) (by rfl) (fun W hW=>?ya13) ?_
 case ya13=>
  go_simp<;>with_reducible rfl
 try simp only[Act.put,List.setIfInBounds_toArray,List.set_cons_zero,List.set_cons_succ]
 refine grow_only 14 rfl (by kernel_rfl) (fun K hK=>?_)
 have cm:=HX5.out.cells 2 _ rfl
 have fm:=HX5.out.fz 2
 go_simp
 change K _ (wg.setCell ⟨w.heap.size,2,none⟩ (.string A2))
 have hs:=same_set wg w.heap.size 2 (.string A2) cm
 refine hK.out _ _ hs ?_
 have HX6:=hide (HX5.out.same hs)
 have HZ6:=hide (HZ5.out.grown (grown_setCell wg w.heap.size 2 (.string A2)) (fun e=>by have:=Option.some.inj e;omega))
 have HB6:=hide (HB5.out.trans (below_of_grown (base:=w.heap.size) (grown_setCell wg w.heap.size 2 (.string A2)) (fun q hq=>by have:=Option.some.inj hq;omega) HB5.out.size))
 clear hK K hs cm fm HX5 HZ5 HB5
 generalize wg.setCell ⟨w.heap.size,2,none⟩ (.string A2)=wi at *
 try simp only[Act.put,List.setIfInBounds_toArray,List.set_cons_zero,List.set_cons_succ]
 refine grow_done (by kernel_rfl) ?_ _
 have q0:=HX6.out.cells 0 _ rfl
 have q1:=HX6.out.cells 1 _ rfl
 have q2:=HX6.out.cells 2 _ rfl
 have q3:=HX6.out.cells 3 _ rfl
 have q4:=HX6.out.cells 4 _ rfl
 go_wp2_with (refine storeB wi rfl 58 (.tmp 2) (.tmp 15) rfl (w.heap.size+1) 0 _ [.string A0,.string A1,.string A2,.int .i64 x,.bool y] rfl rfl HZ6.out (by simp) (by kernel_rfl) (by simp[Value.oneCell']) ?_)
 have hBz:=HZ6.out.sets 0 [.string A0,.string A1,.string A2,.int .i64 x,.bool y] (by simp) [.string A0,.string A1,.string A2,.int .i64 x,.bool y] (by simp)
 have hbz:=HB6.out.trans (below_sets (base:=w.heap.size) (h:=w.heap.size+1) wi [.string A0,.string A1,.string A2,.int .i64 x,.bool y] (by omega) HB6.out.size)
 have HBz:=hide hBz
 have Hbz:=hide hbz
 clear hBz hbz HX6 HZ6 HB6 q0 q1 q2 q3 q4
 generalize wi.setCells (w.heap.size+1) 0 [.string A0,.string A1,.string A2,.int .i64 x,.bool y]=wz at *
 refine bodyPost_ret (v:=.agg #[.string A0,.string A1,.string A2,.int .i64 x,.bool y]) ?_ rfl ?_
 ·exact results_cell1 rfl _ wz (w.heap.size+1) [.string A0,.string A1,.string A2,.int .i64 x,.bool y] _ rfl HBz.out.range Tryz.underlying58 rfl (by kernel_rfl)
 ·exact ⟨rfl,Hbz.out⟩
theorem restrict_any (L:List Ru) (c:List UInt8) (w:World) (A:Option Addr) (n cc:Nat) (hA:Has w w.heap.size 5 A n (rusC L)) (hsm:∀r∈L,r.small) (hn:n≤100000) (hc:c.length≤1000000) (hT:TM w):
  Calls Tryz.prog 22 #[.slice A n cc,.string (txt c)] w (RulesPost (restrV L c) w):=by
 have hnl:=hA.rules_n
 have hF:=rusformed_any L w A n cc hA hsm (by omega) hT
 suffices H:Calls Tryz.prog 22 #[.slice A n cc,.string (txt c)] w fun e w'=>∃v,e=.returned v∧w'.ownsRow w.heap.size 58 5 v (restrV L c).length (rusC (restrV L c))∧Below w.heap.size w w' from H.mono fun e w' h=>⟨h⟩
 by_cases hP:AllP L
 ·rw [Tr_yes hP] at hF
  have hRV:restrV L c=L.filter fun r=>underV r.tgt c||underV c r.tgt:=by unfold restrV;rw[if_pos hP]
  have hU1:∀r∈L,∀w,TM w→Calls Tryz.prog 42 #[.string (txt r.tgt),.string (txt c)] w fun e w'=>e=.returned (.bool (underV r.tgt c))∧Below w.heap.size w w':=fun r hr w hT=>punder_text r.tgt c (by have:=hsm r hr;unfold Ru.small at this;omega) hc w hT
  have hU2:∀r∈L,∀w,TM w→Calls Tryz.prog 42 #[.string (txt c),.string (txt r.tgt)] w fun e w'=>e=.returned (.bool (underV c r.tgt))∧Below w.heap.size w w':=fun r hr w hT=>punder_text c r.tgt hc (by have:=hsm r hr;unfold Ru.small at this;omega) w hT
  have hCp:∀r∈L,∀w,Calls Tryz.prog 43 #[.agg #[.string (txt r.who),.string (txt r.tgt),.string (txt r.att),.int .i64 r.rts,.bool r.alw]] w fun e w'=>e=.returned (.agg #[.string (txt r.who),.string (txt r.tgt),.string (txt r.att),.int .i64 r.rts,.bool r.alw])∧Below w.heap.size w w':=fun r hr w=>by
   have:=hsm r hr
   unfold Ru.small at this
   exact copied_any _ _ _ r.rts r.alw w (by rw[txt_size];omega) (by rw[txt_size];omega) (by rw[txt_size];omega)
  rw[hRV]
  have HU1:=hide hU1
  have HU2:=hide hU2
  have HCp:=hide hCp
  have HF:=hide hF
  have HA:=hide hA
  have HT:=hide hT
  have HN:=hide hnl
  clear hU1 hU2 hCp hF hA hT hnl hRV hP hsm hc
  generalize txt c=S at *
  go_enter Tryz.func22,Tryz.ntmps22
  go_wp2_with (go_at_call 34;fail)
  refine HF.out.mono ?_
  rintro e w2 ⟨rfl,hb2⟩
  have HB2:=hide hb2
  have HA2:=hide ((HA.out.below hb2).upto hb2.size)
  have HT2:=hide (HT.out.below hb2)
  clear hb2 HF HA HT
  go_wp2
  go_loopg [5,13] n (fun k s5 s13 wx=>∃i:Nat,i+k=n∧s13=.int .i64 (i:Int)∧Hid (wx.ownsRow w2.heap.size 58 5 s5 ((L.take i).filter fun r=>underV r.tgt c||underV c r.tgt).length (rusC ((L.take i).filter fun r=>underV r.tgt c||underV c r.tgt)))∧Hid (Below w2.heap.size w2 wx))
  case atStart=>exact⟨0,by omega,rfl,hide (by simpa[rusC] using World.ownsRow_nil _ _ _ _),hide (Below.refl _ _)⟩
  case round=>
   obtain⟨i,hig,rfl,hor,hbr⟩:=hrel
   cases gk with
   | zero=>
    obtain rfl:i=n:=by omega
    have hiz:¬((i:Int)<(i:Int)):=by omega
    have ho:=hor.out
    rw[List.take_of_length_le (by rw[←HN.out];exact Nat.le_refl _)] at ho
    have Ho:=hide (own_base ho HB2.out.size)
    have HE:=hide (HB2.out.trans (hbr.out.mono HB2.out.size))
    clear HU1 HU2 HCp HA2 HT2 HN hor ho hbr
    go_wp2
    go_ret
    exact⟨_,rfl,Ho.out,HE.out⟩
   | succ k=>
    have hi:i<n:=by omega
    have hiz:(i:Int)<(n:Int):=by omega
    obtain⟨q,hq⟩:∃q,L[i]?=some q:=⟨_,List.getElem?_eq_getElem (by rw[←HN.out];exact hi)⟩
    have hqm:=List.mem_of_getElem? hq
    obtain⟨g,o,hAe,hg,hat⟩:=HA2.out.rule (fun h=>by rw[h] at hq;simp at hq)
    have HAe:=hide hAe
    obtain⟨c0,c1,c2,c3,c4⟩:=(hat i q hq).below hg hbr.out
    have hbx:=below1 wr (.cells #[.string (txt q.who),.string (txt q.tgt),.string (txt q.att),.int .i64 q.rts,.bool q.alw] 58)
    have hX:=Box5.new wr (txt q.who) (txt q.tgt) (txt q.att) q.rts q.alw 58
    obtain⟨x5,x0,x1,x2,x3,x4⟩:=hX
    have hbr1:=hbr.out.trans (hbx.mono hbr.out.size)
    have HX:=hide (Box5.new wr (txt q.who) (txt q.tgt) (txt q.att) q.rts q.alw 58)
    have HT1:=hide (HT2.out.below hbr1)
    have Hbr1:=hide hbr1
    have Hor1:=hide (own_below hor.out hbx)
    have H1:=hide (HU1.out q hqm)
    have H2:=hide (HU2.out q hqm)
    have HCq:=hide (HCp.out q hqm)
    have htk:L.take (i+1)=L.take i++[q]:=by rw[List.take_add_one,hq];rfl
    have hlen:((L.take i).filter fun r=>underV r.tgt c||underV c r.tgt).length+1≤1000000:=by
     have:=List.length_filter_le (fun r:Ru=>underV r.tgt c||underV c r.tgt) (L.take i)
     rw[List.length_take] at this
     omega
    have Hruc:Hid (ruC q=[.string (txt q.who),.string (txt q.tgt),.string (txt q.att),.int .i64 q.rts,.bool q.alw]):=hide rfl
    obtain⟨b1,hb1⟩:∃b,underV q.tgt c=b:=⟨_,rfl⟩
    obtain⟨b2,hb2⟩:∃b,underV c q.tgt=b:=⟨_,rfl⟩
    have Hyes:Hid ((b1||b2)=true→rusC ((L.take (i+1)).filter fun r=>underV r.tgt c||underV c r.tgt)=rusC ((L.take i).filter fun r=>underV r.tgt c||underV c r.tgt)++ruC q∧((L.take (i+1)).filter fun r=>underV r.tgt c||underV c r.tgt).length=((L.take i).filter fun r=>underV r.tgt c||underV c r.tgt).length+1):=hide fun h=>by
     rw[htk,List.filter_append,rusC_app,List.length_append]
     have:([q].filter fun r=>underV r.tgt c||underV c r.tgt)=[q]:=by rw[List.filter_cons];simp only[hb1,hb2];rw[if_pos h];rfl
     rw[this]
     exact⟨by simp[rusC],rfl⟩
    have Hno:Hid ((b1||b2)=false→(L.take (i+1)).filter (fun r=>underV r.tgt c||underV c r.tgt)=(L.take i).filter fun r=>underV r.tgt c||underV c r.tgt):=hide fun h=>by
     rw[htk,List.filter_append]
     have:([q].filter fun r=>underV r.tgt c||underV c r.tgt)=[]:=by rw[List.filter_cons];simp only[hb1,hb2];rw[if_neg (by rw[h];simp)];rfl
     rw[this,List.append_nil]
    rw[hb1] at H1
    rw[hb2] at H2
    generalize ruC q=qc at *
    generalize txt q.who=SW at *
    generalize txt q.tgt=ST at *
    generalize txt q.att=SA at *
    generalize q.rts=x at *
    generalize q.alw=al at *
    subst hAe
    clear hat hq hqm hbx hbr1 hor hbr htk hb1 hb2 x5
    go_wp2_with (go_at_call 42;fail)
    refine (H1.out _ HT1.out).mono ?_
    rintro e w4 ⟨rfl,hb4⟩
    have HX4:=hide (HX.out.grow hb4)
    have HT4:=hide (HT1.out.below hb4)
    have Hbr4:=hide (Hbr1.out.trans (hb4.mono Hbr1.out.size))
    have Hor4:=hide (own_below Hor1.out hb4)
    clear hb4 HX HT1 Hbr1 Hor1 H1 x0 x1 x2 x3 x4 c0 c1 c2 c3 c4
    cases b1 with
    | true=>
     have Hy:=hide (Hyes.out rfl)
     clear Hyes Hno H2 HT4
     obtain⟨x5,x0,x1,x2,x3,x4⟩:=HX4.out
     go_wp2_with (go_at_call 43;fail)
     refine (HCq.out _).mono ?_
     rintro e w6 ⟨rfl,hb6⟩
     have hor6:=own_below Hor4.out hb6
     have hbr6:=Hbr4.out.trans (hb6.mono Hbr4.out.size)
     clear hb6 HX4 Hbr4 Hor4 HCq x0 x1 x2 x3 x4 x5
     have hone:(w6.alloc (.cells #[.string SW,.string ST,.string SA,.int .i64 x,.bool al] 58)).ownsRow w6.heap.size 58 5 (.slice (some ⟨w6.heap.size,0,none⟩) 1 1) 1 [.string SW,.string ST,.string SA,.int .i64 x,.bool al]:=World.ownsRow_lit w6 #[.string SW,.string ST,.string SA,.int .i64 x,.bool al] 1 (Nat.le_refl _) (by unfold maxLen;omega) rfl
     have hH:=Has.own hone
     have h1c:∀u∈([.string SW,.string ST,.string SA,.int .i64 x,.bool al]:List Value),u.oneCell'=true:=by simp[Value.oneCell']
     have hba:=below1 w6 (.cells #[.string SW,.string ST,.string SA,.int .i64 x,.bool al] 58)
     have hor7:=own_below hor6 hba
     have hbr7:=hbr6.trans (hba.mono hbr6.size)
     have hs7:=hbr7.size
     have HB7:=hide hbr7
     clear hone hba hor6 hbr6 hbr7
     go_wp2_with (at_builtin;go_must (refine appRu _ 28 58 _ 5 64 Tryz.underlying28 infoR rfl (by omega) (by omega) rfl (.tmp 27) (.tmp 30) rfl w2.heap.size _ _ _ rfl hor7 _ _ 1 1 [.string SW,.string ST,.string SA,.int .i64 x,.bool al] rfl hH h1c hlen hs7 ?_))
     intro v' w8 hor8 hb8 _
     have HB8:=hide (HB7.out.trans hb8)
     have Hor8:Hid (w8.ownsRow w2.heap.size 58 5 v' ((L.take (i+1)).filter fun r=>underV r.tgt c||underV c r.tgt).length (rusC ((L.take (i+1)).filter fun r=>underV r.tgt c||underV c r.tgt))):=hide (by
      rw[Hy.out.1,Hy.out.2,Hruc.out]
      exact hor8)
     clear hor8 hb8 hor7 hs7 hH h1c HB7 Hy hlen
     go_wp2
     go_roundg k
     case measure=>omega
     case rel=>exact⟨i+1,by omega,by go_num,Hor8,HB8⟩
    | false=>
     obtain⟨x5,x0,x1,x2,x3,x4⟩:=HX4.out
     go_wp2_with (go_at_call 42;fail)
     refine (H2.out _ HT4.out).mono ?_
     rintro e w5 ⟨rfl,hb5⟩
     have HX5:=hide (HX4.out.grow hb5)
     have Hbr5:=hide (Hbr4.out.trans (hb5.mono Hbr4.out.size))
     have Hor5:=hide (own_below Hor4.out hb5)
     clear hb5 HX4 HT4 Hbr4 Hor4 H2 x0 x1 x2 x3 x4 x5
     cases b2 with
     | false=>
      have Hn:Hid (wr.heap.size=wr.heap.size):=hide rfl
      have hno:=Hno.out rfl
      have Hor6:Hid (w5.ownsRow w2.heap.size 58 5 u5 ((L.take (i+1)).filter fun r=>underV r.tgt c||underV c r.tgt).length (rusC ((L.take (i+1)).filter fun r=>underV r.tgt c||underV c r.tgt))):=hide (by rw[hno];exact Hor5.out)
      clear hno Hno Hyes Hor5 HX5 HCq Hn
      go_wp2
      go_roundg k
      case measure=>omega
      case rel=>exact⟨i+1,by omega,by go_num,Hor6,Hbr5⟩
     | true=>
      have Hy:=hide (Hyes.out rfl)
      clear Hyes Hno
      obtain⟨x5,x0,x1,x2,x3,x4⟩:=HX5.out
      go_wp2_with (go_at_call 43;fail)
      refine (HCq.out _).mono ?_
      rintro e w6 ⟨rfl,hb6⟩
      have hor6:=own_below Hor5.out hb6
      have hbr6:=Hbr5.out.trans (hb6.mono Hbr5.out.size)
      clear hb6 HX5 Hbr5 Hor5 HCq x0 x1 x2 x3 x4 x5
      have hone:(w6.alloc (.cells #[.string SW,.string ST,.string SA,.int .i64 x,.bool al] 58)).ownsRow w6.heap.size 58 5 (.slice (some ⟨w6.heap.size,0,none⟩) 1 1) 1 [.string SW,.string ST,.string SA,.int .i64 x,.bool al]:=World.ownsRow_lit w6 #[.string SW,.string ST,.string SA,.int .i64 x,.bool al] 1 (Nat.le_refl _) (by unfold maxLen;omega) rfl
      have hH:=Has.own hone
      have h1c:∀u∈([.string SW,.string ST,.string SA,.int .i64 x,.bool al]:List Value),u.oneCell'=true:=by simp[Value.oneCell']
      have hba:=below1 w6 (.cells #[.string SW,.string ST,.string SA,.int .i64 x,.bool al] 58)
      have hor7:=own_below hor6 hba
      have hbr7:=hbr6.trans (hba.mono hbr6.size)
      have hs7:=hbr7.size
      have HB7:=hide hbr7
      clear hone hba hor6 hbr6 hbr7
      go_wp2_with (at_builtin;go_must (refine appRu _ 28 58 _ 5 64 Tryz.underlying28 infoR rfl (by omega) (by omega) rfl (.tmp 27) (.tmp 30) rfl w2.heap.size _ _ _ rfl hor7 _ _ 1 1 [.string SW,.string ST,.string SA,.int .i64 x,.bool al] rfl hH h1c hlen hs7 ?_))
      intro v' w8 hor8 hb8 _
      have HB8:=hide (HB7.out.trans hb8)
      have Hor8:Hid (w8.ownsRow w2.heap.size 58 5 v' ((L.take (i+1)).filter fun r=>underV r.tgt c||underV c r.tgt).length (rusC ((L.take (i+1)).filter fun r=>underV r.tgt c||underV c r.tgt))):=hide (by
       rw[Hy.out.1,Hy.out.2,Hruc.out]
       exact hor8)
      clear hor8 hb8 hor7 hs7 hH h1c HB7 Hy hlen
      go_wp2
      go_roundg k
      case measure=>omega
      case rel=>exact⟨i+1,by omega,by go_num,Hor8,HB8⟩
 ·rw [Tr_no hP] at hF
  have hRV:restrV L c=[]:=by unfold restrV;rw[if_neg hP]
  rw[hRV]
  have HF:=hide hF
  generalize txt c=S at *
  clear hF hA hT hnl hRV hP hsm hc
  go_enter Tryz.func22,Tryz.ntmps22
  go_wp2_with (go_at_call 34;fail)
  refine HF.out.mono ?_
  rintro e w2 ⟨rfl,hb2⟩
  have HB2:=hide hb2
  clear hb2 HF
  go_wp2
  go_ret
  exact⟨_,rfl,by simpa[rusC] using World.ownsRow_nil _ _ _ _,HB2.out⟩
end Go.Proofs.YtjjepcnijmlliaaGreatDoor
