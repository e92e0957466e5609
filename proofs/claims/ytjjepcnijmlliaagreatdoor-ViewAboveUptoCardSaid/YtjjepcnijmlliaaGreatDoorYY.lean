/- Several texts in one: YFew, YRow, YRestr. By an AI agent. -/
import Derived.Test.YtjjepcnijmlliaaGreatDoorYX
import Derived.Test.YtjjepcnijmlliaaGreatDoorVR
set_option maxRecDepth 100000
set_option maxHeartbeats 32000000
namespace Go.Proofs.YtjjepcnijmlliaaGreatDoor
open Go.RowKit Go.Proofs.YtjjepcnijmlliaaGreatDoor.Opens
set_option linter.unusedVariables false
set_option linter.unusedSimpArgs false
def FewY (L:List EN) (R:List Ru) (s:List UInt8):Prop:=nW L≤3000∧FewR R∧s.length≤3000
theorem fewY_any (L:List EN) (R:List Ru) (s:List UInt8) (w:World) (A:Option Addr) (n c:Nat) (xs:List Value) (hA:Has w w.heap.size 2 A n xs) (hL:ENs w w.heap.size xs L) (hn:n≤1048576) (hb:∀e∈L,BulkN e)
  (AR:Option Addr) (m cR:Nat) (hR:Has w w.heap.size 5 AR m (rusC R)) (hf:∀r∈R,FitsR r) (hm:m≤maxLen) (hs:s.length≤1048576):
  Calls Tryz.prog 9 #[.slice A n c,.slice AR m cR,.string (txt s)] w fun e w'=>e=.returned (.bool (Tr (FewY L R s)))∧Below w.heap.size w w':=by
 have hS:=rsmallE_all L w A n c xs hA hL hn hb
 have hF:=few12_any R w AR m cR hR hf hm
 have hsz:=txt_size s
 have HS:=hide hS
 have HF:=hide hF
 clear hS hF hA hL hn hb hR hf hm
 by_cases h1:nW L≤3000
 ·rw [decide_eq_true h1] at HS
  by_cases h2:FewR R
  ·rw [Tr_yes h2] at HF
   by_cases h3:s.length≤3000
   ·rw [Tr_yes ⟨h1,h2,h3⟩]
    have z:((txt s).size:Int)≤(3000:Int):=by omega
    clear h1 h2 h3 hs hsz
    generalize txt s=S at *
    go_enter Tryz.func9,Tryz.ntmps9
    go_wp2_with (go_at_call 25;fail)
    refine HS.out.mono ?_
    rintro e w2 ⟨rfl,hw2⟩
    obtain rfl:=hw2.symm
    clear hw2 HS
    go_wp2_with (go_at_call 26;fail)
    refine HF.out.mono ?_
    rintro e w3 ⟨rfl,hb3⟩
    have HB:=hide hb3
    clear hb3 HF
    go_wp2
    go_ret
    exact⟨rfl,HB.out⟩
   ·rw [Tr_no (show ¬FewY L R s from fun h=>h3 h.2.2)]
    have z:¬((txt s).size:Int)≤(3000:Int):=by omega
    clear h1 h2 h3 hs hsz
    generalize txt s=S at *
    go_enter Tryz.func9,Tryz.ntmps9
    go_wp2_with (go_at_call 25;fail)
    refine HS.out.mono ?_
    rintro e w2 ⟨rfl,hw2⟩
    obtain rfl:=hw2.symm
    clear hw2 HS
    go_wp2_with (go_at_call 26;fail)
    refine HF.out.mono ?_
    rintro e w3 ⟨rfl,hb3⟩
    have HB:=hide hb3
    clear hb3 HF
    go_wp2
    go_ret
    exact⟨by show Ending.returned (.bool (decide _))=_;rw[decide_eq_false (by omega)],HB.out⟩
  ·rw [Tr_no h2] at HF
   rw[Tr_no (show ¬FewY L R s from fun h=>h2 h.2.1)]
   clear h1 h2 hs hsz
   generalize txt s=S at *
   go_enter Tryz.func9,Tryz.ntmps9
   go_wp2_with (go_at_call 25;fail)
   refine HS.out.mono ?_
   rintro e w2 ⟨rfl,hw2⟩
   obtain rfl:=hw2.symm
   clear hw2 HS
   go_wp2_with (go_at_call 26;fail)
   refine HF.out.mono ?_
   rintro e w3 ⟨rfl,hb3⟩
   have HB:=hide hb3
   clear hb3 HF
   go_wp2
   go_ret
   exact⟨rfl,HB.out⟩
 ·rw [decide_eq_false h1] at HS
  rw[Tr_no (show ¬FewY L R s from fun h=>h1 h.1)]
  clear h1 hs hsz HF
  generalize txt s=S at *
  go_enter Tryz.func9,Tryz.ntmps9
  go_wp2_with (go_at_call 25;fail)
  refine HS.out.mono ?_
  rintro e w2 ⟨rfl,hw2⟩
  obtain rfl:=hw2.symm
  clear hw2 HS
  go_wp2
  go_ret
  exact⟨rfl,Below.refl _ _⟩
theorem Blk.has {w:World} {h:Nat} {us:List Value} (t:Blk w h us) (size n:Nat) (hl:us.length=n*size):Has w w.heap.size size (some ⟨h,0,none⟩) n us:=
 ⟨hl,.inr ⟨_,rfl,t.lt,fun j u hu=>by
  have:=t.cells j u hu
  rwa [show (⟨h,0,none⟩:Addr).add j=⟨h,j,none⟩ by unfold Addr.add;split<;>simp_all]⟩⟩
theorem awakeY_any (w:World) (hT:TM w):
  Calls Tryz.prog 8 #[] w fun e w'=>e=.returned (.bool true)∧Below w.heap.size w w':=by
 have hb1:=below1 w (.cells #[.string ⟨#[120]⟩] 9)
 have hX1:Blk (w.alloc (.cells #[.string ⟨#[120]⟩] 9)) w.heap.size [.string ⟨#[120]⟩]:=Blk.new w [.string ⟨#[120]⟩] 9
 obtain⟨w1,hw1⟩:∃w1,w.alloc (.cells #[.string ⟨#[120]⟩] 9)=w1:=⟨_,rfl⟩
 have hs1:w1.heap.size=w.heap.size+1:=by rw[←hw1];simp
 rw[hw1] at hb1 hX1
 have hb2:=below1 w1 (.cells #[.string ⟨#[111]⟩] 9)
 have hX2:Blk (w1.alloc (.cells #[.string ⟨#[111]⟩] 9)) w1.heap.size [.string ⟨#[111]⟩]:=Blk.new w1 [.string ⟨#[111]⟩] 9
 obtain⟨w2,hw2⟩:∃w2,w1.alloc (.cells #[.string ⟨#[111]⟩] 9)=w2:=⟨_,rfl⟩
 have hs2:w2.heap.size=w.heap.size+2:=by rw[←hw2];simp[hs1]
 rw[hw2] at hb2 hX2
 rw[hs1] at hX2
 have hb3:=below1 w2 (.cells #[.string ⟨#[100,99]⟩,.slice (some ⟨w.heap.size,0,none⟩) 1 1,.string ⟨#[111,98,106,101,99,116,67,108,97,115,115]⟩,.slice (some ⟨w.heap.size+1,0,none⟩) 1 1] 42)
 have hX3:Blk (w2.alloc (.cells #[.string ⟨#[100,99]⟩,.slice (some ⟨w.heap.size,0,none⟩) 1 1,.string ⟨#[111,98,106,101,99,116,67,108,97,115,115]⟩,.slice (some ⟨w.heap.size+1,0,none⟩) 1 1] 42)) w2.heap.size [.string ⟨#[100,99]⟩,.slice (some ⟨w.heap.size,0,none⟩) 1 1,.string ⟨#[111,98,106,101,99,116,67,108,97,115,115]⟩,.slice (some ⟨w.heap.size+1,0,none⟩) 1 1]:=Blk.new w2 [.string ⟨#[100,99]⟩,.slice (some ⟨w.heap.size,0,none⟩) 1 1,.string ⟨#[111,98,106,101,99,116,67,108,97,115,115]⟩,.slice (some ⟨w.heap.size+1,0,none⟩) 1 1] 42
 obtain⟨w3,hw3⟩:∃w3,w2.alloc (.cells #[.string ⟨#[100,99]⟩,.slice (some ⟨w.heap.size,0,none⟩) 1 1,.string ⟨#[111,98,106,101,99,116,67,108,97,115,115]⟩,.slice (some ⟨w.heap.size+1,0,none⟩) 1 1] 42)=w3:=⟨_,rfl⟩
 have hs3:w3.heap.size=w.heap.size+3:=by rw[←hw3];simp[hs2]
 rw[hw3] at hb3 hX3
 rw[hs2] at hX3
 have hb4:=below1 w3 (.cells #[.string ⟨#[100,99,61,120]⟩,.slice (some ⟨w.heap.size+2,0,none⟩) 2 2] 33)
 have hX4:Blk (w3.alloc (.cells #[.string ⟨#[100,99,61,120]⟩,.slice (some ⟨w.heap.size+2,0,none⟩) 2 2] 33)) w3.heap.size [.string ⟨#[100,99,61,120]⟩,.slice (some ⟨w.heap.size+2,0,none⟩) 2 2]:=Blk.new w3 [.string ⟨#[100,99,61,120]⟩,.slice (some ⟨w.heap.size+2,0,none⟩) 2 2] 33
 obtain⟨w4,hw4⟩:∃w4,w3.alloc (.cells #[.string ⟨#[100,99,61,120]⟩,.slice (some ⟨w.heap.size+2,0,none⟩) 2 2] 33)=w4:=⟨_,rfl⟩
 have hs4:w4.heap.size=w.heap.size+4:=by rw[←hw4];simp[hs3]
 rw[hw4] at hb4 hX4
 rw[hs3] at hX4
 have hb5:=below1 w4 (.cells #[.string ⟨#[42]⟩,.string ⟨#[]⟩,.string ⟨#[]⟩,.int .i64 1,.bool true] 58)
 have hX5:Blk (w4.alloc (.cells #[.string ⟨#[42]⟩,.string ⟨#[]⟩,.string ⟨#[]⟩,.int .i64 1,.bool true] 58)) w4.heap.size (rusC allR):=Blk.new w4 [.string ⟨#[42]⟩,.string ⟨#[]⟩,.string ⟨#[]⟩,.int .i64 1,.bool true] 58
 obtain⟨w5,hw5⟩:∃w5,w4.alloc (.cells #[.string ⟨#[42]⟩,.string ⟨#[]⟩,.string ⟨#[]⟩,.int .i64 1,.bool true] 58)=w5:=⟨_,rfl⟩
 rw[hw5] at hb5 hX5
 rw[hs4] at hX5
 have hY1:=(((hX1.grow hb2).grow hb3).grow hb4).grow hb5
 have hY2:=((hX2.grow hb3).grow hb4).grow hb5
 have hY3:=(hX3.grow hb4).grow hb5
 have hbb:Below w.heap.size w w5:=(((hb1.trans (hb2.mono (by omega))).trans (hb3.mono (by omega))).trans (hb4.mono (by omega))).trans (hb5.mono (by omega))
 have h1:=hY1.has 1 1 rfl
 have h2:=hY2.has 1 1 rfl
 have h3:=hY3.has 2 2 rfl
 have h5:=hX5.has 5 1 rfl
 have hE:EAs w5 w5.heap.size [.string ⟨#[100,99]⟩,.slice (some ⟨w.heap.size,0,none⟩) 1 1,.string ⟨#[111,98,106,101,99,116,67,108,97,115,115]⟩,.slice (some ⟨w.heap.size+1,0,none⟩) 1 1] awE:=⟨rfl,fun i a ha=>by
  match i,ha with
  | 0,ha=>obtain rfl:=Option.some.inj ha;exact⟨_,1,rfl,rfl,by decide,by unfold maxLen;omega,h1⟩
  | 1,ha=>obtain rfl:=Option.some.inj ha;exact⟨_,1,rfl,rfl,by decide,by unfold maxLen;omega,h2⟩
  | k+2,ha=>cases ha⟩
 have hO:=pone_any allR [] [100,99,61,120] awE w5 _ 1 1 h5 (fun r hr=>by
  obtain rfl:=List.mem_singleton.1 hr
  unfold Ru.small
  decide) (by decide) (by decide) (by decide) _ 2 2 _ h3 hE (by decide) (fun a ha=>by
  rcases List.mem_cons.1 ha with rfl | ha
  ·exact ⟨by decide,by decide⟩
  ·obtain rfl:=List.mem_singleton.1 ha
   exact⟨by decide,by decide⟩) (hT.below hbb)
 rw[view_awake] at hO
 have x0:=hX4.grow hb5
 have y0:=x0.cells 0 _ rfl
 have y1:=x0.cells 1 _ rfl
 change Calls Tryz.prog 14 #[.agg #[.string ⟨#[100,99,61,120]⟩,.slice (some ⟨w.heap.size+2,0,none⟩) 2 2],.slice (some ⟨w.heap.size+4,0,none⟩) 1 1,.string ⟨#[]⟩] w5 (OnePost (some ([100,99,61,120],awE)) w5) at hO
 have HO:=hide hO
 have HB:=hide hbb
 have z4:=hX4.cells 0 _ rfl
 have z5:=hX4.cells 1 _ rfl
 have Hw:=hide (And.intro hw1 (And.intro hw2 (And.intro hw3 (And.intro hw4 hw5))))
 have Hs:=hide (And.intro hs1 (And.intro hs2 (And.intro hs3 hs4)))
 clear hO hbb hE h1 h2 h3 h5 hY1 hY2 hY3 hX1 hX2 hX3 hX4 hX5 hb1 hb2 hb3 hb4 hb5 hw1 hw2 hw3 hw4 hw5 hs1 hs2 hs3 hs4 hT x0 y0 y1
 go_enter Tryz.func8,Tryz.ntmps8
 go_upto_region 2 with fail
 rw[Hw.out.1]
 try rw[Hs.out.1]
 rw[Hw.out.2.1]
 try rw[Hs.out.2.1]
 rw[Hw.out.2.2.1]
 try rw[Hs.out.2.2.1]
 rw[Hw.out.2.2.2.1]
 try rw[Hs.out.2.2.2]
 have Hw5:=hide Hw.out.2.2.2.2
 go_wp2_with (go_at_call 14;fail)
 try rw[Hw5.out]
 try rw[Hs.out.2.2.2]
 refine HO.out.mono ?_
 rintro e w6 hpost
 obtain⟨A6,c6,ys6,rfl,_,_,_,_,hb6⟩:=one_some hpost
 have HB6:=hide (HB.out.trans (hb6.mono HB.out.size))
 have hl:awE.length=2:=rfl
 have ht:txt [100,99,61,120]=(⟨#[100,99,61,120]⟩:ByteArray):=rfl
 simp only[hl,ht]
 clear hpost hb6 HO HB Hw Hs Hw5 z4 z5 hl ht
 have hbx:=below1 w6 (.cells #[.string ⟨#[100,99,61,120]⟩,.slice A6 2 c6] 33)
 have hXe:=BoxE.new w6 ⟨#[100,99,61,120]⟩ A6 2 c6 33
 have x0:=hXe.c0
 have x1:=hXe.c1
 have HB7:=hide (HB6.out.trans (hbx.mono HB6.out.size))
 have q:((⟨#[100,99,61,120]⟩:ByteArray).toList==[100,99,61,120])=true:=by
  have:=txt_bytes [100,99,61,120]
  show ((txt [100,99,61,120]).toList==_)=true
  rw[this]
  decide
 clear hbx hXe HB6
 go_wp2
 go_ret
 exact⟨rfl,HB7.out⟩
end Go.Proofs.YtjjepcnijmlliaaGreatDoor
namespace Go.Proofs.YtjjepcnijmlliaaGreatDoor
open Go.RowKit
set_option linter.unusedVariables false
set_option linter.unusedSimpArgs false
theorem ENs.snoc {w:World} {B:Nat} {xs:List Value} {L:List EN} (h:ENs w B xs L) {a:EN} {A:Option Addr} {c:Nat} {ys:List Value} (hc:a.2.length≤c) (hm:c≤maxLen) (hH:Has w B 2 A a.2.length ys) (hE:EAs w B ys a.2):ENs w B (xs++[.string (txt a.1),.slice A a.2.length c]) (L++[a]):=
 (h.ensP.snoc hc hm hH.hasP hE.easP).ens fun b hb=>hb
section
variable {w w':World} {B base:Nat} {E:TypeId} {v v':Value} {zs:List Value} {L:List EN}
end
theorem EntsPost.read {X:List EN} {w w':World} {e:Ending} (h:EntsPost X w e w'):∃A c ys,e=.returned (.slice A X.length c)∧X.length≤c∧c≤maxLen∧Has w' w'.heap.size 2 A X.length ys∧ENs w' w'.heap.size ys X∧Below w.heap.size w w':=by
 obtain⟨A,c,ys,h1,h2,h3,h4,h5,h6⟩:=h.out
 exact⟨A,c,ys,h1,h2,h3,h4.has fun b hb=>hb.2,h5.ens fun b hb=>hb.2,h6⟩
theorem wee_of_small {L:List EN} (h:SmallN L):∀e∈L,WeeN e:=fun e he=>⟨by have:=h.name e he;omega,by have:=h.attrs e he;omega,fun a ha=>⟨by have:=(h.each e he a ha).1;omega,fun u hu=>by have:=(h.each e he a ha).2 u hu;omega⟩⟩
def TypesN (L:List EN):Prop:=∀e∈L,∀a∈e.2,a.1.length≤1048576
end Go.Proofs.YtjjepcnijmlliaaGreatDoor
namespace Go.Proofs.YtjjepcnijmlliaaGreatDoor
open Go Go.RowKit
set_option linter.unusedVariables false
set_option linter.unusedSimpArgs false
end Go.Proofs.YtjjepcnijmlliaaGreatDoor
