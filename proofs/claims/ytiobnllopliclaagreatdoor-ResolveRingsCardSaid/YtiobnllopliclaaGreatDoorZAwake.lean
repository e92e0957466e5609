/- What the statements of layer 13 ask of first. By an AI agent. -/
import Derived.Test.YtiobnllopliclaaGreatDoorZFind
import Derived.Test.YtiobnllopliclaaGreatDoorZAwM
import Derived.Test.YtiobnllopliclaaGreatDoorBlkG
set_option maxRecDepth 100000
set_option maxHeartbeats 32000000
namespace Go.Proofs.YtiobnllopliclaaGreatDoor
open Go.RowKit
set_option linter.unusedVariables false
set_option linter.unusedSimpArgs false
theorem Blk.hasZ {w:World} {h:Nat} {us:List Value} (t:Blk w h us) (size n:Nat) (hl:us.length=n*size):Has w w.heap.size size (some ⟨h,0,none⟩) n us:=
 ⟨hl,.inr ⟨_,rfl,t.lt,fun j u hu=>by
  have:=t.cells j u hu
  rwa [show (⟨h,0,none⟩:Addr).add j=⟨h,j,none⟩ by unfold Addr.add;split<;>simp_all]⟩⟩
theorem awakeZ_any (w:World) (hT:TM w):
  Calls Tryz.prog 20 #[] w fun e w'=>e=.returned (.bool true)∧Below w.heap.size w w':=by
 have hb1:=below1 w (.cells #[.string ⟨#[79,85,61,98]⟩] 9)
 have hX1:Blk (w.alloc (.cells #[.string ⟨#[79,85,61,98]⟩] 9)) w.heap.size [.string ⟨#[79,85,61,98]⟩]:=Blk.new w [.string ⟨#[79,85,61,98]⟩] 9
 obtain⟨w1,hw1⟩:∃w1,w.alloc (.cells #[.string ⟨#[79,85,61,98]⟩] 9)=w1:=⟨_,rfl⟩
 have hs1:w1.heap.size=w.heap.size+1:=by rw[←hw1];simp
 rw[hw1] at hb1 hX1
 have hb2:=below1 w1 (.cells #[.string ⟨#[97,108,105,97,115]⟩] 9)
 have hX2:Blk (w1.alloc (.cells #[.string ⟨#[97,108,105,97,115]⟩] 9)) w1.heap.size [.string ⟨#[97,108,105,97,115]⟩]:=Blk.new w1 [.string ⟨#[97,108,105,97,115]⟩] 9
 obtain⟨w2,hw2⟩:∃w2,w1.alloc (.cells #[.string ⟨#[97,108,105,97,115]⟩] 9)=w2:=⟨_,rfl⟩
 have hs2:w2.heap.size=w.heap.size+2:=by rw[←hw2];simp[hs1]
 rw[hw2] at hb2 hX2
 rw[hs1] at hX2
 obtain⟨us,hus⟩:∃us:List Value,[.string ⟨#[97,108,105,97,115,101,100,79,98,106,101,99,116,78,97,109,101]⟩,.slice (some ⟨w.heap.size,0,none⟩) 1 1,.string ⟨#[111,98,106,101,99,116,67,108,97,115,115]⟩,.slice (some ⟨w.heap.size+1,0,none⟩) 1 1]=us:=⟨_,rfl⟩
 have hb3:=below1 w2 (.cells us.toArray 52)
 have hX3:Blk (w2.alloc (.cells us.toArray 52)) w2.heap.size us:=Blk.new w2 us 52
 obtain⟨w3,hw3⟩:∃w3,w2.alloc (.cells us.toArray 52)=w3:=⟨_,rfl⟩
 have hs3:w3.heap.size=w.heap.size+3:=by rw[←hw3];simp[hs2]
 rw[hw3] at hb3 hX3
 rw[hs2] at hX3
 obtain⟨vs,hvs⟩:∃vs:List Value,[.string ⟨#[99,110,61,97,108]⟩,.slice (some ⟨w.heap.size+2,0,none⟩) 2 2,.string ⟨#[99,110,61,120,44,111,117,61,98]⟩,.slice none 0 0]=vs:=⟨_,rfl⟩
 have hb4:=below1 w3 (.cells vs.toArray 26)
 have hX4:Blk (w3.alloc (.cells vs.toArray 26)) w3.heap.size vs:=Blk.new w3 vs 26
 obtain⟨w4,hw4⟩:∃w4,w3.alloc (.cells vs.toArray 26)=w4:=⟨_,rfl⟩
 rw[hw4] at hb4 hX4
 rw[hs3] at hX4
 have hY1:=((hX1.grow hb2).grow hb3).grow hb4
 have hY2:=(hX2.grow hb3).grow hb4
 have hY3:=hX3.grow hb4
 have hbb:Below w.heap.size w w4:=((hb1.trans (hb2.mono (by omega))).trans (hb3.mono (by omega))).trans (hb4.mono (by omega))
 have h1:=hY1.hasZ 1 1 rfl
 have h2:=hY2.hasZ 1 1 rfl
 have h3:=hY3.hasZ 2 2 (by rw[←hus];rfl)
 have h4:=hX4.hasZ 2 2 (by rw[←hvs];rfl)
 have hE:EAs w4 w4.heap.size us [(aliT,[zOU]),(clsT,[aliC])]:=by
  rw[←hus]
  refine⟨rfl,fun i a ha=>?_⟩
  match i,ha with
  | 0,ha=>obtain rfl:=Option.some.inj ha;exact⟨_,1,rfl,rfl,by decide,by unfold maxLen;omega,h1⟩
  | 1,ha=>obtain rfl:=Option.some.inj ha;exact⟨_,1,rfl,rfl,by decide,by unfold maxLen;omega,h2⟩
  | k+2,ha=>cases ha
 have hL:ENs w4 w4.heap.size vs awZ:=by
  rw[←hvs]
  refine⟨rfl,fun i e he=>?_⟩
  match i,he with
  | 0,he=>obtain rfl:=Option.some.inj he;exact⟨_,2,us,rfl,rfl,by decide,by unfold maxLen;omega,h3,hE⟩
  | 1,he=>obtain rfl:=Option.some.inj he;exact⟨none,0,[],rfl,rfl,by decide,by unfold maxLen;omega,Has.nil,EAs.nil⟩
  | k+2,he=>cases he
 have hwe:∀e∈awZ,WeeZ e:=fun e he=>by
  rcases List.mem_cons.1 he with rfl | he
  ·refine ⟨by decide,by decide,fun a ha=>?_⟩
   rcases List.mem_cons.1 ha with rfl | ha
   ·exact ⟨by decide,by decide⟩
   ·obtain rfl:=List.mem_singleton.1 ha
    exact⟨by decide,by decide⟩
  ·obtain rfl:=List.mem_singleton.1 he
   exact⟨by decide,by decide,fun a ha=>by cases ha⟩
 have hno:∀e∈awZ,normT e.1=(e.1,0):=fun e he=>by
  rcases List.mem_cons.1 he with rfl | he
  ·show normT zAl=(zAl,0)
   rw[norm_yes' ps_al];rfl
  ·obtain rfl:=List.mem_singleton.1 he
   exact nm_XO
 have hF:=pfind_any awZ zXA true w4 _ 2 2 vs h4 hL (by decide) hwe hno (by decide) (hT.below hbb)
 rw[find_aw] at hF
 change Calls Tryz.prog 24 #[.slice (some ⟨w.heap.size+3,0,none⟩) 2 2,.string ⟨#[67,78,61,120,44,99,110,61,97,108]⟩,.bool true] w4 (fun e w'=>e=.returned (.tuple #[.string (txt zXO),.bool true,.int .i64 0])∧Below w4.heap.size w4 w') at hF
 have q:((txt zXO).toList==[99,110,61,120,44,111,117,61,98])=true:=by
  rw[txt_bytes]
  decide
 generalize txt zXO=ZX at *
 subst hus
 subst hvs
 have HF:=hide hF
 have HB:=hide hbb
 have Hw:=hide (And.intro hw1 (And.intro hw2 (And.intro hw3 hw4)))
 have Hs:=hide (And.intro hs1 (And.intro hs2 hs3))
 clear hF hbb hE hL h1 h2 h3 h4 hY1 hY2 hY3 hX1 hX2 hX3 hX4 hb1 hb2 hb3 hb4 hw1 hw2 hw3 hw4 hs1 hs2 hs3 hT hwe hno
 go_enter Tryz.func20,Tryz.ntmps20
 go_upto_region 2 with fail
 rw[Hw.out.1]
 try rw[Hs.out.1]
 rw[Hw.out.2.1]
 try rw[Hs.out.2.1]
 rw[Hw.out.2.2.1]
 try rw[Hs.out.2.2]
 rw[Hw.out.2.2.2]
 go_wp2_with (go_at_call 24;fail)
 try rw[Hs.out.2.2]
 refine HF.out.mono ?_
 rintro e w6 ⟨rfl,hb6⟩
 have HB6:=hide (HB.out.trans (hb6.mono HB.out.size))
 clear hb6 HF HB Hw Hs
 go_wp2
 go_ret
 exact⟨rfl,HB6.out⟩
end Go.Proofs.YtiobnllopliclaaGreatDoor
