/- The program's draftOf of nothing: an empty draft. By an AI agent. -/
import Derived.Test.YtiobnllopliclaaGreatDoorDY
set_option maxRecDepth 100000
set_option maxHeartbeats 16000000
namespace Go.Proofs.YtiobnllopliclaaGreatDoor
open Go Go.RowKit Go.Maps
set_option linter.unusedVariables false
set_option linter.unusedSimpArgs false
structure NewDraft (w:World) (e:Ending) (w':World):Prop where
 out:∃d,e=.returned (.pointer (some ⟨d,0,none⟩))∧Draft w' w.heap.size d 0 []∧Below w.heap.size w w'
theorem draft_new (w:World) (t:TypeId):Draft ((w.alloc (.map #[] 0)).alloc (.cells #[.map (some w.heap.size),.int .i64 0] t)) w.heap.size (w.heap.size+1) 0 []:=by
 have hs:(w.alloc (.map #[] 0)).heap.size=w.heap.size+1:=by simp
 have hm:=MapL.made w Tryz.prog 9
 have hb:Below (w.alloc (.map #[] 0)).heap.size (w.alloc (.map #[] 0)) ((w.alloc (.map #[] 0)).alloc (.cells #[.map (some w.heap.size),.int .i64 0] t)):=(Below.refl _ _).alloc (Nat.le_refl _) _
 refine⟨⟨w.heap.size,[],⟨?_,?_,?_,hm.below hm.lt hb,fun t ht=>by simp at ht,by simp,by omega,Nat.le_refl _,fun t ht=>by simp at ht⟩,DraftP.nil,by simp,fun t ht=>by simp at ht⟩⟩
 ·rw [←hs,World.cell?_alloc_at (hn:=by simp)];rfl
 ·rw [←hs,World.cell?_alloc_at (hn:=by simp)];rfl
 ·intro i
  rw[←hs]
  exact World.frozen?_alloc_at _ _ _ _ rfl
theorem draftof_nil (w:World):Calls Tryz.prog 32 #[.slice none 0 0] w (NewDraft w):=by
 have hmm:=@run_makeMap Tryz.prog
 have hD:=draft_new w 87
 have hB:Below w.heap.size w ((w.alloc (.map #[] 0)).alloc (.cells #[.map (some w.heap.size),.int .i64 0] 87)):=((Below.refl _ w).alloc (Nat.le_refl _) _).alloc (by simp) _
 have HD:=hide hD
 have HB:=hide hB
 clear hD hB
 go_enter Tryz.func32,Tryz.ntmps32
 go_wp2
 go_loopg [15] 0 (fun r s15 wx=>s15=.int .i64 0∧wx=(w.alloc (.map #[] 0)).alloc (.cells #[.map (some w.heap.size),.int .i64 0] 87))
 case atStart=>exact⟨rfl,rfl⟩
 case round=>
  obtain⟨rfl,rfl⟩:=hrel
  go_wp2
  go_ret
  exact⟨_,rfl,HD.out,HB.out⟩
end Go.Proofs.YtiobnllopliclaaGreatDoor
