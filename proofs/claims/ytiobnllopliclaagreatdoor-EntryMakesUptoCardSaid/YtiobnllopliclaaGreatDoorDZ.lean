/- Several texts in one: DGath, DSet, DSetM. By an AI agent. -/
import Derived.Test.YtiobnllopliclaaGreatDoorDY
import Derived.Test.YtiobnllopliclaaGreatDoorDX
import Derived.Test.YtiobnllopliclaaGreatDoorBlkG
import Derived.Test.YtiobnllopliclaaGreatDoorGrowBB
import Derived.Test.YtiobnllopliclaaGreatDoorYGrowA
namespace Go.Proofs.YtiobnllopliclaaGreatDoor
open Go.RowKit
set_option linter.unusedVariables false
set_option linter.unusedSimpArgs false
structure RF (L:List EA):Prop where
 rise:Rise L
 full:∀a∈L,a.2≠[]
theorem RF.set {L:List EA} (h:RF L) (t:List UInt8) (vs:List (List UInt8)):RF (setE L t vs):=⟨rise_set h.rise t vs,full_set h.full t vs⟩
theorem set_set {L:List EA} (h:RF L) (t:List UInt8) (x y:List (List UInt8)):setE (setE L t x) t y=setE L t y:=
 rise_ext ((h.set t x).set t y).rise (h.set t y).rise ((h.set t x).set t y).full (h.set t y).full fun u=>by
  rw[pick_set,pick_set,pick_set]
  split<;>rfl
theorem set_own {L:List EA} (h:RF L) (t:List UInt8):setE L t (pickE L t)=L:=
 rise_ext (h.set t _).rise h.rise (h.set t _).full h.full fun u=>by
  rw[pick_set]
  split
  ·rename_i e
   rw[e]
  ·rfl
noncomputable def gatherL:List EA→List UInt8→List (List UInt8)→List EA × Int
 | L,t,[]=>(L,0)
 | L,t,v::vs=>if (valV t v).2≠0 then ([],21) else @ite _ (WithinV t (pickE L t) v) (Classical.propDecidable _) ([],20) (gatherL (setE L t (pickE L t++[v])) t vs)
theorem gatherL_is {t:List UInt8}:∀(vs:List (List UInt8)) (L:List EA),RF L→(gatherL L t vs).2=(gatherV t (pickE L t) vs).2∧((gatherL L t vs).2=0→(gatherL L t vs).1=setE L t (gatherV t (pickE L t) vs).1)
 | [],L,h=>by
  unfold gatherL gatherV
  exact⟨rfl,fun _=>(set_own h t).symm⟩
 | v::vs,L,h=>by
  unfold gatherL gatherV
  by_cases h1:(valV t v).2≠0
  ·rw [if_pos h1,if_pos h1]
   exact⟨rfl,fun q=>by simp at q⟩
  ·rw [if_neg h1,if_neg h1]
   by_cases h2:WithinV t (pickE L t) v
   ·rw [if_pos h2,if_pos h2]
    exact⟨rfl,fun q=>by simp at q⟩
   ·rw [if_neg h2,if_neg h2]
    have ih:=gatherL_is (t:=t) vs _ (h.set t (pickE L t++[v]))
    rw[pick_set,if_pos rfl] at ih
    refine⟨ih.1,fun q=>?_⟩
    rw[ih.2 q,set_set h]
noncomputable def gather1 (L:List EA) (a:EA):List EA × Int:=
 if (typ a.1).2=0 then ([],17) else if a.2=[] then ([],19) else gatherL L (typ a.1).1 a.2
noncomputable def gatherA:List EA→List EA→List EA × Int
 | L,[]=>(L,0)
 | L,a::r=>if (gather1 L a).2≠0 then ([],(gather1 L a).2) else gatherA (gather1 L a).1 r
theorem gatherL_rf {t:List UInt8}:∀(vs:List (List UInt8)) (L:List EA),RF L→RF (gatherL L t vs).1:=by
 have h0:RF []:=⟨.nil,fun a ha=>by simp at ha⟩
 intro vs
 induction vs with
 | nil=>intro L h;unfold gatherL;exact h
 | cons v vs ih=>
  intro L h
  unfold gatherL
  split
  ·exact h0
  ·split
   ·exact h0
   ·exact ih _ (h.set t _)
theorem gather1_rf {L:List EA} (h:RF L) (a:EA):RF (gather1 L a).1:=by
 have h0:RF []:=⟨.nil,fun a ha=>by simp at ha⟩
 unfold gather1
 split
 ·exact h0
 ·split
  ·exact h0
  ·exact gatherL_rf _ _ h
theorem gatherA_is:∀(A L:List EA),RF L→gatherA L A=gatherE L A
 | [],L,h=>by unfold gatherA gatherE;rfl
 | a::r,L,h=>by
  unfold gatherA gatherE
  have hr:=gather1_rf h a
  unfold gather1 at hr ⊢
  by_cases h1:(typ a.1).2=0
  ·rw [if_pos h1,if_pos h1,if_pos (by simp)]
  ·rw [if_neg h1] at hr ⊢
   rw[if_neg h1]
   by_cases h2:a.2=[]
   ·rw [if_pos h2,if_pos h2,if_pos (by simp)]
   ·rw [if_neg h2] at hr ⊢
    rw[if_neg h2]
    obtain⟨e1,e2⟩:=gatherL_is (t:=(typ a.1).1) a.2 L h
    simp only
    rw[←e1]
    by_cases h3:(gatherL L (typ a.1).1 a.2).2≠0
    ·rw [if_pos h3,if_pos h3]
    ·rw [if_neg h3,if_neg h3,←e2 (by simpa using h3)]
     exact gatherA_is r _ hr
end Go.Proofs.YtiobnllopliclaaGreatDoor
namespace Go.Proofs.YtiobnllopliclaaGreatDoor
open Go.RowKit
set_option linter.unusedVariables false
set_option linter.unusedSimpArgs false
def stepS (t:List UInt8) (vs:List (List UInt8)) (st:Bool × List EA) (a:EA):Bool × List EA:=
 let s1:Bool × List EA:=if st.1=false∧¬a.1<t then (true,st.2++[(t,vs)]) else st
 if a.1=t then s1 else (s1.1,s1.2++[a])
def endS (t:List UInt8) (vs:List (List UInt8)) (st:Bool × List EA):List EA:=if st.1=true then st.2 else st.2++[(t,vs)]
theorem fold_laid (t:List UInt8) (vs:List (List UInt8)):∀(L acc:List EA),L.foldl (stepS t vs) (true,acc)=(true,acc++L.filter fun b=>decide (b.1≠t))
 | [],acc=>by simp
 | a::L,acc=>by
  rw[List.foldl_cons]
  by_cases h:a.1=t
  ·have:stepS t vs (true,acc) a=(true,acc):=by unfold stepS;simp[h]
   rw[this,fold_laid t vs L acc,List.filter_cons_of_neg (by simpa using h)]
  ·have:stepS t vs (true,acc) a=(true,acc++[a]):=by unfold stepS;simp[h]
   rw[this,fold_laid t vs L (acc++[a]),List.filter_cons_of_pos (by simpa using h),List.append_assoc]
   rfl
theorem fold_not (t:List UInt8) (vs:List (List UInt8)):∀(L acc:List EA),endS t vs (L.foldl (stepS t vs) (false,acc))=acc++insE L t vs
 | [],acc=>by simp[endS,insE]
 | a::L,acc=>by
  rw[List.foldl_cons]
  by_cases hl:a.1<t
  ·have hne:a.1≠t:=fun q=>by rw[q] at hl;exact List.lt_irrefl t hl
   have:stepS t vs (false,acc) a=(false,acc++[a]):=by unfold stepS;simp[hl,hne]
   rw[this,fold_not t vs L (acc++[a])]
   simp[insE,hl]
  ·by_cases h:a.1=t
   ·have:stepS t vs (false,acc) a=(true,acc++[(t,vs)]):=by unfold stepS;simp[h,List.lt_irrefl]
    rw[this,fold_laid]
    unfold endS insE
    rw[if_pos rfl,if_neg hl,List.filter_cons_of_neg (by simpa using h)]
    simp
   ·have:stepS t vs (false,acc) a=(true,acc++[(t,vs)]++[a]):=by unfold stepS;simp[h,hl]
    rw[this,fold_laid]
    unfold endS insE
    rw[if_pos rfl,if_neg hl,List.filter_cons_of_pos (by simpa using h)]
    simp
theorem fold_set (L:List EA) (t:List UInt8) (vs:List (List UInt8)):endS t vs (L.foldl (stepS t vs) (decide (vs=[]),[]))=setE L t vs:=by
 unfold setE
 by_cases h:vs=[]
 ·rw [if_pos h,show decide (vs=[])=true by simp[h],fold_laid]
  unfold endS
  simp
 ·rw [if_neg h,show decide (vs=[])=false by simp[h],fold_not]
  simp
def setAt (L:List EA) (t:List UInt8) (vs:List (List UInt8)) (i:Nat):Bool × List EA:=(L.take i).foldl (stepS t vs) (decide (vs=[]),[])
theorem setAt_succ {L:List EA} {i:Nat} {a:EA} (h:L[i]?=some a) (t:List UInt8) (vs:List (List UInt8)):setAt L t vs (i+1)=stepS t vs (setAt L t vs i) a:=by
 unfold setAt
 rw[List.take_add_one,h]
 simp
theorem setAt_len (L:List EA) (t:List UInt8) (vs:List (List UInt8)) (i:Nat):(setAt L t vs i).2.length≤i+1∧((setAt L t vs i).1=false→(setAt L t vs i).2.length≤i):=by
 induction i with
 | zero=>unfold setAt;simp
 | succ i ih=>
  cases ha:L[i]? with
  | none=>
   have:setAt L t vs (i+1)=setAt L t vs i:=by unfold setAt;rw[List.take_add_one,ha];simp
   rw[this]
   exact⟨by omega,fun q=>by have:=ih.2 q;omega⟩
  | some a=>
   rw[setAt_succ ha]
   generalize setAt L t vs i=st at *
   obtain⟨l,o⟩:=st
   have ih1:o.length≤i+1:=ih.1
   have ih2:l=false→o.length≤i:=ih.2
   clear ih
   unfold stepS
   cases l
   ·have:=ih2 rfl
    by_cases h1:a.1<t<;>by_cases h2:a.1=t<;>simp[h1,h2]<;>omega
   ·by_cases h2:a.1=t<;>simp[h2]<;>omega
end Go.Proofs.YtiobnllopliclaaGreatDoor
namespace Go.Proofs.YtiobnllopliclaaGreatDoor
open Go Go.RowKit
set_option linter.unusedVariables false
set_option linter.unusedSimpArgs false
structure SetL (w w2 wx:World) (SN:ByteArray) (A:Option Addr) (n c:Nat) (Av:Option Addr) (m cv:Nat) (zs:List Value):Prop where
 box:Blk wx w.heap.size [.string SN,.slice A n c]
 res:Blk wx (w.heap.size+1) [.string ⟨#[]⟩,.slice none 0 0]
 out:Blk wx (w.heap.size+2) [.string SN,.slice Av m cv]
 row:wx.ownsRow w2.heap.size 52 2 (.slice Av m cv) m zs
 grown:w2.grownBy wx (some (w.heap.size+2))
theorem SetL.grow {w w2 wx w':World} {SN:ByteArray} {A:Option Addr} {n c:Nat} {Av:Option Addr} {m cv:Nat} {zs:List Value} (h:SetL w w2 wx SN A n c Av m cv zs) (hb:Below wx.heap.size wx w'):SetL w w2 w' SN A n c Av m cv zs:=
 ⟨h.box.grow hb,h.res.grow hb,h.out.grow hb,own_below h.row hb,⟨hb.os.trans h.grown.os,hb.tape.trans h.grown.tape,hb.output.trans h.grown.output,Nat.le_trans h.grown.size hb.size,fun k hk hne=>(hb.block k (Nat.lt_of_lt_of_le hk h.grown.size)).trans (h.grown.block k hk hne)⟩⟩
theorem SetL.next {w w2 wd w7:World} {SN:ByteArray} {A:Option Addr} {n c:Nat} {Av A7:Option Addr} {m cv c7 j:Nat} {zs ys:List Value} (h:SetL w w2 wd SN A n c Av m cv zs) (hs:w2.heap.size=w.heap.size+3) (hb:Below w2.heap.size wd w7) (hR:w7.ownsRow w2.heap.size 52 2 (.slice A7 j c7) j ys):
  SetL w w2 (w7.setCell ⟨w.heap.size+2,1,none⟩ (.slice A7 j c7)) SN A n c A7 j c7 ys:=by
 have hg:=grown_setCell w7 (w.heap.size+2) 1 (.slice A7 j c7)
 have ho:=(h.out.below (by omega) hb).set 1 (.slice A7 j c7) (by simp)
 refine⟨(h.box.below (by omega) hb).grown hg (fun e=>by have:=Option.some.inj e;omega),(h.res.below (by omega) hb).grown hg (fun e=>by have:=Option.some.inj e;omega),ho,hR.kept hg (.inr fun e=>by have:=(hR.lt _ e).1;omega),?_⟩
 exact⟨hg.os.trans (hb.os.trans h.grown.os),hg.tape.trans (hb.tape.trans h.grown.tape),hg.output.trans (hb.output.trans h.grown.output),Nat.le_trans h.grown.size (Nat.le_trans hb.size hg.size),fun k hk hne=>(hg.block k (Nat.lt_of_lt_of_le hk (Nat.le_trans h.grown.size hb.size)) hne).trans ((hb.block k hk).trans (h.grown.block k hk hne))⟩
theorem SetL.keep {w w2 wx:World} {SN:ByteArray} {A:Option Addr} {n c:Nat} {Av:Option Addr} {m cv:Nat} {zs:List Value} (h:SetL w w2 wx SN A n c Av m cv zs) (hb0:Below w.heap.size w w2) (hs:w2.heap.size=w.heap.size+3):Below w.heap.size w wx:=by
 refine hb0.trans ⟨h.grown.os,h.grown.tape,h.grown.output,h.grown.size,fun k hk=>h.grown.block k (by omega) (fun e=>by have:=Option.some.inj e;omega)⟩
end Go.Proofs.YtiobnllopliclaaGreatDoor
