/- Several texts in one: RBoth, RSame, RCmpMath, RCompare, RRCompare, RNearMath, RBare, RNear. By an AI agent. -/
import Derived.Test.YtaolhefllfnmiaaGreatDoorMC
import Derived.OwnWalk
import Derived.Test.YtaolhefllfnmiaaGreatDoorMB
import Derived.Lib.Bytealg
import Derived.Test.YtaolhefllfnmiaaGreatDoorWords
import Derived.Lib.Replace
import Derived.Lib.SplitLaws
import Derived.Lib.IndexBytes
import Derived.Lib.IndexLaws
set_option maxRecDepth 100000
set_option maxHeartbeats 16000000
namespace Go.Proofs.YtaolhefllfnmiaaGreatDoor
open Go.RowKit
set_option linter.unusedVariables false
inductive BothIs (n a b:List UInt8):List UInt8→List UInt8→Int→Prop where
 | fst (h:(norm n a).2≠0):BothIs n a b [] [] (norm n a).2
 | snd (h0:(norm n a).2=0) (h:(norm n b).2≠0):BothIs n a b [] [] (norm n b).2
 | ok (h0:(norm n a).2=0) (h1:(norm n b).2=0):BothIs n a b (norm n a).1 (norm n b).1 0
theorem both_or (n a b:List UInt8):∃x y f,BothIs n a b x y f:=by
 by_cases h0:(norm n a).2=0
 ·by_cases h1:(norm n b).2=0
  ·exact ⟨_,_,_,.ok h0 h1⟩
  ·exact ⟨_,_,_,.snd h0 h1⟩
 ·exact ⟨_,_,_,.fst h0⟩
theorem norm_is {n v:List UInt8} (h:(norm n v).2=0):(1≤(typ n).2∧(typ n).2≤4)∧((typ n).2=3→∃p,IsInt (norm n v).1 p)∧((typ n).2=4→∃a b,Small a∧Small b∧(norm n v).1=text a b):=by
 cases road n v with
 | none _ r=>rw[r] at h;simp at h
 | name _ r=>rw[r] at h;simp at h
 | short _ _ r=>rw[r] at h;simp at h
 | long _ _ r=>rw[r] at h;simp at h
 | form _ _ _ r=>rw[r] at h;simp at h
 | text ht k f r=>exact⟨by omega,fun e=>(by omega),fun e=>(by omega)⟩
 | same hh k f r=>
  rw[r]
  exact⟨by omega,fun e=>f.nu e,fun e=>f.pl e⟩
theorem both_cases {n a b x y:List UInt8} {f:Int} (h:BothIs n a b x y f):(f≠0∧x=[]∧y=[]∧¬((norm n a).2=0∧(norm n b).2=0))∨(f=0∧(norm n a).2=0∧(norm n b).2=0∧x=(norm n a).1∧y=(norm n b).1):=by
 cases h with
 | fst h=>exact Or.inl ⟨h,rfl,rfl,fun k=>h k.1⟩
 | snd _ h=>exact Or.inl ⟨h,rfl,rfl,fun k=>h k.2⟩
 | ok h0 h1=>exact Or.inr ⟨rfl,h0,h1,rfl,rfl⟩
theorem both_len {n a b x y:List UInt8} {f:Int} (h:BothIs n a b x y f):x.length≤200∧y.length≤200:=by
 rcases both_cases h with⟨_,rfl,rfl,_⟩ | ⟨_,_,_,rfl,rfl⟩
 ·simp
 ·exact ⟨norm_len _ _,norm_len _ _⟩
theorem both_any (n a b:ByteArray) (ha:a.size≤281474976710656) (hb:b.size≤281474976710656) (x y:List UInt8) (f:Int) (h:BothIs n.data.toList a.data.toList b.data.toList x y f) (w:World) (hT:TT w):
  Calls Tryz.prog 120 #[.string n,.string a,.string b] w fun e w'=>e=.returned (.tuple #[.string (txt x),.string (txt y),.int .i64 f])∧Below w.heap.size w w':=by
 have hA:=fun w hT=>normal_any n a ha w hT
 have hB:=fun w hT=>normal_any n b hb w hT
 cases h with
 | fst h=>
  have hz:((norm n.data.toList a.data.toList).2==0)=false:=beq_false_of_ne h
  generalize txt (norm n.data.toList a.data.toList).1=X at *
  generalize (norm n.data.toList a.data.toList).2=q at *
  clear h hB
  go_enter Tryz.func120,Tryz.ntmps120
  go_wp2_with (go_at_call 116;fail)
  refine (hA _ hT).mono ?_
  rintro e w1 ⟨rfl,hb1⟩
  go_wp2
  go_ret3
  exact⟨rfl,hb1⟩
 | snd h0 h=>
  simp only[h0] at hA
  have hz:((norm n.data.toList b.data.toList).2==0)=false:=beq_false_of_ne h
  generalize txt (norm n.data.toList a.data.toList).1=X at *
  generalize txt (norm n.data.toList b.data.toList).1=Y at *
  generalize (norm n.data.toList b.data.toList).2=q at *
  clear h h0
  go_enter Tryz.func120,Tryz.ntmps120
  go_wp2_with (go_at_call 116;fail)
  refine (hA _ hT).mono ?_
  rintro e w1 ⟨rfl,hb1⟩
  go_wp2_with (go_at_call 116;fail)
  refine (hB _ (hT.below hb1)).mono ?_
  rintro e w2 ⟨rfl,hb2⟩
  go_wp2
  go_ret3
  exact⟨rfl,hb1.trans (hb2.mono hb1.size)⟩
 | ok h0 h1=>
  simp only[h0] at hA
  simp only[h1] at hB
  generalize txt (norm n.data.toList a.data.toList).1=X at *
  generalize txt (norm n.data.toList b.data.toList).1=Y at *
  clear h0 h1
  go_enter Tryz.func120,Tryz.ntmps120
  go_wp2_with (go_at_call 116;fail)
  refine (hA _ hT).mono ?_
  rintro e w1 ⟨rfl,hb1⟩
  go_wp2_with (go_at_call 116;fail)
  refine (hB _ (hT.below hb1)).mono ?_
  rintro e w2 ⟨rfl,hb2⟩
  go_wp2
  go_ret3
  exact⟨rfl,hb1.trans (hb2.mono hb1.size)⟩
end Go.Proofs.YtaolhefllfnmiaaGreatDoor
namespace Go.Proofs.YtaolhefllfnmiaaGreatDoor
open Go.RowKit
set_option linter.unusedVariables false
end Go.Proofs.YtaolhefllfnmiaaGreatDoor
namespace Go.Proofs.YtaolhefllfnmiaaGreatDoor
open Go.RowKit
set_option linter.unusedVariables false
def cmpQ (a b c d:Int):Int:=cmp3 (a*a+b*b) a b (c*c+d*d) c d
inductive CmpIs (n a b:List UInt8):List UInt8→List UInt8→Int→Int→Prop where
 | err {f:Int} (h:BothIs n a b [] [] f) (hf:f≠0):CmpIs n a b [] [] 0 f
 | int {x y:List UInt8} {p q:Int} (ht:(typ n).2=3) (h:BothIs n a b x y 0) (hp:IsInt x p) (hq:IsInt y q):CmpIs n a b x y (cmpI p q) 0
 | plane {x y:List UInt8} {p q r s:Int} (ht:(typ n).2=4) (h:BothIs n a b x y 0) (hp:Small p) (hq:Small q) (hr:Small r) (hs:Small s) (hx:x=text p q) (hy:y=text r s):CmpIs n a b x y (cmpQ p q r s) 0
 | text {x y:List UInt8} (ht:(typ n).2=1∨(typ n).2=2) (h:BothIs n a b x y 0):CmpIs n a b x y (Lib.compareBytes x y) 0
theorem cmp_or (n a b:List UInt8):∃x y c f,CmpIs n a b x y c f:=by
 obtain⟨x,y,f,h⟩:=both_or n a b
 rcases both_cases h with⟨hf,rfl,rfl,_⟩ | ⟨rfl,h0,h1,hx,hy⟩
 ·exact ⟨_,_,_,_,.err h hf⟩
 ·obtain ⟨hr,h3,h4⟩:=norm_is h0
  obtain⟨_,k3,k4⟩:=norm_is h1
  have:((typ n).2=1∨(typ n).2=2)∨(typ n).2=3∨(typ n).2=4:=by omega
  rcases this with e | e | e
  ·exact ⟨_,_,_,_,.text e h⟩
  ·obtain ⟨p,hp⟩:=h3 e
   obtain⟨q,hq⟩:=k3 e
   rw[←hx] at hp
   rw[←hy] at hq
   exact⟨_,_,_,_,.int e h hp hq⟩
  ·obtain ⟨p,q,hp,hq,ex⟩:=h4 e
   obtain⟨r,s,hr',hs,ey⟩:=k4 e
   rw[←hx] at ex
   rw[←hy] at ey
   exact⟨_,_,_,_,.plane e h hp hq hr' hs ex ey⟩
end Go.Proofs.YtaolhefllfnmiaaGreatDoor
namespace Go.Proofs.YtaolhefllfnmiaaGreatDoor
open Go.RowKit
set_option linter.unusedVariables false
theorem rcmp_any (n a b:ByteArray) (ha:a.size≤281474976710656) (hb:b.size≤281474976710656) (x y:List UInt8) (c f:Int) (h:CmpIs n.data.toList a.data.toList b.data.toList x y c f) (w:World) (hT:TT w):
  Calls Tryz.prog 97 #[.string n,.string a,.string b] w fun e w'=>e=.returned (.tuple #[.int .i64 c,.int .i64 f])∧Below w.heap.size w w':=by
 have hTy:=fun w hT=>type_any n w hT
 cases h with
 | err h hf=>
  have hB:=fun w hT=>both_any n a b ha hb _ _ _ h w hT
  have hz:(f==0)=false:=beq_false_of_ne hf
  generalize txt []=X at *
  clear h hTy
  go_enter Tryz.func97,Tryz.ntmps97
  go_wp2_with (go_at_call 120;fail)
  refine (hB _ hT).mono ?_
  rintro e w1 ⟨rfl,hb1⟩
  have hc1:=hb1
  go_wp2
  go_ret2
  exact⟨rfl,hc1⟩
 | @int x y p q ht h hp hq=>
  have hB:=fun w hT=>both_any n a b ha hb _ _ _ h w hT
  have hlen:=both_len h
  have hI:=fun w hT=>integer_yes (txt x) (by rw[txt_size];omega) p (by rw[txt_toList];exact hp) w hT
  have hJ:=fun w hT=>integer_yes (txt y) (by rw[txt_size];omega) q (by rw[txt_toList];exact hq) w hT
  have hC:=fun w=>cmp_int p q w
  simp only[ht] at hTy
  generalize txt (typ n.data.toList).1=Z at *
  generalize txt x=X at *
  generalize txt y=Y at *
  generalize cmpI p q=C at *
  clear h ht hp hq hlen
  go_enter Tryz.func97,Tryz.ntmps97
  go_wp2_with (go_at_call 120;fail)
  refine (hB _ hT).mono ?_
  rintro e w1 ⟨rfl,hb1⟩
  have hc1:=hb1
  go_wp2_with (go_at_call 69;fail)
  refine (hTy _ (hT.below hc1).types).mono ?_
  rintro e w2 ⟨rfl,hb2⟩
  have hc2:=hc1.trans (hb2.mono hc1.size)
  go_wp2_with (go_at_call 121;fail)
  refine (hI _ (hT.below hc2).tabs).mono ?_
  rintro e w3 ⟨rfl,hb3⟩
  have hc3:=hc2.trans (hb3.mono hc2.size)
  go_wp2_with (go_at_call 121;fail)
  refine (hJ _ (hT.below hc3).tabs).mono ?_
  rintro e w4 ⟨rfl,hb4⟩
  have hc4:=hc3.trans (hb4.mono hc3.size)
  go_wp2_with (go_at_call 122;fail)
  refine (hC _).mono ?_
  rintro e w5 ⟨rfl,rfl⟩
  have hc5:=hc4
  go_wp2
  go_ret2
  exact⟨rfl,hc5⟩
 | @plane x y p q r s ht h hp hq hr hs hx hy=>
  have hB:=fun w hT=>both_any n a b ha hb _ _ _ h w hT
  have hlen:=both_len h
  have hP:=fun w hT=>parse_yes (txt x) (by rw[txt_size];omega) p q hp hq (by rw[txt_toList];exact hx) w hT
  have hQ:=fun w hT=>parse_yes (txt y) (by rw[txt_size];omega) r s hr hs (by rw[txt_toList];exact hy) w hT
  have hC:=fun w=>compare_num (fl p) (fl q) (fl r) (fl s) p q r s (num_fl hp hq) (num_fl hr hs) w
  simp only[ht] at hTy
  generalize txt (typ n.data.toList).1=Z at *
  generalize txt x=X at *
  generalize txt y=Y at *
  have hcp:cmpP p q r s=cmpQ p q r s:=rfl
  rw[hcp] at hC
  generalize cmpQ p q r s=C at *
  generalize fl p=P at *
  generalize fl q=Q at *
  generalize fl r=R at *
  generalize fl s=S at *
  clear h ht hp hq hr hs hx hy hlen hcp
  go_enter Tryz.func97,Tryz.ntmps97
  go_wp2_with (go_at_call 120;fail)
  refine (hB _ hT).mono ?_
  rintro e w1 ⟨rfl,hb1⟩
  have hc1:=hb1
  go_wp2_with (go_at_call 69;fail)
  refine (hTy _ (hT.below hc1).types).mono ?_
  rintro e w2 ⟨rfl,hb2⟩
  have hc2:=hc1.trans (hb2.mono hc1.size)
  go_wp2_with (go_at_call 123;fail)
  refine (hP _ (hT.below hc2).tabs).mono ?_
  rintro e w3 ⟨rfl,hb3⟩
  have hc3:=hc2.trans (hb3.mono hc2.size)
  go_wp2_with (go_at_call 123;fail)
  refine (hQ _ (hT.below hc3).tabs).mono ?_
  rintro e w4 ⟨rfl,hb4⟩
  have hc4:=hc3.trans (hb4.mono hc3.size)
  go_wp2_with (go_at_call 124;fail)
  refine (hC _).mono ?_
  rintro e w5 ⟨rfl,hb5⟩
  have hc5:=hc4.trans (hb5.mono hc4.size)
  go_wp2
  go_ret2
  exact⟨rfl,hc5⟩
 | text ht h=>
  have hB:=fun w hT=>both_any n a b ha hb _ _ _ h w hT
  have hC:=fun w=>Tryz.strings_Compare (txt x) (txt y) w
  simp only[txt_toList] at hC
  generalize txt (typ n.data.toList).1=Z at *
  generalize txt x=X at *
  generalize txt y=Y at *
  generalize Lib.compareBytes x y=C at *
  rcases ht with ht | ht
  ·simp only[ht] at hTy
   clear h ht
   go_enter Tryz.func97,Tryz.ntmps97
   go_wp2_with (go_at_call 120;fail)
   refine (hB _ hT).mono ?_
   rintro e w1 ⟨rfl,hb1⟩
   have hc1:=hb1
   go_wp2_with (go_at_call 69;fail)
   refine (hTy _ (hT.below hc1).types).mono ?_
   rintro e w2 ⟨rfl,hb2⟩
   have hc2:=hc1.trans (hb2.mono hc1.size)
   go_wp2_with (go_at_call 125;fail)
   refine (hC _).mono ?_
   rintro e w3 ⟨rfl,rfl⟩
   have hc3:=hc2
   go_wp2
   go_ret2
   exact⟨rfl,hc3⟩
  ·simp only[ht] at hTy
   clear h ht
   go_enter Tryz.func97,Tryz.ntmps97
   go_wp2_with (go_at_call 120;fail)
   refine (hB _ hT).mono ?_
   rintro e w1 ⟨rfl,hb1⟩
   have hc1:=hb1
   go_wp2_with (go_at_call 69;fail)
   refine (hTy _ (hT.below hc1).types).mono ?_
   rintro e w2 ⟨rfl,hb2⟩
   have hc2:=hc1.trans (hb2.mono hc1.size)
   go_wp2_with (go_at_call 125;fail)
   refine (hC _).mono ?_
   rintro e w3 ⟨rfl,rfl⟩
   have hc3:=hc2
   go_wp2
   go_ret2
   exact⟨rfl,hc3⟩
end Go.Proofs.YtaolhefllfnmiaaGreatDoor
namespace Go.Proofs.YtaolhefllfnmiaaGreatDoor
open Go.RowKit
set_option linter.unusedVariables false
end Go.Proofs.YtaolhefllfnmiaaGreatDoor
namespace Go.Proofs.YtaolhefllfnmiaaGreatDoor
open Go.RowKit
def bareL (l:List UInt8):List UInt8:=l.filter (fun b=>b !=32)
theorem bare_app (a b:List UInt8):bareL (a++b)=bareL a++bareL b:=by simp[bareL]
theorem bare_none {l:List UInt8} (h:(32:UInt8) ∉ l):bareL l=l:=by
 unfold bareL
 rw[List.filter_eq_self]
 intro b hb
 simp only[bne_iff_ne,ne_eq]
 rintro rfl
 exact h hb
theorem replaceK_bare:∀(k:Nat) (s:List UInt8),s.count 32≤k→Lib.replaceK [32] [] k s=bareL s
 | 0,s,h=>by
  have:(32:UInt8) ∉ s:=fun hm=>by have:=List.count_pos_iff.2 hm;omega
  rw[bare_none this];rfl
 | k+1,s,h=>by
  by_cases hm:(32:UInt8)∈s
  ·have hge:=Lib.indexByte_ge s 32
   have hne:Lib.indexByte s 32≠ -1:=fun e=>by
    obtain⟨j,hj,hj2⟩:=List.mem_iff_getElem.1 hm
    exact Lib.indexByte_none e j (by rw[List.getElem?_eq_getElem hj,hj2])
   obtain⟨i,hi⟩:∃i:Nat,Lib.indexByte s 32=i:=⟨(Lib.indexByte s 32).toNat,by omega⟩
   obtain⟨h1,h2⟩:=Lib.indexByte_some hi
   have hix:Lib.index s [32]=i:=by rw[Lib.index_one,hi]
   have hlt:=(List.getElem?_eq_some_iff.1 h1).1
   have hs:s=s.take i++32::s.drop (i+1):=by
    have e1:s.drop i=32::s.drop (i+1):=by rw[List.drop_eq_getElem_cons hlt,(List.getElem?_eq_some_iff.1 h1).2]
    rw[←e1,List.take_append_drop]
   have hno:(32:UInt8) ∉ s.take i:=fun hmem=>by
    obtain⟨j,hj,hj2⟩:=List.mem_iff_getElem.1 hmem
    rw[List.length_take] at hj
    refine h2 j (by omega) ?_
    rw[List.getElem_take] at hj2
    rw[List.getElem?_eq_getElem (by omega),hj2]
   have hc:(s.drop (i+1)).count 32≤k:=by
    have:s.count 32=(s.take i++32::s.drop (i+1)).count 32:=by rw[←hs]
    rw[List.count_append,List.count_cons_self] at this
    omega
   rw[Lib.replaceK_hit [32] [] k s i hix]
   rw[show i+([32]:List UInt8).length=i+1 from rfl,replaceK_bare k _ hc]
   conv=>rhs;rw[hs]
   rw[bare_app,bare_none hno]
   simp[bareL]
  ·have hix:Lib.index s [32]= -1:=by
    rw[Lib.index_one]
    have hge:=Lib.indexByte_ge s 32
    refine Classical.byContradiction fun hne=>?_
    have:=(Lib.indexByte_some (o:=(Lib.indexByte s 32).toNat) (by omega:Lib.indexByte s 32=_)).1
    exact hm (List.mem_of_getElem? this)
   rw[Lib.replaceK,if_pos (by rw[hix];rfl),bare_none hm]
theorem replace_bare (s:List UInt8):Lib.replaceAll s [32] []=bareL s:=by
 unfold Lib.replaceAll Lib.replace
 rw[if_neg (by decide)]
 refine replaceK_bare _ s ?_
 unfold Lib.replaceNum
 rw[if_pos (Or.inl (by omega)),Lib.count_one]
 exact Nat.le_refl _
end Go.Proofs.YtaolhefllfnmiaaGreatDoor
namespace Go.Proofs.YtaolhefllfnmiaaGreatDoor
open Go.RowKit
set_option linter.unusedVariables false
structure Mx (w:World):Prop where
 max:∃m,w.cell? ⟨2,0,none⟩=some (.int .i64 m)
theorem cell_lt {w:World} {g:Nat} {v:Value} (h:w.cell? ⟨g,0,none⟩=some v):g<w.heap.size:=by
 rcases Nat.lt_or_ge g w.heap.size with hlt | hge
 ·exact hlt
 ·exfalso
  have hn:w.heap[g]?=none:=Array.getElem?_eq_none hge
  simp[World.cell?,hn] at h
theorem Mx.below {w w':World} (h:Mx w) (hb:Below w.heap.size w w'):Mx w':=by
 obtain⟨m,hm⟩:=h.max
 exact⟨m,(hb.cell (p:=⟨2,0,none⟩) (cell_lt hm)).trans hm⟩
theorem without_any (s:ByteArray) (h200:s.size≤200) (w:World) (hM:Mx w):
  Calls Tryz.prog 126 #[.string s] w fun e w'=>e=.returned (.string (txt (bareL s.data.toList)))∧Below w.heap.size w w':=by
 obtain⟨m,hm⟩:=hM.max
 have hR:=Tryz.strings_ReplaceAll s ⟨#[32]⟩ ⟨#[]⟩ m w (by omega) hm (by decide) (by
  have:(⟨#[]⟩:ByteArray).size=0:=rfl
  rw[this];omega)
 rw[show (⟨#[32]⟩:ByteArray).data.toList=[32] from rfl,show (⟨#[]⟩:ByteArray).data.toList=[] from rfl,replace_bare] at hR
 have hx:(⟨(bareL s.data.toList).toArray⟩:ByteArray)=txt (bareL s.data.toList):=rfl
 rw[hx] at hR
 generalize txt (bareL s.data.toList)=X at *
 go_enter Tryz.func126,Tryz.ntmps126
 go_wp2_with (go_at_call 156;fail)
 refine hR.mono ?_
 rintro e w1 ⟨rfl,hb⟩
 go_wp2
 go_ret
 exact⟨rfl,hb⟩
end Go.Proofs.YtaolhefllfnmiaaGreatDoor
namespace Go.Proofs.YtaolhefllfnmiaaGreatDoor
open Go.RowKit
set_option linter.unusedVariables false
inductive NearIs (n a b:List UInt8):List UInt8→List UInt8→Bool→Int→Prop where
 | err {f:Int} (h:BothIs n a b [] [] f) (hf:f≠0):NearIs n a b [] [] false f
 | text {x y:List UInt8} (ht:(typ n).2=1) (h:BothIs n a b x y 0):NearIs n a b x y (bareL x==bareL y) 0
 | plane {x y:List UInt8} {p q r s:Int} (ht:(typ n).2=4) (h:BothIs n a b x y 0) (hp:Small p) (hq:Small q) (hr:Small r) (hs:Small s) (hx:x=text p q) (hy:y=text r s):NearIs n a b x y (p*p+q*q==r*r+s*s) 0
 | same {x y:List UInt8} (ht:(typ n).2=2∨(typ n).2=3) (h:BothIs n a b x y 0):NearIs n a b x y (x==y) 0
theorem near_or (n a b:List UInt8):∃x y t f,NearIs n a b x y t f:=by
 obtain⟨x,y,f,h⟩:=both_or n a b
 rcases both_cases h with⟨hf,rfl,rfl,_⟩ | ⟨rfl,h0,h1,hx,hy⟩
 ·exact ⟨_,_,_,_,.err h hf⟩
 ·obtain ⟨hr,h3,h4⟩:=norm_is h0
  obtain⟨_,k3,k4⟩:=norm_is h1
  have:(typ n).2=1∨((typ n).2=2∨(typ n).2=3)∨(typ n).2=4:=by omega
  rcases this with e | e | e
  ·exact ⟨_,_,_,_,.text e h⟩
  ·exact ⟨_,_,_,_,.same e h⟩
  ·obtain ⟨p,q,hp,hq,ex⟩:=h4 e
   obtain⟨r,s,hr',hs,ey⟩:=k4 e
   rw[←hx] at ex
   rw[←hy] at ey
   exact⟨_,_,_,_,.plane e h hp hq hr' hs ex ey⟩
theorem rnear_any (n a b:ByteArray) (ha:a.size≤281474976710656) (hb:b.size≤281474976710656) (x y:List UInt8) (t:Bool) (f:Int) (h:NearIs n.data.toList a.data.toList b.data.toList x y t f) (w:World) (hT:TT w) (hM:Mx w):
  Calls Tryz.prog 98 #[.string n,.string a,.string b] w fun e w'=>e=.returned (.tuple #[.bool t,.int .i64 f])∧Below w.heap.size w w':=by
 have hTy:=fun w hT=>type_any n w hT
 cases h with
 | err h hf=>
  have hB:=fun w hT=>both_any n a b ha hb _ _ _ h w hT
  have hz:(f==0)=false:=beq_false_of_ne hf
  generalize txt []=X at *
  clear h hTy
  go_enter Tryz.func98,Tryz.ntmps98
  go_wp2_with (go_at_call 120;fail)
  refine (hB _ hT).mono ?_
  rintro e w1 ⟨rfl,hb1⟩
  have hc1:=hb1
  go_wp2
  go_ret2
  exact⟨rfl,hc1⟩
 | text ht h=>
  have hB:=fun w hT=>both_any n a b ha hb _ _ _ h w hT
  have hlen:=both_len h
  have hI:=fun w hM=>without_any (txt x) (by rw[txt_size];omega) w hM
  have hJ:=fun w hM=>without_any (txt y) (by rw[txt_size];omega) w hM
  simp only[txt_toList] at hI hJ
  have hxy:((txt (bareL x)).toList==(txt (bareL y)).toList)=(bareL x==bareL y):=by rw[txt_bytes,txt_bytes]
  simp only[ht] at hTy
  generalize txt (typ n.data.toList).1=Z at *
  generalize txt (bareL x)=P at *
  generalize txt (bareL y)=Q at *
  generalize txt x=X at *
  generalize txt y=Y at *
  generalize (bareL x==bareL y)=t at *
  clear h ht hlen
  go_enter Tryz.func98,Tryz.ntmps98
  go_wp2_with (go_at_call 120;fail)
  refine (hB _ hT).mono ?_
  rintro e w1 ⟨rfl,hb1⟩
  have hc1:=hb1
  go_wp2_with (go_at_call 69;fail)
  refine (hTy _ (hT.below hc1).types).mono ?_
  rintro e w2 ⟨rfl,hb2⟩
  have hc2:=hc1.trans (hb2.mono hc1.size)
  go_wp2_with (go_at_call 126;fail)
  refine (hI _ (hM.below hc2)).mono ?_
  rintro e w3 ⟨rfl,hb3⟩
  have hc3:=hc2.trans (hb3.mono hc2.size)
  go_wp2_with (go_at_call 126;fail)
  refine (hJ _ (hM.below hc3)).mono ?_
  rintro e w4 ⟨rfl,hb4⟩
  have hc4:=hc3.trans (hb4.mono hc3.size)
  go_wp2
  go_ret2
  exact⟨rfl,hc4⟩
 | @plane x y p q r s ht h hp hq hr hs hx hy=>
  have hB:=fun w hT=>both_any n a b ha hb _ _ _ h w hT
  have hlen:=both_len h
  have hP:=fun w hT=>parse_yes (txt x) (by rw[txt_size];omega) p q hp hq (by rw[txt_toList];exact hx) w hT
  have hQ:=fun w hT=>parse_yes (txt y) (by rw[txt_size];omega) r s hr hs (by rw[txt_toList];exact hy) w hT
  have hC:=fun w=>norm_yes (fl p) (fl q) p q (num_fl hp hq) w
  have hD:=fun w=>norm_yes (fl r) (fl s) r s (num_fl hr hs) w
  simp only[ht] at hTy
  generalize txt (typ n.data.toList).1=Z at *
  generalize txt x=X at *
  generalize txt y=Y at *
  generalize p*p+q*q=N1 at *
  generalize r*r+s*s=N2 at *
  generalize fl p=P at *
  generalize fl q=Q at *
  generalize fl r=R at *
  generalize fl s=S at *
  clear h ht hp hq hr hs hx hy hlen
  go_enter Tryz.func98,Tryz.ntmps98
  go_wp2_with (go_at_call 120;fail)
  refine (hB _ hT).mono ?_
  rintro e w1 ⟨rfl,hb1⟩
  have hc1:=hb1
  go_wp2_with (go_at_call 69;fail)
  refine (hTy _ (hT.below hc1).types).mono ?_
  rintro e w2 ⟨rfl,hb2⟩
  have hc2:=hc1.trans (hb2.mono hc1.size)
  go_wp2_with (go_at_call 123;fail)
  refine (hP _ (hT.below hc2).tabs).mono ?_
  rintro e w3 ⟨rfl,hb3⟩
  have hc3:=hc2.trans (hb3.mono hc2.size)
  go_wp2_with (go_at_call 123;fail)
  refine (hQ _ (hT.below hc3).tabs).mono ?_
  rintro e w4 ⟨rfl,hb4⟩
  have hc4:=hc3.trans (hb4.mono hc3.size)
  go_wp2_with (go_at_call 127;fail)
  refine (hC _).mono ?_
  rintro e w5 ⟨rfl,hb5⟩
  have hc5:=hc4.trans (hb5.mono hc4.size)
  go_wp2_with (go_at_call 127;fail)
  refine (hD _).mono ?_
  rintro e w6 ⟨rfl,hb6⟩
  have hc6:=hc5.trans (hb6.mono hc5.size)
  go_wp2
  go_ret2
  exact⟨rfl,hc6⟩
 | same ht h=>
  have hB:=fun w hT=>both_any n a b ha hb _ _ _ h w hT
  have hxy:((txt x).toList==(txt y).toList)=(x==y):=by rw[txt_bytes,txt_bytes]
  generalize txt (typ n.data.toList).1=Z at *
  generalize txt x=X at *
  generalize txt y=Y at *
  generalize (x==y)=t at *
  rcases ht with ht | ht
  ·simp only[ht] at hTy
   clear h ht
   go_enter Tryz.func98,Tryz.ntmps98
   go_wp2_with (go_at_call 120;fail)
   refine (hB _ hT).mono ?_
   rintro e w1 ⟨rfl,hb1⟩
   have hc1:=hb1
   go_wp2_with (go_at_call 69;fail)
   refine (hTy _ (hT.below hc1).types).mono ?_
   rintro e w2 ⟨rfl,hb2⟩
   have hc2:=hc1.trans (hb2.mono hc1.size)
   go_wp2
   go_ret2
   exact⟨rfl,hc2⟩
  ·simp only[ht] at hTy
   clear h ht
   go_enter Tryz.func98,Tryz.ntmps98
   go_wp2_with (go_at_call 120;fail)
   refine (hB _ hT).mono ?_
   rintro e w1 ⟨rfl,hb1⟩
   have hc1:=hb1
   go_wp2_with (go_at_call 69;fail)
   refine (hTy _ (hT.below hc1).types).mono ?_
   rintro e w2 ⟨rfl,hb2⟩
   have hc2:=hc1.trans (hb2.mono hc1.size)
   go_wp2
   go_ret2
   exact⟨rfl,hc2⟩
end Go.Proofs.YtaolhefllfnmiaaGreatDoor
