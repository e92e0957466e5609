/- Several texts in one: DMath, Map, MapR, Draft, DKeys, DVals, DApp, DSort, DOrder, DIn. By an AI agent. -/
import Derived.Maps.OwnSet
import Derived.Maps.RangeWalk
import Derived.Sort.MapsRangeIn
import Derived.Test.YtdkekamkmlpnhaaGreatDoorHeld
import Derived.Shelf.SlIter.Collect
import Derived.Shelf.SlSortCmp.WholeK
import Derived.Test.YtdkekamkmlpnhaaGreatDoorEX
import Derived.Test.YtdkekamkmlpnhaaGreatDoorWords
import Derived.Test.YtdkekamkmlpnhaaGreatDoorEY
set_option linter.unusedSimpArgs false
set_option linter.unusedVariables false
set_option maxHeartbeats 32000000
set_option maxRecDepth 100000
namespace Go.Proofs.YtdkekamkmlpnhaaGreatDoor
open Go.RowKit
def Rise (L:List EA):Prop:=L.Pairwise fun a b=>a.1<b.1
theorem zFa {a b:List UInt8} (h1:¬a<b) (h2:a≠b):b<a:=by
 by_cases h:b<a
 ·exact h
 ·exact absurd (List.le_antisymm (List.not_lt.1 h) (List.not_lt.1 h1)) h2
def insE:List EA->List UInt8->List (List UInt8)->List EA
 | [],t,vs=>[(t,vs)]
 | a::L,t,vs=>if a.1<t then a::insE L t vs else (t,vs)::(a::L).filter fun b=>decide (b.1≠t)
def setE (L:List EA) (t:List UInt8) (vs:List (List UInt8)):List EA:=if vs=[] then L.filter fun b=>decide (b.1≠t) else insE L t vs
theorem zGe (L:List EA) (t u:List UInt8):pickE (L.filter fun b=>decide (b.1≠t)) u=if u=t then [] else pickE L u:=by
 induction L with
 | nil=>simp[pickE]
 | cons a L ih=>
  by_cases h:a.1=t
  ·rw [List.filter_cons_of_neg (by simpa using h),ih];by_cases hu:u=t
   ·simp [hu]
   ·simp only[hu,if_false,pickE];rw[if_neg fun q=>hu (q.symm.trans h)]
  ·rw [List.filter_cons_of_pos (by simpa using h)];simp only[pickE];by_cases ha:a.1=u
   ·rw [if_pos ha,if_neg fun q=>h (ha.trans q),if_pos ha]
   ·rw [if_neg ha,ih,if_neg ha]
theorem pick_ins (L:List EA) (t u:List UInt8) (vs:List (List UInt8)):pickE (insE L t vs) u=if u=t then vs else pickE L u:=by
 induction L with
 | nil=>
  simp only[insE,pickE];by_cases h:u=t
  ·simp [h]
  ·rw [if_neg (fun q=>h q.symm),if_neg h]
 | cons a L ih=>
  unfold insE;split
  ·rename_i hl;simp only[pickE];by_cases ha:a.1=u
   ·rw [if_pos ha,if_neg,if_pos ha];intro q;rw[ha,q] at hl;exact List.lt_irrefl t hl
   ·rw [if_neg ha,ih,if_neg ha]
  ·rename_i hl;rw[show pickE ((t,vs)::(a::L).filter fun b=>decide (b.1≠t)) u=if t=u then vs else pickE ((a::L).filter fun b=>decide (b.1≠t)) u from rfl,zGe];by_cases h:u=t
   ·simp [h]
   ·rw [if_neg (fun q=>h q.symm),if_neg h,if_neg h]
theorem zC2 (L:List EA) (t u:List UInt8) (vs:List (List UInt8)):pickE (setE L t vs) u=if u=t then vs else pickE L u:=by
 unfold setE;split
 ·rename_i h;rw[zGe,h]
 ·exact pick_ins L t u vs
theorem zQ4 {L:List EA} {t:List UInt8} {vs:List (List UInt8)} {b:EA} (h:b∈insE L t vs):b=(t,vs)\/(b∈L/\b.1≠t):=by
 induction L with
 | nil=>simp[insE] at h;exact .inl h
 | cons a L ih=>
  unfold insE at h;split at h
  ·rename_i hl;rcases List.mem_cons.1 h with rfl | h
   ·exact .inr ⟨by simp,fun q=>by rw[q] at hl;exact List.lt_irrefl t hl⟩
   ·rcases ih h with h | ⟨h,h'⟩
    ·exact .inl h
    ·exact .inr ⟨by simp[h],h'⟩
  ·rcases List.mem_cons.1 h with h | h
   ·exact .inl h
   ·obtain ⟨h1,h2⟩:=List.mem_filter.1 h;exact .inr ⟨h1,by simpa using h2⟩
theorem rise_ins {L:List EA} (h:Rise L) (t:List UInt8) (vs:List (List UInt8)):Rise (insE L t vs):=by
 induction L with
 | nil=>simp[insE,Rise]
 | cons a L ih=>
  obtain⟨h1,h2⟩:=List.pairwise_cons.1 h;unfold insE;split
  ·rename_i hl;refine List.pairwise_cons.2 ⟨fun b hb=>?_,ih h2⟩;rcases zQ4 hb with rfl | ⟨hb,_⟩
   ·exact hl
   ·exact h1 b hb
  ·rename_i hl;refine List.pairwise_cons.2 ⟨fun b hb=>?_,List.Pairwise.filter _ h⟩;obtain⟨hb1,hb2⟩:=List.mem_filter.1 hb;have hb2:b.1≠t:=by simpa using hb2
   rcases List.mem_cons.1 hb1 with rfl | hb1
   ·exact zFa hl hb2
   ·by_cases ha:a.1=t
    ·rw [<-ha];exact h1 b hb1
    ·exact List.lt_trans (zFa hl ha) (h1 b hb1)
theorem zNm {L:List EA} (h:Rise L) (t:List UInt8) (vs:List (List UInt8)):Rise (setE L t vs):=by
 unfold setE;split
 ·exact h.filter _
 ·exact rise_ins h t vs
theorem zMs {L:List EA} (h:∀a∈L,a.2≠[]) (t:List UInt8) (vs:List (List UInt8)):∀a∈setE L t vs,a.2≠[]:=by
 intro a ha;unfold setE at ha;split at ha
 ·exact h a (List.mem_filter.1 ha).1
 ·rename_i hv;rcases zQ4 ha with rfl | ⟨ha,_⟩
  ·exact hv
  ·exact h a ha
theorem zIs {L M:List EA} (hL:Rise L) (hM:Rise M) (fL:∀a∈L,a.2≠[]) (fM:∀a∈M,a.2≠[]) (h:∀u,pickE L u=pickE M u):L=M:=by
 have pick_of:∀{K:List EA},Rise K->∀a∈K,pickE K a.1=a.2:=by
  intro K hK
  induction K with
  | nil=>intro a ha;simp at ha
  | cons b K ih=>
   obtain⟨h1,h2⟩:=List.pairwise_cons.1 hK;intro a ha;rcases List.mem_cons.1 ha with rfl | ha
   ·simp [pickE]
   ·simp only[pickE];rw[if_neg fun q=>by have:=h1 a ha;rw[q] at this;exact List.lt_irrefl _ this];exact ih h2 a ha
 have mem_of:∀{K:List EA} {u:List UInt8},pickE K u≠[]->(u,pickE K u)∈K:=by
  intro K
  induction K with
  | nil=>intro u hu;simp[pickE] at hu
  | cons b K ih=>
   intro u hu;simp only[pickE] at hu ⊢;split
   ·rename_i q;subst q;simp
   ·rename_i q;rw[if_neg q] at hu;exact List.mem_cons_of_mem _ (ih hu)
 have sub:∀{K N:List EA},Rise K->(∀a∈K,a.2≠[])->(∀u,pickE K u=pickE N u)->∀a∈K,a∈N:=by
  intro K N hK fK hKN a ha;have e:=pick_of hK a ha;have hne:pickE N a.1≠[]:=by rw[<-hKN,e];exact fK a ha
  have:=mem_of hne;rw[<-hKN,e] at this;exact this
 have s1:=sub hL fL h;have s2:=sub hM fM fun u=>(h u).symm
 clear pick_of mem_of sub h fL fM
 induction L generalizing M with
 | nil=>cases M with
  | nil=>rfl
  | cons b M=>have:=s2 b (by simp);simp at this
 | cons a L ih=>
  cases M with
  | nil=>have:=s1 a (by simp);simp at this
  | cons b M=>
   obtain⟨a1,a2⟩:=List.pairwise_cons.1 hL;obtain⟨b1,b2⟩:=List.pairwise_cons.1 hM;have hab:a=b:=by
    rcases List.mem_cons.1 (s1 a (by simp)) with q | q
    ·exact q
    ·rcases List.mem_cons.1 (s2 b (by simp)) with q' | q'
     ·exact q'.symm
     ·exact absurd (List.lt_trans (a1 b q') (b1 a q)) (List.lt_irrefl _)
   subst hab;rw[ih a2 b2]
   ·intro x hx;rcases List.mem_cons.1 (s1 x (by simp[hx])) with rfl | q
    ·exact absurd (a1 x hx) (List.lt_irrefl _)
    ·exact q
   ·intro x hx;rcases List.mem_cons.1 (s2 x (by simp[hx])) with rfl | q
    ·exact absurd (b1 x hx) (List.lt_irrefl _)
    ·exact q
noncomputable def gatherV (t:List UInt8):List (List UInt8)->List (List UInt8)->List (List UInt8) × Int
 | l,[]=>(l,0)
 | l,v::vs=>if (valV t v).2≠0 then ([],21) else @ite _ (WithinV t l v) (Classical.propDecidable _) ([],20) (gatherV t (l++[v]) vs)
noncomputable def gatherE:List EA->List EA->List EA × Int
 | L,[]=>(L,0)
 | L,a::r=>
  if (typ a.1).2=0 then ([],17) else if a.2=[] then ([],19) else
  let g:=gatherV (typ a.1).1 (pickE L (typ a.1).1) a.2
  if g.2≠0 then ([],g.2) else gatherE (setE L (typ a.1).1 g.1) r
noncomputable def endE (nm:List UInt8) (L:List EA) (misnamed:Int):Int:=
 @ite _ (∃a∈L,20<a.2.length) (Classical.propDecidable _) 19 (if pickE L clsT=[] then 65 else @ite _ (NamedR nm L) (Classical.propDecidable _) 0 misnamed)
noncomputable def makeE (s:List UInt8) (A:List EA):List UInt8 × List EA × Int:=
 if (normT s).2≠0\/(normT s).1=[] then ([],[],34) else
 let g:=gatherE [] A
 if g.2≠0 then ([],[],g.2) else
 if endE (normT s).1 g.1 64≠0 then ([],[],endE (normT s).1 g.1 64) else ((normT s).1,g.1,0)
open Go.RowKit Go.Maps
abbrev Prs:=List (List UInt8 × Value)
def lookP:Prs->List UInt8->Option Value
 | [],_=>none
 | p::L,s=>if p.1=s then some p.2 else lookP L s
theorem lookP_none {L:Prs} {s:List UInt8}:lookP L s=none↔∀p∈L,p.1≠s:=by
 induction L with
 | nil=>simp[lookP]
 | cons p L ih=>
  unfold lookP;split
  ·rename_i h;constructor
   ·intro q;cases q
   ·intro q;exact absurd h (q p (by simp))
  ·rename_i h;rw[ih];constructor
   ·intro q r hr;rcases List.mem_cons.1 hr with rfl | hr
    ·exact h
    ·exact q r hr
   ·intro q r hr;exact q r (by simp[hr])
theorem zKe {L:Prs} {s:List UInt8} {v:Value} (h:lookP L s=some v):(s,v)∈L:=by
 induction L with
 | nil=>simp[lookP] at h
 | cons p L ih=>
  unfold lookP at h;split at h
  ·rename_i e;injection h with h
   subst e;subst h;simp
  ·exact List.mem_cons_of_mem _ (ih h)
theorem zCv {L:Prs} {p:List UInt8 × Value} (hd:L.Pairwise (fun p q=>p.1≠q.1)) (h:p∈L):lookP L p.1=some p.2:=by
 induction L with
 | nil=>simp at h
 | cons q L ih=>
  obtain⟨h1,h2⟩:=List.pairwise_cons.1 hd;unfold lookP;rcases List.mem_cons.1 h with rfl | h
  ·simp
  ·rw [if_neg (h1 p h)];exact ih h2 h
theorem zKq (L M:Prs) (s:List UInt8):lookP (L++M) s=(lookP L s).or (lookP M s):=by
 induction L with
 | nil=>simp[lookP]
 | cons p L ih=>
  simp only[List.cons_append,lookP];split
  ·simp
  ·exact ih
def RV (v:Value):Option (DataW Value × List MemPlace):=some (.held v,[])
structure MapD (w:World) (P:Program) (k:TypeId) (b:Nat) (L:Prs) (D:DataW Value):Prop where
 own:w.ownsMap P k RV b L.length D
 look:∀s z,D.atKey (.string s) z=match lookP L s with | some v=>.held v | none=>z
 size:Maps.size D=L.length
 nd:L.Pairwise (fun p q=>p.1≠q.1)
 fits:∀p∈L,p.1.length<=maxLen
def MapL (w:World) (P:Program) (k:TypeId) (b:Nat) (L:Prs):Prop:=∃D,MapD w P k b L D
section
variable {w w':World} {P:Program} {k t e:TypeId} {b:Nat} {L:Prs} {s:List UInt8}
theorem zSn {n:Nat} {D:DataW Value} (h:w.ownsMap P k RV b n D):w.ownsMap P k RV b (Maps.size D) D:=by
 obtain⟨es,clock,hb,F,hs,rfl⟩:=h;refine⟨es,clock,hb,F,?_,rfl⟩;simp[Maps.size,length_sorted]
theorem MapD.has {D:DataW Value} (h:MapD w P k b L D) (s:List UInt8):Maps.has D (.string s)=(lookP L s).isSome:=by
 cases hl:lookP L s with
 | none=>exact Maps.has_false_of_atKey fun z=>by rw[h.look,hl]
 | some v=>exact Maps.has_true_of_atKey (y:=.held v) fun z=>by rw[h.look,hl]
theorem MapL.lt (h:MapL w P k b L):b<w.heap.size:=by obtain⟨D,h⟩:=h;exact h.own.lt
theorem MapL.nd (h:MapL w P k b L):L.Pairwise (fun p q=>p.1≠q.1):=by obtain⟨D,h⟩:=h;exact h.nd
theorem MapL.kept {row:Option Nat} (h:MapL w P k b L) (hg:w.grownBy w' row) (hne:some b≠row):MapL w' P k b L:=by
 obtain⟨D,h⟩:=h;exact⟨D,h.own.kept hg hne,h.look,h.size,h.nd,h.fits⟩
theorem MapL.of_block (h:MapL w P k b L) (hg:w'.heap[b]?=w.heap[b]?):MapL w' P k b L:=by
 obtain⟨D,⟨es,clock,hb,F,hs,hD⟩,h1,h2,h3,h4⟩:=h;exact⟨D,⟨es,clock,hg.trans hb,F,hs,hD⟩,h1,h2,h3,h4⟩
theorem MapL.made (w:World) (P:Program) (k:TypeId):MapL (w.alloc (.map #[] 0)) P k w.heap.size []:=
 ⟨.map [],World.ownsMap_made w P k RV,fun s z=>rfl,rfl,.nil,fun p hp=>by simp at hp⟩
theorem zFq (hk:P.underlying k=some .string) (hs:s.length<=maxLen):keyOf P k (.string (txt s))=some (.string s):=by
 have:=Go.WideMaps.keyOf_string_mk hk (s:=txt s) (by simpa[txt,ByteArray.size] using hs)
 rwa [zAf] at this
theorem isK {s:List UInt8}:WideAt.IsKeyLit (.string s):=by simp[WideAt.IsKeyLit]
theorem MapL.look_ok (h:MapL w P k b L) (hk:P.underlying k=some .string) (ht:P.underlying t=some (.map k e)) {z:Value} (hz:(zeroValue e).run P w=.ok z w) (hs:s.length<=maxLen):
  (Instr.lookup t (.map (some b)) (.string (txt s)) true).run P w=.ok (.tuple #[(lookP L s).getD z,.bool (lookP L s).isSome]) w:=by
 obtain⟨D,h⟩:=h;obtain⟨v,ps,hrun,hv⟩:=h.own.look_ok (string_keyed hk) ht hz (zd:=.held z) (zp:=[]) rfl (zFq hk hs);rw[hrun,h.has];rw[h.look] at hv;have hv2:DataW.held v=(match lookP L s with | some v=>.held v | none=>.held z):=by
  unfold RV at hv;injection hv with hv
  exact (Prod.mk.inj hv).1
 cases hl:lookP L s with
 | none=>rw[hl] at hv2;injection hv2 with hv2;subst hv2;rfl
 | some u=>rw[hl] at hv2;injection hv2 with hv2;subst hv2;rfl
theorem MapL.look (h:MapL w P k b L) (hk:P.underlying k=some .string) (ht:P.underlying t=some (.map k e)) {z:Value} (hz:(zeroValue e).run P w=.ok z w) (hs:s.length<=maxLen):
  (Instr.lookup t (.map (some b)) (.string (txt s)) false).run P w=.ok ((lookP L s).getD z) w:=by
 obtain⟨D,h⟩:=h;obtain⟨v,ps,hrun,hv⟩:=h.own.lookup (string_keyed hk) ht hz (zd:=.held z) (zp:=[]) rfl (zFq hk hs);rw[hrun];rw[h.look] at hv;have hv2:DataW.held v=(match lookP L s with | some v=>.held v | none=>.held z):=by
  unfold RV at hv;injection hv with hv
  exact (Prod.mk.inj hv).1
 cases hl:lookP L s with
 | none=>rw[hl] at hv2;injection hv2 with hv2;subst hv2;rfl
 | some u=>rw[hl] at hv2;injection hv2 with hv2;subst hv2;rfl
theorem MapL.len (h:MapL w P k b L) (ht:P.underlying t=some (.map k e)) (ty:TypeId):(Builtin.len_ #[t] ty #[.map (some b)]).run P w=.ok (.int .i64 L.length) w:=by
 obtain⟨D,h⟩:=h;rw[h.own.len ht ty,h.size]
theorem zLv (hk:P.underlying k=some .string) (ht:P.underlying t=some (.map k e)) {z:Value} (hz:(zeroValue e).run P w=.ok z w) (hs:s.length<=maxLen):
  (Instr.lookup t (.map none) (.string (txt s)) true).run P w=.ok (.tuple #[z,.bool false]) w:=by
 simpa using Maps.look_nil true (string_keyed hk) ht hz (zFq hk hs)
theorem MapL.store_new (h:MapL w P k b L) (hk:P.underlying k=some .string) (ht:P.underlying t=some (.map k e)) (hs:s.length<=maxLen) (hn:L.length<maxLen) (hl:lookP L s=none) (v:Value):
  ∃w',(Instr.mapUpdate t (.map (some b)) (.string (txt s)) v).run P w=.ok () w'/\MapL w' P k b (L++[(s,v)])/\w.mapTurned w' b:=by
 obtain⟨D,h⟩:=h;obtain⟨w',hrun,hown,hg⟩:=h.own.store (string_keyed hk) ht hn (zFq hk hs) (d:=.held v) (ps:=[]) rfl;have hT:=h.own.tidy (string_keyed hk);have hsz:Maps.size (D.put (.string s) (.held v))=(L++[(s,v)]).length:=by rw[Maps.size_put hT,h.has,hl,h.size];simp
 have ho:=zSn hown;rw[hsz] at ho;refine⟨w',hrun,⟨_,ho,fun s' z=>?_,hsz,?_,?_⟩,hg⟩
 ·rw [zKq];by_cases he:s'=s
  ·subst he;rw[Maps.atKey_put_same hT.isMap isK,hl];simp[lookP]
  ·rw [Maps.atKey_put_other (fun q=>he (by injection q))];rw[h.look];have:lookP [(s,v)] s'=none:=by
    unfold lookP;rw[if_neg (fun q=>he q.symm)];rfl
   rw[this];simp
 ·refine List.pairwise_append.2 ⟨h.nd,by simp,fun p hp q hq=>?_⟩;simp only[List.mem_singleton] at hq;subst hq;exact lookP_none.1 hl p hp
 ·intro p hp;rcases List.mem_append.1 hp with hp | hp
  ·exact h.fits p hp
  ·simp only[List.mem_singleton] at hp;subst hp;exact hs
end
structure MapRD (w:World) (P:Program) (k:TypeId) (b r:Nat) (L todo:Prs) (D:DataW Value) (left:Lit->Bool) (cnt:Nat):Prop where
 map:MapD w P k b L D
 rng:w.ranges P k RV b r L.length D left cnt
 sub:todo.Sublist L
 left:∀p∈L,left (.string p.1)=true↔p∈todo
def MapR (w:World) (P:Program) (k:TypeId) (b r:Nat) (L todo:Prs):Prop:=∃D left cnt,MapRD w P k b r L todo D left cnt
section
variable {w w':World} {P:Program} {k t e:TypeId} {b r:Nat} {L todo:Prs}
theorem MapR.map (h:MapR w P k b r L todo):MapL w P k b L:=by obtain⟨D,l,c,h⟩:=h;exact⟨D,h.map⟩
theorem MapR.sub (h:MapR w P k b r L todo):todo.Sublist L:=by obtain⟨D,l,c,h⟩:=h;exact h.sub
theorem MapL.range (h:MapL w P k b L) (hk:P.underlying k=some .string) (ht:P.underlying t=some (.map k e)):
  ∃w',(Instr.range t (.map (some b))).run P w=.ok (.pointer (some ⟨w.heap.size,0,none⟩)) w'/\MapR w' P k b w.heap.size L L/\w.grownBy w' none/\w'.heap.size=w.heap.size+1:=by
 obtain⟨D,h⟩:=h;obtain⟨w',hrun,hr,hg,hs⟩:=h.own.range (string_keyed hk) ht;refine⟨w',hrun,⟨D,_,_,⟨h.own.kept hg (by simp),h.look,h.size,h.nd,h.fits⟩,hr,List.Sublist.refl _,fun p hp=>?_⟩,hg,hs⟩;rw[h.has,zCv h.nd hp];simp[hp]
theorem MapR.next (h:MapR w P k b r L todo) (hk:P.underlying k=some .string) (ty:TypeId):
  (todo=[]/\(Instr.next (.pointer (some ⟨r,0,none⟩)) false ty).run P w=.ok (.tuple #[.bool false]) w)\/
  ∃p∈todo,∃w',(Instr.next (.pointer (some ⟨r,0,none⟩)) false ty).run P w=.ok (.tuple #[.bool true,.string (txt p.1),p.2]) w'/\
   MapR w' P k b r L (todo.filter fun q=>decide (q.1≠p.1))/\w.grownBy w' (some r)/\w'.heap.size=w.heap.size/\(Instr.entry (.pointer (some ⟨r,0,none⟩))).run P w'=.ok (.tuple #[.string (txt p.1),p.2]) w':=by
 obtain⟨D,l,c,h⟩:=h;rcases h.rng.next (string_keyed hk) ty with⟨h0,hl,hrun⟩ | ⟨key,v,kl,y,w',cnt',hkey,hlk,hv,hat,hrun,hrg,hlt,hgr,hsz,hen⟩
 ·refine .inl ⟨?_,hrun⟩;refine List.eq_nil_iff_forall_not_mem.2 fun p hp=>?_
  have:=(h.left p (h.sub.subset hp)).2 hp;rw[hl] at this;cases this
 ·obtain ⟨x,rfl⟩:=Maps.keyOf_string_inv hk hkey;obtain rfl:kl=.string x.data.toList:=by
   simp only[keyOf,hk,mapKey] at hkey;split at hkey
   ·injection hkey with hkey
    exact hkey.symm
   ·cases hkey
  obtain⟨s,hs⟩:∃s,s=x.data.toList:=⟨_,rfl⟩;have hx:x=txt s:=by rw[hs];simp[txt]
  clear hs;subst hx;simp only[zAf] at hlk hat hrg;have hy:y.1=.held v:=by
   unfold RV at hv;injection hv with hv
   rw[<-hv]
  have hlook:lookP L s=some v:=by
   cases hl:lookP L s with
   | none=>
    exfalso;have h1:=hat (.agg []);rw[h.map.look,hl,hy] at h1;cases h1
   | some u=>
    have h1:=hat (.agg []);rw[h.map.look,hl,hy] at h1;injection h1 with h1
    rw[h1]
  have hmem:=zKe hlook;refine .inr ⟨(s,v),(h.left _ hmem).1 hlk,w',hrun,?_,hgr,hsz,hen⟩;refine⟨D,_,cnt',⟨h.map.own.kept hgr (by intro q;injection q with q;exact h.rng.ne q.symm),h.map.look,h.map.size,h.map.nd,h.map.fits⟩,hrg,(List.filter_sublist).trans h.sub,fun p hp=>?_⟩;rw[List.mem_filter];have h1:=h.left p hp;have h2:(Lit.string p.1).sameKey (.string s)=decide (p.1=s):=by
   by_cases q:p.1=s
   ·rw [q,WideAt.sameKey_self isK];simp
   ·rw [Maps.sameKey_ne (fun z=>q (by injection z))];simp[q]
  rw[h2,Bool.and_eq_true,h1];simp
theorem MapR.rest {p:List UInt8 × Value} (h:MapR w P k b r L todo) (hp:p∈todo):(todo.filter fun q=>decide (q.1≠p.1)).length+1=todo.length:=by
 have hnd:=h.map.nd.sublist h.sub;clear h
 induction todo with
 | nil=>simp at hp
 | cons q todo ih=>
  obtain⟨h1,h2⟩:=List.pairwise_cons.1 hnd;rcases List.mem_cons.1 hp with rfl | hp
  ·rw [List.filter_cons_of_neg (by simp),List.filter_eq_self.2 fun x hx=>by simpa using (h1 x hx).symm];simp
  ·rw [List.filter_cons_of_pos (by simpa using h1 p hp)];simp only[List.length_cons];rw[ih hp h2]
end
abbrev Hd:=List UInt8 × List UInt8 × Nat
def heldP (h:Hd):List UInt8 × Value:=(h.1,.agg #[.string (txt h.2.1),.int .i64 (h.2.2:Int)])
abbrev Ty:=List UInt8 × Nat × List Hd
def tyP (t:Ty):List UInt8 × Value:=(t.1,.map (some t.2.1))
def findT:List Ty->List UInt8->Option Ty
 | [],_=>none
 | t::T,u=>if t.1=u then some t else findT T u
def heldT (T:List Ty) (u:List UInt8):List Hd:=match findT T u with | some t=>t.2.2 | none=>[]
theorem zAr {T:List Ty} {u:List UInt8} {t:Ty} (h:findT T u=some t):t∈T/\t.1=u:=by
 induction T with
 | nil=>simp[findT] at h
 | cons x T ih=>
  unfold findT at h;split at h
  ·rename_i e;injection h with h
   subst h;exact⟨by simp,e⟩
  ·exact ⟨List.mem_cons_of_mem _ (ih h).1,(ih h).2⟩
theorem zCi {T:List Ty} {t:Ty} (hd:T.Pairwise fun a b=>a.1≠b.1) (h:t∈T):findT T t.1=some t:=by
 induction T with
 | nil=>simp at h
 | cons x T ih=>
  obtain⟨h1,h2⟩:=List.pairwise_cons.1 hd;unfold findT;rcases List.mem_cons.1 h with rfl | h
  ·simp
  ·rw [if_neg (h1 t h)];exact ih h2 h
theorem zH3 (T:List Ty) (u:List UInt8):lookP (T.map tyP) u=(findT T u).map fun t=>.map (some t.2.1):=by
 induction T with
 | nil=>simp[lookP,findT]
 | cons x T ih=>
  simp only[List.map_cons,lookP,findT,tyP];split
  ·simp
  ·exact ih
def findH:List Hd->List UInt8->Option Hd
 | [],_=>none
 | h::l,n=>if h.1=n then some h else findH l n
theorem zGc (l:List Hd) (n:List UInt8):lookP (l.map heldP) n=(findH l n).map fun h=>.agg #[.string (txt h.2.1),.int .i64 (h.2.2:Int)]:=by
 induction l with
 | nil=>simp[lookP,findH]
 | cons x l ih=>
  simp only[List.map_cons,lookP,findH,heldP];split
  ·simp
  ·exact ih
theorem zQ6 {l:List Hd} {n:List UInt8}:(findH l n).isSome=l.any fun h=>decide (h.1=n):=by
 induction l with
 | nil=>simp[findH]
 | cons x l ih=>
  simp only[findH,List.any_cons];by_cases h:x.1=n
  ·simp [h]
  ·rw [if_neg h,ih];simp[h]
structure DraftM (w:World) (B d bt nx:Nat) (T:List Ty):Prop where
 d0:w.cell? ⟨d,0,none⟩=some (.map (some bt))
 d1:w.cell? ⟨d,1,none⟩=some (.int .i64 (nx:Int))
 frz:∀i,w.frozen? ⟨d,i,none⟩=false
 types:MapL w Tryz.prog 9 bt (T.map tyP)
 each:∀t∈T,MapL w Tryz.prog 9 t.2.1 (t.2.2.map heldP)
 apart:(bt::T.map fun t=>t.2.1).Nodup
 newd:B<=d
 newt:B<=bt
 newe:∀t∈T,B<=t.2.1
theorem zDb {w:World} {d i:Nat} {v:Value} (h:w.cell? ⟨d,i,none⟩=some v):d<w.heap.size:=by
 unfold World.cell? at h;by_cases hd:d<w.heap.size
 ·exact hd
 ·rw [Array.getElem?_eq_none (Nat.not_lt.1 hd)] at h;cases h
theorem DraftM.ltd {w:World} {B d bt nx:Nat} {T:List Ty} (h:DraftM w B d bt nx T):d<w.heap.size:=zDb h.d0
theorem MapL.below {w w':World} {P:Program} {k:TypeId} {b B:Nat} {L:Prs} (h:MapL w P k b L) (hb:b<B) (hB:Below B w w'):MapL w' P k b L:=h.of_block (hB.block b hb)
theorem DraftM.grow {w w':World} {B d bt nx:Nat} {T:List Ty} (h:DraftM w B d bt nx T) (hb:Below w.heap.size w w'):DraftM w' B d bt nx T:=
 ⟨(hb.cell (p:=⟨d,0,none⟩) h.ltd).trans h.d0,(hb.cell (p:=⟨d,1,none⟩) h.ltd).trans h.d1,fun i=>(hb.frozen (p:=⟨d,i,none⟩) h.ltd).trans (h.frz i),h.types.below h.types.lt hb,
  fun t ht=>(h.each t ht).below (h.each t ht).lt hb,h.apart,h.newd,h.newt,h.newe⟩
theorem DraftM.nd {w:World} {B d bt nx:Nat} {T:List Ty} (h:DraftM w B d bt nx T):T.Pairwise fun a b=>a.1≠b.1:=by
 have:=h.types.nd;rw[List.pairwise_map] at this;exact this
open Go.Shelf Go.Sort
theorem zJm {w:World} {P:Program} {k:TypeId} {b:Nat} {L:Prs} {D:DataW Value} (hD:MapD w P k b L D) (hk:P.underlying k=some .string):(strKeys D).Perm (L.map fun p=>p.1):=by
 have hown:=hD.own;have hh:=hD.has;have hnd:=hD.nd;obtain⟨es,hDe,hpw,_⟩:=hown.entries (string_keyed hk);obtain⟨es',hD',hko⟩:=hown.keysOf;obtain rfl:es=es':=by rw[hDe] at hD';simpa using hD'
 subst hDe;refine (perm_strKeys hpw (fun p hp=>by obtain⟨v,hv⟩:=hko p hp;obtain⟨x,_,hx,_⟩:=Maps.keyOf_str hk hv;exact⟨x,hx⟩) (List.nodup_iff_pairwise_ne.2 (by rw[List.pairwise_map];exact hnd)) (fun x=>?_)).symm;rw[hh];constructor
 ·intro hx;obtain⟨p,hp,rfl⟩:=List.mem_map.1 hx;rw[zCv hnd hp];rfl
 ·intro hx;cases hl:lookP L x with
  | none=>rw[hl] at hx;cases hx
  | some v=>exact List.mem_map.2 ⟨_,zKe hl,rfl⟩
structure KeysOk (T:List Ty) (ks:List (List UInt8)):Prop where
 rise:ks.Pairwise fun a b=>a<b
 mem:∀u,u∈ks↔(findT T u).isSome=true
 len:ks.length=T.length
theorem zS4 (b:Nat) (w:World):Calls Tryz.prog 190 #[.map (some b)] w fun e w'=>e=.returned (.func (.func 219) #[] #[.pointer (some ⟨w.heap.size,0,none⟩)])/\w'=w.alloc (.cells #[.map (some b)] 178):=
 callsIn_wide.1 (AnyZ.keys_in Tryz.keysT Fence.wide 5 trivial rfl (some b) w)
theorem sortsT (m:Nat):AnyZ.SortsIn Tryz.prog Tryz.sortedT_ren Fence.wide m:=
 ⟨fun blk off cap ss W hH hblk hsz=>callsIn_wide.2 (AnyM.slices_Sort_string Tryz.sortT blk off cap ss W hH hblk hsz),
  fun p cap W=>callsIn_wide.2 (AnyM.slices_Sort_string_none Tryz.sortT p cap W)⟩
theorem zKu (w:World) (b:Nat) (T:List Ty) (hL:MapL w Tryz.prog 9 b (T.map tyP)) (hlen:T.length<=1000000000):
  Calls Tryz.prog 189 #[.func (.func 219) #[] #[.pointer (some ⟨w.heap.size,0,none⟩)]] (w.alloc (.cells #[.map (some b)] 178)) fun e w'=>
   ∃A c ks,e=.returned (.slice A ks.length c)/\KeysOk T ks/\Has w' w'.heap.size 1 A ks.length (strs ks)/\Below w.heap.size w w':=by
 obtain⟨D,hD⟩:=hL;have hown:=hD.own;have hsz:Maps.size D=T.length:=by rw[hD.size,List.length_map]
 have hbl:=hown.lt;have hseq:SeqGives Fence.wide 2 Tryz.prog 219 #[.pointer (some ⟨w.heap.size,0,none⟩)] encStr (fun ss=>ss.Perm (strKeys D)) (Maps.size D) (w.alloc (.cells #[.map (some b)] 178)):=
  AnyZ.keys_gives (ρ:=Tryz.keysT_ren) { Tryz.keysT with } Fence.wide _ trivial rfl (by omega) w.heap.size b _ D _ (by simp) (by rw[World.cell?_alloc_at (hn:=by simp)];rfl) (by
   obtain⟨es,clock,hb,Ft,hs,hD⟩:=hown
   exact⟨es,clock,(Below.heap_alloc _ _ b hbl).trans hb,Ft,hs,hD⟩)
 have hc:=callsIn_wide.1 (AnyZ.sorted_in Tryz.sortedT Fence.wide 5 trivial trivial trivial trivial rfl (by omega) (sortsT _) (enters_of Tryz.func218 (by kernel_rfl) rfl) 219 #[.pointer (some ⟨w.heap.size,0,none⟩)] trivial (enters_of Tryz.func219 (by kernel_rfl) rfl) _ _ (by rw[hsz];unfold maxLen;omega) (by rw[hsz];omega) _ hseq);refine hc.mono ?_;rintro e w' ⟨v,ss,rfl,hp,hrow,hnil,hb⟩;obtain⟨ks,hks⟩:∃ks,ss.mergeSort (fun x y=>decide (x<=y))=ks:=⟨_,rfl⟩;have hkp:ks.Perm ss:=by rw[<-hks];exact List.mergeSort_perm _ _
 have hkT:ks.Perm ((T.map tyP).map fun p=>p.1):=(hkp.trans hp).trans (zJm hD Tryz.underlying9);rw[hks] at hrow;have hkl:ss.length=ks.length:=hkp.length_eq.symm;rw[hkl] at hrow;have hrow:w'.ownsRow _ 9 1 v ks.length (strs ks):=hrow;obtain⟨A,c,rfl,hcc,hH⟩:=zAh hrow;have hb0:Below w.heap.size w (w.alloc (.cells #[.map (some b)] 178)):=(Below.refl _ w).alloc (Nat.le_refl _) _;refine⟨A,c,ks,rfl,⟨?_,fun u=>?_,?_⟩,hH,hb0.trans (hb.mono (by simp))⟩
 ·have hle:ks.Pairwise fun a b=>decide (a<=b)=true:=by
   rw[<-hks];exact List.pairwise_mergeSort (fun a b c h1 h2=>by simp only[decide_eq_true_eq] at *;exact List.le_trans h1 h2) (fun a b=>by simp only[Bool.or_eq_true,decide_eq_true_eq];exact List.le_total a b) _
  have hnd:ks.Pairwise fun a b=>a≠b:=by refine (hkT.pairwise_iff fun h=>Ne.symm h).2 ?_;rw[List.pairwise_map];exact hD.nd
  refine (hle.and hnd).imp fun {a b} h=>?_
  obtain⟨h1,h2⟩:=h;by_cases q:a<b
  ·exact q
  ·exact absurd (List.le_antisymm (of_decide_eq_true h1) (List.not_lt.1 q)) h2
 ·rw [hkT.mem_iff];constructor
  ·intro h;obtain⟨p,hp,rfl⟩:=List.mem_map.1 h;obtain⟨t,ht,rfl⟩:=List.mem_map.1 hp;have hndT:T.Pairwise fun a b=>a.1≠b.1:=by have:=hD.nd;rw[List.pairwise_map] at this;exact this
   show (findT T t.1).isSome=true;rw[zCi hndT ht];rfl
  ·intro h;cases hf:findT T u with
   | none=>rw[hf] at h;cases h
   | some t=>
    obtain⟨h1,h2⟩:=zAr hf;exact List.mem_map.2 ⟨tyP t,List.mem_map_of_mem (f:=tyP) h1,h2⟩
 ·rw [hkT.length_eq];simp
def encH (x:List UInt8 × Nat):Value:=.agg #[.string (txt x.1),.int .i64 (x.2:Int)]
theorem perm_out {todo:List Hd} {h:Hd} (hd:todo.Pairwise fun a b=>a.1≠b.1) (hm:h∈todo):todo.Perm (h::todo.filter fun q=>decide (q.1≠h.1)):=by
 induction todo with
 | nil=>simp at hm
 | cons x l ih=>
  obtain⟨h1,h2⟩:=List.pairwise_cons.1 hd;rcases List.mem_cons.1 hm with rfl | hm
  ·rw [List.filter_cons_of_neg (by simp),List.filter_eq_self.2 fun y hy=>by simpa using (h1 y hy).symm]
  ·rw [List.filter_cons_of_pos (by simpa using h1 h hm)];exact ((ih h2 hm).cons x).trans (List.Perm.swap h x _)
theorem zO4 {l:List Hd} {s:List UInt8} {h:Hd} (e:findH l s=some h):h∈l/\h.1=s:=by
 induction l with
 | nil=>simp[findH] at e
 | cons x l ih=>
  unfold findH at e;split at e
  ·rename_i q;injection e with e
   subst e;exact⟨by simp,q⟩
  ·exact ⟨List.mem_cons_of_mem _ (ih e).1,(ih e).2⟩
theorem vals_in (F:Fence) (n:Nat) (hF:F.fn 252) (hro:F.round=none) (hn:1<=n) (l Bm b:Nat) (hs:List Hd) (D0:DataW Value) (J:List (List UInt8 × Nat)->World->Prop)
  (hY:∀pre x W,J pre W->pre.length<hs.length->YieldAt F (n-1) Tryz.prog l #[encH x] W fun e W'=>e=.returned (.bool true)/\J (pre++[x]) W'/\KeepsWalks W W')
  (W:World) (hJ:AbidesFrom W.heap.size J) (hm:W.cell? ⟨Bm,0,none⟩=some (.map (some b))) (hD:MapD W Tryz.prog 9 b (hs.map heldP) D0) (h0:J [] W):
  CallsIn F n Tryz.prog 252 #[.func (.yield l) #[] #[],.pointer (some ⟨Bm,0,none⟩)] W fun e W'=>(∃v,e=.returned v)/\∃ss:List (List UInt8 × Nat),ss.Perm (hs.map fun h=>h.2)/\J ss W':=by
 have hnd:hs.Pairwise fun a b=>a.1≠b.1:=by have:=hD.nd;rw[List.pairwise_map] at this;exact this
 obtain⟨nn,hnn⟩:∃nn,(hs.map heldP).length=nn:=⟨_,rfl⟩;have hown:=hD.own;rw[hnn] at hown;have hlook:=hide hD.look;clear hD;refine callsIn_of_wp Tryz.func252 rfl hF ?_ hro;simp only[Tryz.ntmps252,List.size_toArray,List.length_cons,List.length_nil,Nat.reduceAdd,Nat.reduceSub,Array.replicate_succ,Array.replicate_zero,List.push_toArray,List.append_toArray,List.nil_append,List.cons_append]
 gi_wp2_with (first
  |(gi_at_range;refine wpListIn_range_own _ rfl _ 188 rfl 9 230 (string_keyed Tryz.underlying9) Tryz.underlying188 _ b nn _ rfl hown ?_;intro w0 hrg0 hg0 hs0)
  | gi_in)
 go_frame
 gi_loopw [7] (fun _ wr=>∃(left:Lit->Bool) (cnt:Nat) (todo:List Hd) (ss:List (List UInt8 × Nat)),wr.ranges Tryz.prog 9 RV b W.heap.size nn D0 left cnt/\(∀h∈hs,left (.string h.1)=true↔h∈todo)/\todo.Sublist hs/\(ss++todo.map fun h=>h.2).Perm (hs.map fun h=>h.2)/\J ss wr)
  (fun _ wr=>wr.rangeLeft b W.heap.size)
 case atStart=>
  refine⟨_,_,hs,[],hrg0,fun h hh=>?_,List.Sublist.refl _,by simp,hJ [] W w0 none h0 hg0 (fun r e=>by cases e)⟩;have hin:lookP (hs.map heldP) h.1=some (heldP h).2:=zCv (p:=heldP h) (by rw[List.pairwise_map];exact hnd) (List.mem_map_of_mem (f:=heldP) hh);have:Maps.has D0 (.string h.1)=true:=Maps.has_true_of_atKey (y:=.held (heldP h).2) fun z=>by rw[hlook.out,hin]
  rw[this];simp[hh]
 case round=>
  obtain⟨left,cnt,todo,ss,hrg,hleft,hsub,hperm,hJs⟩:=hrel
  gi_wp2_with (first
   |(gi_at_next;refine wpListIn_next_ranges _ rfl _ rfl 9 (string_keyed Tryz.underlying9) RV Value.string id (fun key kl hk=>Maps.keyOf_string_inv Tryz.underlying9 hk) (fun v _ _=>⟨v,rfl⟩) b W.heap.size nn _ _ _ rfl hrg ?_ ?_)
   | gi_in)
  ·intro hc0 hl0;have ht:todo=[]:=List.eq_nil_iff_forall_not_mem.2 fun h hh=>by
    have:=(hleft h (hsub.subset hh)).2 hh;rw[hl0] at this;cases this
   subst ht;rw[List.map_nil,List.append_nil] at hperm
   gi_wp2
   go_end0
   exact⟨⟨_,rfl⟩,ss,hperm,hJs⟩
  ·intro x c kl yd yp w2 cnt2 hkey hlk hv hat hrg2 hlt hg2 hs2 hen;obtain rfl:kl=.string x.data.toList:=by
    simp only[keyOf,Tryz.underlying9,mapKey] at hkey;split at hkey
    ·injection hkey with hkey
     exact hkey.symm
    ·cases hkey
   obtain⟨s,hsx⟩:∃s,x.data.toList=s:=⟨_,rfl⟩;rw[hsx] at hlk hat hrg2;have hyd:yd=.held c:=by
    unfold RV at hv;injection hv with hv
    exact (Prod.mk.inj hv).1.symm
   subst hyd;have hfind:∃h,findH hs s=some h/\c=encH h.2:=by
    have e1:=hat (.agg []);rw[hlook.out,zGc] at e1;cases hf:findH hs s with
    | none=>rw[hf] at e1;cases e1
    | some h=>
     rw[hf] at e1;refine⟨h,rfl,?_⟩;injection e1 with e1
     exact e1.symm
   obtain⟨h,hf,rfl⟩:=hfind;obtain⟨hmem,hhs⟩:=zO4 hf;subst hhs;have htd:=(hleft h hmem).1 hlk;have hpo:=perm_out (hnd.sublist hsub) htd;have hlen:=hperm.length_eq;simp only[List.length_append,List.length_map] at hlen;have htl:=List.length_pos_of_mem htd;have hJ2:J ss w2:=hJ ss wr w2 (some W.heap.size) hJs hg2 (fun r e=>by cases e;exact⟨Nat.le_refl _,hrg.iter_walk⟩);have hJ3:J ss (w2.alloc (.cells #[.string (txt h.2.1),.int .i64 (h.2.2:Int)] 230)):=hJ ss w2 _ none hJ2 (World.grownBy_alloc _ _ _) (fun r e=>by cases e);obtain⟨fn,tmps,assign,body,hy,hR⟩:=hY ss h.2 _ hJ3 (by omega);clear hs2;unfold encH at hen hy ⊢;have hrg2a:=hrg2.alloc (.cells #[.string (txt h.2.1),.int .i64 (h.2.2:Int)] 230);have b0:(w2.alloc (.cells #[.string (txt h.2.1),.int .i64 (h.2.2:Int)] 230)).cell? ⟨w2.heap.size,0,none⟩=some (.string (txt h.2.1)):=by rw[World.cell?_alloc_at (hn:=by simp)];rfl
   have b1:(w2.alloc (.cells #[.string (txt h.2.1),.int .i64 (h.2.2:Int)] 230)).cell? ⟨w2.heap.size,1,none⟩=some (.int .i64 (h.2.2:Int)):=by rw[World.cell?_alloc_at (hn:=by simp)];rfl
   gi_wp2
   refine hR.mono ?_;rintro e W3 ⟨rfl,hJ4,hk3⟩
   gi_wp2
   have hrg3:=hrg2a.of_walks hk3
   go_roundw
   case rel=>
    refine⟨_,cnt2,todo.filter fun q=>decide (q.1≠h.1),ss++[h.2],hrg3,fun q hq=>?_,List.filter_sublist.trans hsub,?_,hJ4⟩
    ·have h2:(Lit.string q.1).sameKey (.string h.1)=decide (q.1=h.1):=by
      by_cases e:q.1=h.1
      ·rw [e,WideAt.sameKey_self isK];simp
      ·rw [Maps.sameKey_ne (fun z=>e (by injection z))];simp[e]
     rw[h2,Bool.and_eq_true,hleft q hq,List.mem_filter];simp
    ·refine List.Perm.trans ?_ hperm;rw[List.append_assoc];refine List.Perm.append_left ss ?_;exact (hpo.map fun h=>h.2).symm
   case measure=>rw[hrg3.left_eq,hrg.left_eq];exact hlt
def cellsH (ss:List (List UInt8 × Nat)):List Value:=ss.flatMap fun x=>[.string (txt x.1),.int .i64 (x.2:Int)]
theorem zDc (ss:List (List UInt8 × Nat)):(cellsH ss).length=ss.length*2:=by
 induction ss with
 | nil=>rfl
 | cons x ss ih=>unfold cellsH at ih ⊢;rw[List.flatMap_cons,List.length_append,ih];simp;omega
theorem zLj (ss:List (List UInt8 × Nat)) (x:List UInt8 × Nat):cellsH (ss++[x])=cellsH ss++[.string (txt x.1),.int .i64 (x.2:Int)]:=by
 unfold cellsH;rw[List.flatMap_append];rfl
theorem infoHd:(Tryz.prog.info? 230).map (fun i=>(i.zero,i.size,i.bytes))=some (some (.agg #[.string .empty,.int .i64 0]),2,24):=by kernel_rfl
theorem two_new (w:World) (u0 u1:Value) (t:TypeId):∀j u,[u0,u1][j]?=some u->(w.alloc (.cells #[u0,u1] t)).cell? ((⟨w.heap.size,0,none⟩:Addr).add j)=some u:=by
 intro j u hj
 match j,hj with
 | 0,hj=>obtain rfl:=Option.some.inj hj;show (w.alloc (.cells #[u0,u1] t)).cell? ⟨w.heap.size,0,none⟩=some u0;rw[World.cell?_alloc_at (hn:=by simp)];rfl
 | 1,hj=>obtain rfl:=Option.some.inj hj;show (w.alloc (.cells #[u0,u1] t)).cell? ⟨w.heap.size,1,none⟩=some u1;rw[World.cell?_alloc_at (hn:=by simp)];rfl
 | n+2,hj=>cases hj
def apTake:Code:=(Go.Code.region 2 #[{ dst:=some 5,op:=Go.Op.alloc 230,type:=0,pos:= "iter.go:51",after:=#[],guard:=none },{ dst:=none,op:=Go.Op.store 230 (Go.Operand.tmp 5) (Go.Operand.tmp 7),type:=0,pos:= "iter.go:51",after:=#[{ on:=0,ground:=Go.Ground.data },{ on:=0,ground:=Go.Ground.phase }],guard:=none }] false)
def apPut:Code:=(Go.Code.block 1 (Go.Code.region 3 #[{ dst:=some 8,op:=Go.Op.load 258 (Go.Operand.tmp 2),type:=258,pos:= "iter.go:52",after:=#[],guard:=none },{ dst:=some 9,op:=Go.Op.load 230 (Go.Operand.tmp 5),type:=230,pos:= "iter.go:52",after:=#[],guard:=none },{ dst:=some 10,op:=Go.Op.buildSlice 258 1 #[(0,Go.Operand.tmp 9)],type:=258,pos:= "iter.go:52",after:=#[{ on:=1,ground:=Go.Ground.data }],guard:=none },{ dst:=some 11,op:=Go.Op.call { callee:=Go.Callee.builtin Go.Builtin.append,args:=#[Go.Operand.tmp 8,Go.Operand.tmp 10],argTypes:=#[258,258] },type:=258,pos:= "iter.go:52",after:=#[{ on:=0,ground:=Go.Ground.data },{ on:=2,ground:=Go.Ground.data }],guard:=none },{ dst:=none,op:=Go.Op.store 258 (Go.Operand.tmp 2) (Go.Operand.tmp 11),type:=0,pos:= "iter.go:52",after:=#[{ on:=3,ground:=Go.Ground.data },{ on:=3,ground:=Go.Ground.chain },{ on:=0,ground:=Go.Ground.phase },{ on:=1,ground:=Go.Ground.phase },{ on:=2,ground:=Go.Ground.phase },{ on:=3,ground:=Go.Ground.phase }],guard:=none }] false))
def apLoop (fn:FuncId) (sv:Value) (Bs D:Nat) (st:LoopState):Loop:=
 { state:=st,pending:=none,fn,tmps:=#[.slice none 0 0,sv,.pointer (some ⟨Bs,0,none⟩),undef,.slice none 0 0,undef,sv,undef,undef,undef,undef,undef,undef],params:=#[7],assign:=apTake,body:=apPut,defers:=D }
structure ApH (w0:World) (fn:FuncId) (sv:Value) (Bs l D:Nat) (ss:List (List UInt8 × Nat)) (W:World):Prop where
 box:∃v,W.heap[Bs]?=some (.cells #[v] 258 (0,0))/\W.ownsRow w0.heap.size 230 2 v ss.length (cellsH ss)/\(v=.slice none 0 0↔ss=[])
 loop:W.heap[l]?=some (.loop (apLoop fn sv Bs D .ready))
 dfr:W.heap[D]?=some (.deferred (some []))
 below:Below w0.heap.size w0 W
theorem zN6 (w0:World) (fn:FuncId) (sv:Value) (Bs l D B:Nat) (hB:w0.heap.size<=B):AbidesFrom B (ApH w0 fn sv Bs l D):=fun s W W' row h hg hrow=>by
 have hrow':∀r,row=some r->∃o:Obj,W.heap[r]?=some o/\o.isWalk=true:=fun r e=>(hrow r e).2
 obtain⟨v,hv,hr,hn⟩:=h.box;exact⟨⟨v,(grownBy_keeps hg hrow' hv rfl).trans hv,ownsRow_abides_a hr hg hrow',hn⟩,(grownBy_keeps hg hrow' h.loop rfl).trans h.loop,(grownBy_keeps hg hrow' h.dfr rfl).trans h.dfr,
  h.below.grown hg h.below.size (fun k e=>Nat.le_trans hB (hrow k e).1)⟩
theorem zR5 (F:Fence) (m:Nat) (w0:World) (fn:FuncId) (hfn:F.fn fn) (sv:Value) (Bs l D:Nat) (hBl:Bs≠l) (hDl:D≠l) (hDB:D≠Bs) (h0B:w0.heap.size<=Bs) (h0l:w0.heap.size<=l)
  (N:Nat) (hN:N<=1000000000) (ss:List (List UInt8 × Nat)) (x:List UInt8 × Nat) (W:World) (h:ApH w0 fn sv Bs l D ss W) (hlen:ss.length<N):
  YieldAt F m Tryz.prog l #[encH x] W fun e W'=>e=.returned (.bool true)/\ApH w0 fn sv Bs l D (ss++[x]) W'/\KeepsWalks W W':=by
 obtain⟨i0,hi,hz0,hz1,hz2⟩:=info_parts infoHd;obtain⟨v,hv,hrow,_⟩:=h.box;obtain⟨tx,px⟩:=x;refine⟨fn,#[.slice none 0 0,sv,.pointer (some ⟨Bs,0,none⟩),undef,.slice none 0 0,undef,sv,encH (tx,px),undef,undef,undef,undef,undef],apTake,apPut,by simpa[apLoop] using run_yield (P:=Tryz.prog) (args:=#[encH (tx,px)]) h.loop rfl,roundIn_of_wpIn hfn ?_⟩;obtain⟨Wa,hWa⟩:∃Wa,W.alloc (.cells #[.string (txt tx),.int .i64 (px:Int)] 230)=Wa:=⟨_,rfl⟩;have hga:W.grownBy Wa none:=by rw[<-hWa];exact World.grownBy_alloc _ _ _
 have hka:KeepsWalks W Wa:=by rw[<-hWa];exact KeepsWalks.alloc _ _
 have hsa:Wa.heap.size=W.heap.size+1:=by rw[<-hWa];simp
 have hlW:l<W.heap.size:=(Array.getElem?_eq_some_iff.1 h.loop).1;have hBW:Bs<W.heap.size:=(Array.getElem?_eq_some_iff.1 hv).1;have hDW:D<W.heap.size:=(Array.getElem?_eq_some_iff.1 h.dfr).1;have hva:Wa.heap[Bs]?=some (.cells #[v] 258 (0,0)):=(hga.block Bs hBW (by simp)).trans hv;have hLa:Wa.heap[l]?=some (.loop (apLoop fn sv Bs D .ready)):=(hga.block l hlW (by simp)).trans h.loop;have hKa:Wa.heap[D]?=some (.deferred (some [])):=(hga.block D hDW (by simp)).trans h.dfr;have hrowa:Wa.ownsRow w0.heap.size 230 2 v ss.length (cellsH ss):=by rw[<-hWa];exact hrow.alloc _
 have hba:Below w0.heap.size w0 Wa:=by rw[<-hWa];exact h.below.alloc h.below.size _
 have ca0:Wa.cell? ⟨W.heap.size,0,none⟩=some (.string (txt tx)):=by rw[<-hWa,World.cell?_alloc_at (hn:=by simp)];rfl
 have ca1:Wa.cell? ⟨W.heap.size,1,none⟩=some (.int .i64 (px:Int)):=by rw[<-hWa,World.cell?_alloc_at (hn:=by simp)];rfl
 have hbr:=run_beginRound (P:=Tryz.prog) hLa rfl;obtain⟨W2,hW2⟩:∃W2,Wa.putObj l (.loop (apLoop fn sv Bs D .busy))=W2:=⟨_,rfl⟩;have hbr:(Instr.beginRound l).run Tryz.prog Wa=.ok () W2:=by rw[<-hW2];exact hbr
 have hl:l<Wa.heap.size:=by omega
 have hg2:Wa.grownBy W2 (some l):=by rw[<-hW2];exact grownBy_putObj_a _ _ _
 have hk2:KeepsWalks W W2:=hka.trans (by rw[<-hW2];exact KeepsWalks.putObj _ hLa rfl);have hv2:W2.heap[Bs]?=some (.cells #[v] 258 (0,0)):=by rw[<-hW2];exact (World.putObj_heap_other hBl).trans hva
 have hK2:W2.heap[D]?=some (.deferred (some [])):=by rw[<-hW2];exact (World.putObj_heap_other hDl).trans hKa
 have hL2:W2.heap[l]?=some (.loop (apLoop fn sv Bs D .busy)):=by rw[<-hW2];exact World.putObj_heap_same hl
 have hrow2:W2.ownsRow w0.heap.size 230 2 v ss.length (cellsH ss):=hrowa.kept hg2 (ownsRow_ne_a hrowa hLa (fun cur e=>by cases e));have hb2:Below w0.heap.size w0 W2:=hba.grown hg2 hba.size (fun k e=>by cases e;exact h0l);have hne:W.heap.size≠l:=by omega
 have hs2:W2.heap.size=W.heap.size+1:=by rw[<-hW2,<-hsa];simp
 have c20:W2.cell? ⟨W.heap.size,0,none⟩=some (.string (txt tx)):=(World.cell?_of_block (a:=⟨W.heap.size,0,none⟩) (hg2.block W.heap.size (by omega) (fun e=>hne (by injection e)))).trans ca0;have c21:W2.cell? ⟨W.heap.size,1,none⟩=some (.int .i64 (px:Int)):=(World.cell?_of_block (a:=⟨W.heap.size,1,none⟩) (hg2.block W.heap.size (by omega) (fun e=>hne (by injection e)))).trans ca1;obtain⟨hc2,hf2⟩:=cell_of_box_a hv2;have hBlt:Bs<W2.heap.size:=by omega
 have hl2:l<W2.heap.size:=by omega
 have hDlt:D<W2.heap.size:=by omega
 have ne_of:∀{j:Nat} {o:Obj},W2.heap[j]?=some o->(∀cur,o≠.cells cur 230 (0,0))->some j≠v.ownBlock:=fun hj hno=>by
  rcases ownsRow_ne_a hrow2 hj hno with e | e
  ·rw [e];simp
  ·exact fun e'=>e e'.symm
 have hcel:∀cur,(Obj.cells #[v] 258 (0,0))≠.cells cur 230 (0,0):=fun cur e=>by simp at e
 obtain⟨p,hp⟩:∃p,W.heap.size=p:=⟨_,rfl⟩;clear hW2 ca0 ca1 hva hLa hKa hrowa hba hl hs2 hsa hlW hBW hDW;unfold apTake encH
 gi_wp2_with gi_round_op_a
 (try rw[hWa]);(try rw[hp]);rw[hp] at c20 c21;refine⟨W2,hbr,?_⟩;clear hWa hbr;unfold apPut
 gi_wp2_with (first
  |(gi_at_builtin;refine wpListIn_append_own _ rfl _ _ 258 rfl w0.heap.size 230 i0 (.agg #[.string .empty,.int .i64 0]) 2 24 Tryz.underlying258 hi hz0 hz1 hz2 rfl (by decide) _ _ _ rfl (hrow2.alloc _) ⟨W2.heap.size,0,none⟩ 1 1 [.string (txt tx),.int .i64 (px:Int)] rfl rfl (two_new _ _ _ _) (by simp[Value.oneCell']) (by unfold maxLen;omega) (by omega) (by have:=hb2.size;simp;omega) ?_;intro v' w3 hown' hg3 hnil3
    have hv3:w3.heap[Bs]?=some (.cells #[v] 258 (0,0)):=(hg3.block Bs (by simp;omega) (ne_of hv2 hcel)).trans ((Below.heap_alloc _ _ Bs hBlt).trans hv2)
    obtain⟨hc3,hf3⟩:=cell_of_box_a hv3
    obtain⟨g',cap',cur',rfl,hbase',hgb',hr1,hr2,hr3,hr4⟩:∃g' cap' cur',v'=.slice (some ⟨g',0,none⟩) (ss.length+1) cap'/\w0.heap.size<=g'/\w3.heap[g']?=some (.cells cur' 230 (0,0))/\ss.length+1<=cap'/\cap'<=maxLen/\cur'.size=cap'*2/\cur'.toList.take ((ss.length+1)*2)=cellsH ss++[.string (txt tx),.int .i64 (px:Int)]:=by
     rcases hown'.2 with⟨_,h0⟩ | h'
     ·exact absurd h0 (by omega)
     ·exact h'
    go_frame)
  | gi_round_op_a)
 have hg3:(W2.alloc (.cells #[.string (txt tx),.int .i64 (px:Int)] 230)).grownBy w3 v.ownBlock:=hg3;have hcl:∀(o:Loop) (cur:Array Value),(Obj.loop o)≠.cells cur 230 (0,0):=fun o cur e=>by cases e
 have hcd:∀(cur:Array Value),(Obj.deferred (some []))≠.cells cur 230 (0,0):=fun cur e=>by cases e
 have hL3:w3.heap[l]?=some (.loop (apLoop fn sv Bs D .busy)):=(hg3.block l (by simp;omega) (ne_of hL2 (hcl _))).trans ((Below.heap_alloc _ _ l hl2).trans hL2);have hK3:w3.heap[D]?=some (.deferred (some [])):=(hg3.block D (by simp;omega) (ne_of hK2 hcd)).trans ((Below.heap_alloc _ _ D hDlt).trans hK2);obtain⟨w4,hw4⟩:∃w4,w3.setCell ⟨Bs,0,none⟩ (.slice (some ⟨g',0,none⟩) (ss.length+1) cap')=w4:=⟨_,rfl⟩;rw[hw4];have hg4:w3.grownBy w4 (some Bs):=by rw[<-hw4];exact grownBy_setCell0_a _ _ _
 have hv4:w4.heap[Bs]?=some (.cells #[.slice (some ⟨g',0,none⟩) (ss.length+1) cap'] 258 (0,0)):=by rw[<-hw4];exact heap_setCell_box_a _ hv3
 have hL4:w4.heap[l]?=some (.loop (apLoop fn sv Bs D .busy)):=(hg4.block l (Array.getElem?_eq_some_iff.1 hL3).1 (fun e=>hBl (by cases e;rfl))).trans hL3;have hK4:w4.heap[D]?=some (.deferred (some [])):=(hg4.block D (Array.getElem?_eq_some_iff.1 hK3).1 (fun e=>hDB (by cases e;rfl))).trans hK3;have hrow4:=hown'.kept hg4 (ownsRow_ne_a hown' hv3 hcel);have hb3:Below w0.heap.size w0 w3:=(hb2.alloc hb2.size _).grown hg3 (by have:=hb2.size;simp;omega) (fun k e=>(hrow2.lt k e).1);have hb4:Below w0.heap.size w0 w4:=hb3.grown hg4 hb3.size (fun k e=>by cases e;exact h0B);have hk4:KeepsWalks W w4:=((hk2.trans (KeepsWalks.alloc _ _)).trans (KeepsWalks.of_grownBy hg3 (ownsRow_not_walk_a (hrow2.alloc _)))).trans (by rw[<-hw4];exact KeepsWalks.setCell _ _ _);have hl4:l<w4.heap.size:=(Array.getElem?_eq_some_iff.1 hL4).1;have hput:=grownBy_putObj_a w4 l (.loop (apLoop fn sv Bs D .ready));have hrow5:=hrow4.kept hput (ownsRow_ne_a hrow4 hL4 (hcl _));have esn:cellsH (ss++[(tx,px)])=cellsH ss++[.string (txt tx),.int .i64 (px:Int)]:=zLj ss (tx,px);rw[<-esn] at hrow5;clear hw4;refine⟨_,_,run_endRound none hL4,rfl,⟨⟨_,(World.putObj_heap_other hBl).trans hv4,?_,by simp⟩,World.putObj_heap_same hl4,(World.putObj_heap_other hDl).trans hK4,hb4.grown hput hb4.size (fun k e=>by cases e;exact h0l)⟩,hk4.trans (KeepsWalks.putObj _ hL4 rfl)⟩;have:=hrow5;rw[List.length_append];exact this
theorem zSm (F:Fence) (n:Nat) (hF:F.fn 288) (hro:F.round=none) (hn:2<=n) (g:Nat) (lb:Array Value) (hFg:F.fn g) (eg:∀args w,(callFunc g args).run Tryz.prog w=.ok (.enter g args) w)
  (S:List (List UInt8 × Nat)->Prop) (N:Nat) (hN:N<=1000000000) (w:World) (hseq:SeqGives F (n-1) Tryz.prog g lb encH S N w):
  CallsIn F n Tryz.prog 288 #[.slice none 0 0,.func (.func g) #[] lb] w fun e w'=>∃(v:Value) (ss:List (List UInt8 × Nat)),e=.returned v/\S ss/\w'.ownsRow w.heap.size 230 2 v ss.length (cellsH ss)/\(v=.slice none 0 0↔ss=[])/\Below w.heap.size w w':=by
 have h1:1<=n:=by omega
 refine callsIn_of_wp_marks Tryz.func288 rfl hF ?_ hro;simp only[Tryz.ntmps288,List.size_toArray,List.length_cons,List.length_nil,Nat.reduceAdd,Nat.reduceSub,Array.replicate_succ,Array.replicate_zero,List.push_toArray,List.append_toArray,List.nil_append,List.cons_append]
 gi_wp2
 refine wpIn_rangeFunc ?_;intro fn hfn;rw[hro];obtain⟨W0,hW0⟩:∃W0,w.alloc (.cells #[.slice none 0 0] 258)=W0:=⟨_,rfl⟩;have hs0:W0.heap.size=w.heap.size+1:=by rw[<-hW0];simp
 have hv0:W0.heap[w.heap.size]?=some (.cells #[.slice none 0 0] 258 (0,0)):=by rw[<-hW0];exact World.alloc_heap_new w _
 have hb0:Below w.heap.size w W0:=by rw[<-hW0];exact (Below.refl _ w).alloc (Nat.le_refl _) _
 rw[hW0];obtain⟨W1,hW1⟩:∃W1,(W0.alloc (.deferred (some []))).alloc (.loop (apLoop fn (.func (.func g) #[] lb) w.heap.size W0.heap.size .ready))=W1:=⟨_,rfl⟩;have hold:∀k,k<W0.heap.size->W1.heap[k]?=W0.heap[k]?:=fun k hk=>by
  rw[<-hW1];exact (Below.heap_alloc _ _ k (by simp;omega)).trans (Below.heap_alloc _ _ k hk)
 have hb1:Below w.heap.size w W1:=by rw[<-hW1];exact (hb0.alloc hb0.size _).alloc (by have:=hb0.size;simp;omega) _
 have hM:ApH w fn (.func (.func g) #[] lb) w.heap.size (W0.heap.size+1) W0.heap.size [] W1:=
  ⟨⟨_,(hold w.heap.size (by omega)).trans hv0,⟨rfl,.inl ⟨rfl,rfl⟩⟩,by simp⟩,
   by rw[<-hW1];have:=World.alloc_heap_new (W0.alloc (.deferred (some []))) (.loop (apLoop fn (.func (.func g) #[] lb) w.heap.size W0.heap.size .ready));rwa [World.size_alloc] at this,
   by rw[<-hW1];exact (Below.heap_alloc _ _ _ (by simp)).trans (World.alloc_heap_new W0 _),hb1⟩
 refine⟨W0.heap.size+1,[{ target:=.collected W0.heap.size,args:=#[] }],W1,{ target:=.fn (.func g) lb,args:=#[.func (.yield (W0.heap.size+1)) #[] #[]] },W1,g,
  #[.func (.yield (W0.heap.size+1)) #[] #[]]++lb,W1,?_,?_,?_,?_,fun _=>h1,?_⟩
 ·rw [<-hW1];exact run_enterLoop_outer _ _ _ _ _
 ·simp [resolve,go_sem]
 ·intro f' hf';simp[Target.leads] at hf';subst hf';exact hFg
 ·simp [invoke,go_sem,eg]
 ·refine (hseq (W0.heap.size+1) (ApH w fn (.func (.func g) #[] lb) w.heap.size (W0.heap.size+1) W0.heap.size) W1 hb1 (zN6 _ _ _ _ _ _ _ hb1.size)
   (fun pre x W hJ hl=>zR5 F (n-1-1) w fn hfn _ w.heap.size (W0.heap.size+1) W0.heap.size (by omega) (by omega) (by omega) (Nat.le_refl _) (by omega) N hN pre x W hJ hl) hM).mono ?_
  rintro e W2 ⟨⟨v0,rfl⟩,ss,hS,h2⟩;obtain⟨v,hv,hrow,hnil⟩:=h2.box;have hend:=run_endLoop (P:=Tryz.prog) h2.loop (by simp[apLoop]);obtain⟨W3,hW3⟩:∃W3,W2.putObj (W0.heap.size+1) (.loop (apLoop fn (.func (.func g) #[] lb) w.heap.size W0.heap.size .exhausted))=W3:=⟨_,rfl⟩;have hend:(Instr.endLoop (W0.heap.size+1)).run Tryz.prog W2=.ok none W3:=by rw[<-hW3];exact hend
  have hg3:W2.grownBy W3 (some (W0.heap.size+1)):=by rw[<-hW3];exact grownBy_putObj_a _ _ _
  have hv3:W3.heap[w.heap.size]?=some (.cells #[v] 258 (0,0)):=by rw[<-hW3];exact (World.putObj_heap_other (by omega)).trans hv
  have hK3:W3.heap[W0.heap.size]?=some (.deferred (some [])):=by rw[<-hW3];exact (World.putObj_heap_other (by omega)).trans h2.dfr
  have hrow3:=hrow.kept hg3 (ownsRow_ne_a hrow h2.loop (fun cur e=>by cases e));have hb3:Below w.heap.size w W3:=h2.below.grown hg3 h2.below.size (fun k e=>by cases e;omega);obtain⟨hc3,hf3⟩:=cell_of_box_a hv3;clear hW3;refine⟨none,W3,hend,?_⟩
  gi_wp2
  rw[<-hs0];refine⟨by simp,.inl ⟨_,_,rfl,run_takeDeferred hK3,?_⟩⟩;exact⟨_,results_tmp rfl _ _ _,v,ss,rfl,hS,hrow3.kept (grownBy_putObj_a _ _ _) (ownsRow_ne_a hrow3 hK3 (fun cur e=>by cases e)),hnil,hb3.grown (grownBy_putObj_a _ _ _) hb3.size (fun k e=>by cases e;omega)⟩
abbrev VP:=List UInt8 × Nat
def cfH (x y:VP):Int:=if x.2<y.2 then -1 else if y.2<x.2 then 1 else 0
theorem lt_cfH (x y:VP):ltOf cfH x y=decide (x.2<y.2):=by
 unfold ltOf cfH;by_cases h:x.2<y.2
 ·simp [h]
 ·by_cases h2:y.2<x.2<;>simp[h,h2]
theorem swo_cfH:SWO (ltOf cfH):=by
 constructor
 all_goals
  intros
  simp only[lt_cfH,decide_eq_true_eq,decide_eq_false_iff_not] at *;omega
def encHc (x:VP):List Value:=[.string (txt x.1),.int .i64 (x.2:Int)]
theorem encHc_len (x:VP):(encHc x).length=2:=rfl
theorem encHc_one (x:VP):∀v∈encHc x,v.oneCell'=true:=by
 intro v hv;simp only[encHc,List.mem_cons,List.not_mem_nil,or_false] at hv;rcases hv with rfl | rfl<;>rfl
theorem zJi (l:List VP) (i:Nat) (x:VP) (h:l[i]?=some x):(cellsH l)[i*2]?=some (.string (txt x.1))/\(cellsH l)[i*2+1]?=some (.int .i64 (x.2:Int)):=by
 induction l generalizing i with
 | nil=>simp at h
 | cons y l ih=>
  cases i with
  | zero=>
   obtain rfl:y=x:=by simpa using h
   exact⟨rfl,rfl⟩
  | succ i=>
   have:=ih i (by simpa using h);rw[show (i+1)*2=i*2+1+1 by omega,show i*2+1+1+1=(i*2+1)+1+1 by omega];exact this
theorem zGa (l:List VP) (t:Nat) (ht:t<l.length*2):(cellsH l)[t]?=some ((flatK encHc 2 l.toArray)[t]!):=by
 rw[get_flatK encHc 2 l.toArray t (by simpa using ht)];have hi:t/2<l.length:=by omega
 have ha:l[t/2]?=some l[t/2]:=List.getElem?_eq_getElem hi;have hb:l.toArray[t/2]! =l[t/2]:=by simp[hi]
 obtain⟨h1,h2⟩:=zJi l (t/2) _ ha;rw[hb];rcases Nat.mod_two_eq_zero_or_one t with h | h
 ·rw [h];have e:t/2*2=t:=by omega
  rw[e] at h1;exact h1
 ·rw [h];have e:t/2*2+1=t:=by omega
  rw[e] at h2;exact h2
theorem zPc {w:World} {base g n cap:Nat} {l:List VP} (h:w.ownsRow base 230 2 (.slice (some ⟨g,0,none⟩) n cap) n (cellsH l)):HoldsK encHc 2 w g 0 l.toArray:=by
 have hn:=h.1;rw[zDc] at hn;rcases h.2 with⟨h0,_⟩ | ⟨g',cap',cur,hv,_,hh,_,_,hsz,_⟩
 ·cases h0
 ·simp only[Value.slice.injEq,Option.some.injEq,Addr.mk.injEq] at hv;obtain⟨⟨rfl,_⟩,_⟩:=hv;intro j hj;rw[size_flatK] at hj;simp only[List.size_toArray] at hj;have hc:=h.cellAt j (by omega);have hf:=zGa l j hj;refine⟨?_,?_⟩
  ·rw [Nat.zero_add,hc,hf];rfl
  ·simp [World.frozen?,hh]
theorem zOz {w:World} {g:Nat} {l:List VP} (hg:g<w.heap.size) (h:HoldsK encHc 2 w g 0 l.toArray):Has w w.heap.size 2 (some ⟨g,0,none⟩) l.length (cellsH l):=by
 refine⟨zDc l,.inr ⟨_,rfl,hg,fun j u hu=>?_⟩⟩;have hj:j<l.length*2:=by
  have:=(List.getElem?_eq_some_iff.1 hu).1
  rwa [zDc] at this
 have h1:=(h j (by rw[size_flatK];simpa using hj)).1;have hf:=zGa l j hj;rw[hu] at hf;obtain rfl:=Option.some.inj hf;rw[Nat.zero_add] at h1;have e:(⟨g,0,none⟩:Addr).add j=⟨g,j,none⟩:=by unfold Addr.add;split<;>simp_all
 rw[e];exact h1
def cfI (a b:Int):Int:=if a<b then -1 else if b<a then 1 else 0
theorem nanH (a:Int) (w:World):
  Calls Tryz.prog 253 #[.int .i64 a] w fun e w'=>e=.returned (.bool false)/\w'=w:=by
 go_enter Tryz.func253,Tryz.ntmps253;go_wp2;go_ret;exact⟨by first | rfl | simp,rfl⟩
theorem cmpI_any (a b:Int) (w:World):
  Calls Tryz.prog 223 #[.int .i64 a,.int .i64 b] w fun e w'=>e=.returned (.int .i64 (cfI a b))/\w'=w:=by
 unfold cfI;have hn:=fun a w=>nanH a w
 rcases Int.lt_trichotomy a b with h | h | h
 ·go_enter Tryz.func223,Tryz.ntmps223;go_wp2_with (go_at_call 253;refine (hn _ _).mono ?_;rintro e w1 ⟨rfl,rfl⟩);go_ret;exact⟨by first | rfl | simp,rfl⟩
 ·subst h;have h1:¬a<a:=by omega
  go_enter Tryz.func223,Tryz.ntmps223;go_wp2_with (go_at_call 253;refine (hn _ _).mono ?_;rintro e w1 ⟨rfl,rfl⟩);go_ret;exact⟨by first | rfl | simp,rfl⟩
 ·have h1:¬a<b:=by omega
  go_enter Tryz.func223,Tryz.ntmps223;go_wp2_with (go_at_call 253;refine (hn _ _).mono ?_;rintro e w1 ⟨rfl,rfl⟩);go_ret;exact⟨by first | rfl | simp,rfl⟩
theorem cmpH_any (x y:VP) (W:World):Calls Tryz.prog 222 #[.agg #[.string (txt x.1),.int .i64 (x.2:Int)],.agg #[.string (txt y.1),.int .i64 (y.2:Int)]] W fun e w'=>e=.returned (.int .i64 (cfH x y))/\∃q os',w'=grow (W.drewN q) os':=by
 have hC:=fun w=>cmpI_any (x.2:Int) (y.2:Int) w
 have he:cfH x y=cfI (x.2:Int) (y.2:Int):=by unfold cfH cfI;simp
 rw[he];clear he;generalize cfI (x.2:Int) (y.2:Int)=r at *;generalize txt x.1=X1 at *;generalize txt y.1=Y1 at *;generalize (x.2:Int)=a at *;generalize (y.2:Int)=b at *;go_enter Tryz.func222,Tryz.ntmps222;go_wp2_with (go_at_call 223;refine (hC _).mono ?_;rintro e w' ⟨rfl,rfl⟩);go_ret;exact⟨rfl,0,_,by rw[alloc_eq_grow,alloc_eq_grow,grow_grow];rfl⟩
theorem zGh {base:Nat} (w:World) (g n:Nat) (d:Array VP) (os:Array Obj) (hb:base<=g) (hg:g<w.heap.size) (hbs:base<=w.heap.size):Below base w (sortWorldK encHc 2 w g 0 n d os):=by
 unfold sortWorldK;refine⟨rfl,rfl,rfl,?_,fun k hk=>?_⟩
 ·simp [grow,putRowK,putRow,mapBlock,Sort.ahead]
 ·simp only[grow,putRowK,putRow,mapBlock,Sort.ahead];rw[Array.getElem?_append_left (by simp;omega),Array.getElem?_modify,if_neg (by omega)]
theorem zL4 {l m:List VP} (hl:l.Pairwise fun a b=>a.2<b.2) (hm:m.Pairwise fun a b=>¬b.2<a.2) (hp:m.Perm l):m=l:=by
 induction l generalizing m with
 | nil=>exact List.perm_nil.1 hp
 | cons a l ih=>
  obtain⟨l1,l2⟩:=List.pairwise_cons.1 hl;cases m with
  | nil=>exact absurd (List.nil_perm.1 hp) (by simp)
  | cons b m=>
   obtain⟨m1,m2⟩:=List.pairwise_cons.1 hm;have hb:b=a:=by
    rcases List.mem_cons.1 (hp.subset (by simp:b∈b::m)) with q | q
    ·exact q
    ·rcases List.mem_cons.1 (hp.symm.subset (by simp:a∈a::l)) with q' | q'
     ·exact q'.symm
     ·exact absurd (l1 b q) (m1 a q')
   subst hb;rw[ih l2 m2 ((List.perm_cons b).1 hp)]
theorem zQp (w:World) (base g cap:Nat) (l:List VP) (vs:List VP) (hvs:vs.Pairwise fun a b=>a.2<b.2) (hp:l.Perm vs) (hb:base<=w.heap.size) (hlen:l.length<=1000000000) (h:w.ownsRow base 230 2 (.slice (some ⟨g,0,none⟩) l.length cap) l.length (cellsH l)) (hg:g<w.heap.size) (hbg:base<=g):
  Calls Tryz.prog 251 #[.slice (some ⟨g,0,none⟩) l.length cap,.func (.func 222) #[] #[]] w fun e w'=>e=.returned (.tuple #[])/\Has w' w'.heap.size 2 (some ⟨g,0,none⟩) l.length (cellsH vs)/\Below base w w':=by
 have eg:∀args w,(callFunc 222 args).run Tryz.prog w=.ok (.enter 222 args) w:=enters_of Tryz.func222 (by kernel_rfl) rfl;have hH:=zPc h;have hcon:=AnyQ.slices_SortFunc Tryz.sortHeld 2 (fun w=>by kernel_rfl) (fun w=>by kernel_rfl) encHc encHc_len encHc_one cfH swo_cfH 222 #[] g 0 cap l.toArray w eg (fun _ _ _ _ x y=>cmpH_any x y _) hH hg (by simp;omega);refine Calls.mono hcon ?_;rintro e w' ⟨rfl,d',n,os,hperm,hsorted,rfl⟩;have hsz:d'.size=l.toArray.size:=hperm.1;refine⟨rfl,?_,zGh w g n _ os hbg hg hb⟩;have hds:d'.toList=vs:=by
  obtain⟨_,_,h3⟩:=hperm;have e1:(d'.extract 0 l.toArray.size)=d':=by rw[<-hsz];simp
  have e2:(l.toArray.extract 0 l.toArray.size)=l.toArray:=by simp
  rw[e1,e2] at h3;refine zL4 hvs ?_ (h3.trans (by simpa using hp));rw[List.pairwise_iff_getElem];intro i j hi hj hij;have hq:=hsorted i j (Nat.zero_le _) hij (by rw[<-hsz];simpa using hj);rw[lt_cfH] at hq;simp only[Array.length_toList] at hi hj;have q1:d'[i]! =d'[i]:=by simp[hi]
  have q2:d'[j]! =d'[j]:=by simp[hj]
  rw[q1,q2] at hq;simpa using hq
 have h1:=holdsK_sortWorldK_c encHc 2 w g 0 l.toArray d' n os hH hg hsz;have hda:d'=vs.toArray:=by rw[<-hds]
 have hll:l.length=vs.length:=hp.length_eq;rw[hll];refine zOz (Nat.lt_of_lt_of_le hg (zGh w g n _ os hbg hg hb).size) ?_;rw[<-hda];exact h1
theorem zMa (F:Fence) (n:Nat) (hC:F.fn 250) (hA:F.fn 288) (hro:F.round=none) (hn:3<=n) (g:Nat) (lb:Array Value) (hFg:F.fn g) (eg:∀args w,(callFunc g args).run Tryz.prog w=.ok (.enter g args) w)
  (S:List (List UInt8 × Nat)->Prop) (N:Nat) (hN:N<=1000000000) (w:World) (hseq:SeqGives F (n-1-1) Tryz.prog g lb encH S N w):
  CallsIn F n Tryz.prog 250 #[.func (.func g) #[] lb] w fun e w'=>∃(v:Value) (ss:List (List UInt8 × Nat)),e=.returned v/\S ss/\w'.ownsRow w.heap.size 230 2 v ss.length (cellsH ss)/\(v=.slice none 0 0↔ss=[])/\Below w.heap.size w w':=by
 have h1:1<=n:=by omega
 have e11:∀args w,(callFunc 288 args).run Tryz.prog w=.ok (.enter 288 args) w:=enters_of Tryz.func288 (by kernel_rfl) rfl;refine callsIn_of_wp Tryz.func250 rfl hC ?_ hro;simp only[Tryz.ntmps250,List.size_toArray,List.length_cons,List.length_nil,Nat.reduceAdd,Nat.reduceSub,Array.replicate_succ,Array.replicate_zero,List.push_toArray,List.append_toArray,List.nil_append,List.cons_append]
 gi_wp2_with (gi_at_fn 288;refine (zSm F (n-1) hA hro (by omega) g lb hFg eg S N hN _ hseq).mono ?_;rintro e w' ⟨v,ss,rfl,hS,hrow,hnil,hb⟩)
 go_ret;exact⟨v,ss,rfl,hS,hrow,hnil,hb⟩
theorem zPa (n:Nat) (hn:1<=n) (w:World) (Bm b:Nat) (hs:List Hd) (hBm:Bm<w.heap.size) (hm:w.cell? ⟨Bm,0,none⟩=some (.map (some b))) (hL:MapL w Tryz.prog 9 b (hs.map heldP)):
  SeqGives Fence.wide n Tryz.prog 252 #[.pointer (some ⟨Bm,0,none⟩)] encH (fun ss=>ss.Perm (hs.map fun h=>h.2)) hs.length w:=fun l J W hW hJ hY h0=>by
 obtain⟨D,hD⟩:=hL.below hL.lt hW;exact vals_in Fence.wide n trivial rfl hn l Bm b hs D J hY W hJ ((hW.cell (p:=⟨Bm,0,none⟩) hBm).trans hm) hD h0
theorem zLq (b:Nat) (w:World):Calls Tryz.prog 221 #[.map (some b)] w fun e w'=>e=.returned (.func (.func 252) #[] #[.pointer (some ⟨w.heap.size,0,none⟩)])/\w'=w.alloc (.cells #[.map (some b)] 188):=by
 go_enter Tryz.func221,Tryz.ntmps221;go_wp2;go_ret;exact⟨rfl,rfl⟩
theorem zL2 (w:World) (Bm b:Nat) (hs:List Hd) (hm:w.cell? ⟨Bm,0,none⟩=some (.map (some b))) (hL:MapL w Tryz.prog 9 b (hs.map heldP)) (hne:hs≠[]) (hpl:hs.Pairwise fun a b=>a.2.2<b.2.2) (hlen:hs.length<=1000000000):
  Calls Tryz.prog 220 #[.func (.func 252) #[] #[.pointer (some ⟨Bm,0,none⟩)],.func (.func 222) #[] #[]] w fun e w'=>
   ∃A c,e=.returned (.slice A hs.length c)/\Has w' w'.heap.size 2 A hs.length (cellsH (hs.map fun h=>h.2))/\Below w.heap.size w w':=by
 have hBm:Bm<w.heap.size:=zDb hm;have hpl2:(hs.map fun h=>h.2).Pairwise fun a b=>a.2<b.2:=by rw[List.pairwise_map];exact hpl
 have eg:∀args w,(callFunc 252 args).run Tryz.prog w=.ok (.enter 252 args) w:=enters_of Tryz.func252 (by kernel_rfl) rfl;have hc:=callsIn_wide.1 (zMa Fence.wide 3 trivial trivial rfl (Nat.le_refl _) 252 #[.pointer (some ⟨Bm,0,none⟩)] trivial eg _ hs.length hlen w (zPa 1 (Nat.le_refl _) w Bm b hs hBm hm hL));have HC:=hide hc;have HP:=hide hpl2;have HN:=hide hne;have HL:=hide hlen;clear hc hpl2 hpl hL hm hBm eg hne hlen;go_enter Tryz.func220,Tryz.ntmps220;go_wp2_with (go_at_call 250;fail);refine HC.out.mono ?_;rintro e w2 ⟨v,ss,rfl,hS,hrow,hnil,hb2⟩;have hl:ss.length=hs.length:=by rw[hS.length_eq,List.length_map]
 have hssn:ss≠[]:=fun q=>HN.out (List.length_eq_zero_iff.1 (by rw[<-hl,q];rfl))
 rcases hrow.2 with⟨rfl,hz⟩ | ⟨gb,cap,cur,rfl,hbase,hgb,r1,r2,r3,r4⟩
 ·exact absurd (hnil.1 rfl) hssn
 ·have hgl:gb<w2.heap.size:=(Array.getElem?_eq_some_iff.1 hgb).1;have cS:=zQp w2 w.heap.size gb cap ss (hs.map fun h=>h.2) HP.out hS hb2.size (by rw[hl];exact HL.out) hrow hgl hbase;have HS:=hide cS;have HB:=hide hb2;have Hl:=hide hl;clear cS hrow hnil hS hb2 hgb r1 r2 r3 r4 hbase hgl hssn hl HC HP HN HL;obtain⟨k,hk⟩:∃k,ss.length=k:=⟨_,rfl⟩;rw[hk] at HS Hl;rw[hk];clear hk;go_wp2_with (go_at_call 251;fail);refine HS.out.mono ?_;rintro e w3 ⟨rfl,hH,hb3⟩;have HH:=hide hH;have HB3:=hide (HB.out.trans hb3);clear hH hb3 HB HS;go_wp2;go_ret;have:=HH.out;rw[Hl.out] at this;exact⟨some ⟨gb,0,none⟩,cap,by rw[Hl.out];rfl,this,HB3.out⟩
end Go.Proofs.YtdkekamkmlpnhaaGreatDoor
namespace Go.Proofs.YtdkekamkmlpnhaaGreatDoor
open Go.RowKit Go.Maps
theorem zKt (w:World) (b:Nat) (hs:List Hd) (hL:MapL w Tryz.prog 9 b (hs.map heldP)) (hne:hs≠[]) (hpl:hs.Pairwise fun a b=>a.2.2<b.2.2) (hlen:hs.length<=1000000) (hvs:∀h∈hs,h.2.1.length<=1000000):
  Calls Tryz.prog 191 #[.map (some b)] w (NewTexts (hs.map fun h:Hd=>h.2.1) w):=by
 suffices H:Calls Tryz.prog 191 #[.map (some b)] w fun e w'=>∃v,e=.returned v/\w'.ownsRow w.heap.size 9 1 v hs.length (strs (hs.map fun h:Hd=>h.2.1))/\Below w.heap.size w w' from H.mono fun e w' ⟨v,h1,h2,h3⟩=>by
  subst h1;exact zR6 (by rw[List.length_map];exact h2) h3
 have hb1:=below1 w (.cells #[.map (some b)] 188);have hcell:(w.alloc (.cells #[.map (some b)] 188)).cell? ⟨w.heap.size,0,none⟩=some (.map (some b)):=by rw[World.cell?_alloc_at (hn:=by simp)];rfl
 have hS:=zL2 _ w.heap.size b hs hcell (hL.below hL.lt hb1) hne hpl (by omega);have HS:=hide hS;have HB:=hide hb1;have HV:=hide hvs;have HN:=hide hne;clear hS hb1 hvs hcell hL hne hpl;obtain⟨R,hR⟩:∃R,(hs.map fun h:Hd=>h.2.1)=R:=⟨_,rfl⟩;have HR:=hide hR;rw[hR];clear hR;obtain⟨n,hn⟩:∃n,hs.length=n:=⟨_,rfl⟩;have Hn:=hide hn;rw[hn] at HS hlen ⊢;clear hn;go_enter Tryz.func191,Tryz.ntmps191;go_wp2_with (go_at_call 221;fail);refine (zLq b w).mono ?_;rintro e w1 ⟨rfl,rfl⟩;go_wp2_with (go_at_call 220;fail);refine HS.out.mono ?_;rintro e w2 ⟨A,c,rfl,hH,hb2⟩;have HB2:=hTz HB hb2;have HH:=hide hH;obtain⟨wm,hmake,hom,hbm⟩:=makeS w2 n (by omega);have HBm:=hide hbm;have Ho:=hide hom;clear hH hb2 hbm hom HB HS;go_wp2
 go_loopg [4,15] n (fun k s4 s15 wx=>∃i:Nat,i+k=n/\s15=.int .i64 (i:Int)/\Hid (wx.ownsRow w2.heap.size 9 1 s4 i (strs (R.take i)))/\Hid (Below w2.heap.size w2 wx))
 case atStart=>exact⟨0,by omega,rfl,Ho,HBm⟩
 case round=>
  obtain⟨i,hig,rfl,hor,hbr⟩:=hrel;clear hmake HBm Ho;cases gk with
  | zero=>
   obtain rfl:i=n:=by omega
   have hiz:¬((i:Int)<(i:Int)):=by omega
   have ho:=zEf hor.out HB2.out.size;rw[List.take_of_length_le (by rw[<-HR.out,List.length_map,Hn.out];exact Nat.le_refl _)] at ho;have Ho:=hide ho;have HBe:=hide (HB2.out.trans (hbr.out.mono HB2.out.size));clear HV HN HH hor ho HB2 hbr HR;go_wp2;go_ret;exact⟨_,rfl,Ho.out,HBe.out⟩
  | succ k=>
   have hi:i<n:=by omega
   have hiz:(i:Int)<(n:Int):=by omega
   obtain⟨h,hh⟩:∃h,hs[i]?=some h:=⟨_,List.getElem?_eq_getElem (by rw[Hn.out];exact hi)⟩;obtain⟨g,o,hAe,hg,hat⟩:=HH.out.lies (by rw[zDc,List.length_map,Hn.out];omega);subst hAe;have hx:=zJi (hs.map fun h=>h.2) i h.2 (by rw[List.getElem?_map,hh];rfl);have x0:=(hbr.out.cell (p:=⟨g,o+i*2,none⟩) hg).trans (hat _ _ hx.1);have x1:=(hbr.out.cell (p:=⟨g,o+(i*2+1),none⟩) hg).trans (hat _ _ hx.2);rw[<-Nat.add_assoc] at x1;have hsz:=HV.out h (List.mem_of_getElem? hh);have hC:=fun w=>zBy (txt h.2.1) (by rw[zAg];omega) w
   have Htk:Hid (strs (R.take (i+1))=strs (R.take i)++[.string (txt h.2.1)]):=hide (by rw[<-HR.out,List.take_add_one,List.getElem?_map,hh];simp[strs]);have hba:=below1 wr (.cells #[.string (txt h.2.1),.int .i64 (h.2.2:Int)] 230);have b0:(wr.alloc (.cells #[.string (txt h.2.1),.int .i64 (h.2.2:Int)] 230)).cell? ⟨wr.heap.size,0,none⟩=some (.string (txt h.2.1)):=by rw[World.cell?_alloc_at (hn:=by simp)];rfl
   have HC:=hide hC;have hora:=hide (zAc hor.out hba);have hbra:=hTz hbr hba;generalize txt h.2.1=X at *;generalize (h.2.2:Int)=pl at *;clear hat hx hh hsz hC HV HN HH hba hor hbr HR;go_wp2_with (go_at_call 45;fail);refine (HC.out _).mono ?_;rintro e w4 ⟨rfl,hb4⟩;have hor4:=zAc hora.out hb4;have hB4:=hbra.out.trans (hb4.mono hbra.out.size);clear hora hb4 hbra HC x0 x1 b0;have hone:=litS w4 X;have hH:=Has.own hone;have hor5:=hor4.alloc (.cells #[.string X] 9);have hB5:=hide (hB4.alloc hB4.size (.cells #[.string X] 9));have hs5:=hB5.out.size;have h1c:∀u∈[Value.string X],u.oneCell'=true:=by simp[Value.oneCell']
   clear hone hor4 hB4;go_wp2_with (at_builtin;go_must (refine appE _ 43 9 _ 1 16 Tryz.underlying43 infoS rfl (by omega) (by omega) rfl (.tmp 19) (.tmp 23) rfl w2.heap.size _ i (strs (R.take i)) rfl hor5 _ _ 1 1 [.string X] rfl hH h1c (by omega) hs5 ?_));intro v' w6 hor6 hb6 _;have hB6:=hide (hB5.out.trans hb6);rw[<-Htk.out] at hor6;have Hor6:=hide hor6;clear hor5 hB5 hs5 hH hb6 h1c Htk hor6;go_wp2
   go_roundg k
   case measure=>omega
   case rel=>exact⟨i+1,by omega,by go_num,Hor6,hB6⟩
end Go.Proofs.YtdkekamkmlpnhaaGreatDoor
