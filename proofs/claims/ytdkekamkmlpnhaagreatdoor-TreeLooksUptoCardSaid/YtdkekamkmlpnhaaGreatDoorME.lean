/- Several texts in one: NMath, NPairs, PMath, PSpec, PEsc, PValue, PWrite, PRows, PCut, PSplit, PForm, PRRead. By an AI agent. -/
import Derived.Lib.Strings
import Derived.BigQuiet
import Derived.Deep.QuietTactic
import Derived.Deep.LoopGhost
import Derived.Handy
import Derived.Lib.IndexBytes
import Derived.Test.YtdkekamkmlpnhaaGreatDoorShelf
import Derived.Test.YtdkekamkmlpnhaaGreatDoorSeat
import Derived.Test.YtdkekamkmlpnhaaGreatDoorMC
set_option linter.unusedSimpArgs false
set_option linter.unusedVariables false
set_option maxRecDepth 100000
set_option maxHeartbeats 16000000
namespace Go.Proofs.YtdkekamkmlpnhaaGreatDoor
def isSpec (c:UInt8):Bool:=c==44||c==43||c==34||c==92||c==60||c==62||c==59
def isBehind (c:UInt8):Bool:=isSpec c||c==35||c==61||c==32
def hexD (k:Nat):UInt8:=if k<10 then UInt8.ofNat (48+k) else UInt8.ofNat (87+k)
def hexV (c:UInt8):Option Nat:=
 if 48<=c.toNat/\c.toNat<=57 then some (c.toNat-48)
 else if 97<=c.toNat/\c.toNat<=102 then some (c.toNat-87)
 else if 65<=c.toNat/\c.toNat<=70 then some (c.toNat-55)
 else none
def esc (first last:Bool) (c:UInt8):List UInt8:=
 if isSpec c||(first&&(c==32||c==35))||(last&&c==32) then [92,c]
 else if c.toNat<32\/126<c.toNat then [92,hexD (c.toNat/16),hexD (c.toNat % 16)]
 else [c]
def wrFrom (first:Bool):List UInt8->List UInt8
 | []=>[]
 | c::r=>esc first r.isEmpty c++wrFrom false r
def wrV (l:List UInt8):List UInt8:=wrFrom true l
def rdFrom (first:Bool):List UInt8->Option (List UInt8)
 | []=>some []
 | c::r=>
  if c=92 then
   match r with
   | []=>none
   | d::r'=>
    if isBehind d then (rdFrom false r').map (d::·)
    else match r' with
     | []=>none
     | e::r''=>match hexV d,hexV e with
      | some a,some b=>(rdFrom false r'').map (UInt8.ofNat (16*a+b)::·)
      | _,_=>none
  else if isSpec c||c==0||(c==32&&(first||r.isEmpty))||(c==35&&first) then none
  else (rdFrom false r).map (c::·)
def rd (l:List UInt8):Option (List UInt8):=rdFrom true l
theorem u8e {a b:UInt8} (h:a.toNat=b.toNat):a=b:=UInt8.toNat_inj.1 h
theorem zIv:∀k:Fin 16,hexV (hexD k.val)=some k.val/\isBehind (hexD k.val)=false/\hexD k.val≠92:=by decide+kernel
theorem hexV_D (k:Nat) (h:k<16):hexV (hexD k)=some k:=(zIv ⟨k,h⟩).1
theorem zMy (k:Nat) (h:k<16):isBehind (hexD k)=false:=(zIv ⟨k,h⟩).2.1
theorem rd_pair (first:Bool) (d:UInt8) (r:List UInt8) (h:isBehind d=true):rdFrom first (92::d::r)=(rdFrom false r).map (d::·):=by
 rw[rdFrom.eq_def];simp only[h,if_true]
theorem rd_hex (first:Bool) (d e:UInt8) (a b:Nat) (r:List UInt8) (h:isBehind d=false) (hd:hexV d=some a) (he:hexV e=some b):rdFrom first (92::d::e::r)=(rdFrom false r).map (UInt8.ofNat (16*a+b)::·):=by
 rw[rdFrom.eq_def];simp[h,hd,he]
theorem rd_one (first:Bool) (c:UInt8) (r:List UInt8) (h:c≠92) (hn:(isSpec c||c==0||(c==32&&(first||r.isEmpty))||(c==35&&first))=false):rdFrom first (c::r)=(rdFrom false r).map (c::·):=by
 rw[rdFrom.eq_def];simp only[if_neg h,hn];rfl
theorem wr_empty (first:Bool) (l:List UInt8):(wrFrom first l).isEmpty=l.isEmpty:=by
 cases l with
 | nil=>rfl
 | cons c r=>
  unfold wrFrom esc;split
  ·rfl
  ·split<;>rfl
theorem zKf:∀(l:List UInt8) (first:Bool),rdFrom first (wrFrom first l)=some l
 | [],_=>rfl
 | c::r,first=>by
  have ih:=zKf r false;have he:=wr_empty false r;unfold wrFrom esc;split
  ·rename_i h;have hb:isBehind c=true:=by
    unfold isBehind;simp only[Bool.or_eq_true,Bool.and_eq_true] at h ⊢;rcases h with (h | ⟨_,h | h⟩) | ⟨_,h⟩
    ·exact Or.inl (Or.inl (Or.inl h))
    ·exact Or.inr h
    ·exact Or.inl (Or.inl (Or.inr h))
    ·exact Or.inr h
   rw[List.cons_append,List.cons_append,List.nil_append,rd_pair _ _ _ hb,ih];rfl
  ·rename_i h;split
   ·have hlt:=c.toNat_lt;have h1:c.toNat/16<16:=by omega
    have h2:c.toNat % 16<16:=(by omega);have e:UInt8.ofNat (16*(c.toNat/16)+c.toNat % 16)=c:=(by apply u8e;rw[UInt8.toNat_ofNat'];omega);rw[List.cons_append,List.cons_append,List.cons_append,List.nil_append,rd_hex _ _ _ _ _ _ (zMy _ h1) (hexV_D _ h1) (hexV_D _ h2),ih,e];rfl
   ·rename_i hc;have h0:c≠0:=by rintro rfl;exact hc (Or.inl (by decide))
    have h92:c≠92:=(by rintro rfl;exact h (by simp[isSpec]));simp only[Bool.or_eq_true,Bool.and_eq_true,not_or,not_and,beq_iff_eq] at h;obtain⟨⟨hs,hf⟩,hl⟩:=h;have hno:(isSpec c||c==0||(c==32&&(first||(wrFrom false r).isEmpty))||(c==35&&first))=false:=by
     rw[he];cases hsp:isSpec c with
     | true=>exact absurd hsp hs
     | false=>
      cases first with
      | true=>
       have:=hf rfl;simp[h0,this.1,this.2]
      | false=>
       cases hr:r.isEmpty with
       | true=>
        have:=hl hr;simp[h0,this]
       | false=>simp[h0]
    rw[List.singleton_append,rd_one _ _ _ h92 hno,ih];rfl
theorem rd_wr (l:List UInt8):rd (wrV l)=some l:=zKf l true
def cutA (sep:UInt8):List UInt8->List UInt8 × List (List UInt8)
 | []=>([],[])
 | c::r=>
  if c=92 then
   match r with
   | []=>([92],[])
   | d::r'=>(92::d::(cutA sep r').1,(cutA sep r').2)
  else if c=sep then ([],(cutA sep r).1::(cutA sep r).2)
  else (c::(cutA sep r).1,(cutA sep r).2)
def cuts (sep:UInt8) (l:List UInt8):List (List UInt8):=(cutA sep l).1::(cutA sep l).2
theorem zEa (sep d:UInt8) (r:List UInt8):cutA sep (92::d::r)=(92::d::(cutA sep r).1,(cutA sep r).2):=by
 rw[cutA.eq_def];simp only[if_true]
theorem zFn {sep c:UInt8} (r:List UInt8) (h:c≠92) (hs:c≠sep):cutA sep (c::r)=(c::(cutA sep r).1,(cutA sep r).2):=by
 rw[cutA.eq_def];simp only[if_neg h,if_neg hs]
theorem zFe {sep:UInt8} (r:List UInt8) (h:sep≠92):cutA sep (sep::r)=([],(cutA sep r).1::(cutA sep r).2):=by
 rw[cutA.eq_def];simp only[if_neg h,if_true]
inductive Whole (sep:UInt8):List UInt8->Prop where
 | nil:Whole sep []
 | pair {d:UInt8} {r:List UInt8} (h:Whole sep r):Whole sep (92::d::r)
 | one {c:UInt8} {r:List UInt8} (h92:c≠92) (hs:c≠sep) (h:Whole sep r):Whole sep (c::r)
theorem Whole.app {sep:UInt8} {a b:List UInt8} (ha:Whole sep a) (hb:Whole sep b):Whole sep (a++b):=by
 induction ha with
 | nil=>exact hb
 | pair _ ih=>exact .pair ih
 | one h1 h2 _ ih=>exact .one h1 h2 ih
theorem zJz {sep:UInt8} {a:List UInt8} (ha:Whole sep a) (b:List UInt8):cutA sep (a++b)=(a++(cutA sep b).1,(cutA sep b).2):=by
 induction ha with
 | nil=>rfl
 | pair _ ih=>rw[List.cons_append,List.cons_append,zEa,ih];rfl
 | one h1 h2 _ ih=>rw[List.cons_append,zFn _ h1 h2,ih];rfl
theorem zPu {sep:UInt8} {a:List UInt8} (ha:Whole sep a):cuts sep a=[a]:=by
 have:=zJz ha [];simp only[List.append_nil] at this;simp[cuts,this,cutA]
theorem zRx {sep:UInt8} (h92:sep≠92) {a:List UInt8} (ha:Whole sep a) (b:List UInt8):cuts sep (a++sep::b)=a::cuts sep b:=by
 have:=zJz ha (sep::b);rw[cuts,this,zFe _ h92];simp[cuts]
theorem zE3 (sep:UInt8) (hs:isSpec sep=true):∀(l:List UInt8) (first:Bool),Whole sep (wrFrom first l)
 | [],_=>.nil
 | c::r,first=>by
  have ih:=zE3 sep hs r false;unfold wrFrom esc;split
  ·exact .pair ih
  ·rename_i h;split
   ·have hlt:=c.toNat_lt;have hd:hexD (c.toNat % 16)≠92:=(zIv ⟨c.toNat % 16,by omega⟩).2.2;have hd2:hexD (c.toNat % 16)≠sep:=by
     intro e;have:=zMy (c.toNat % 16) (by omega);rw[e] at this;unfold isBehind at this;rw[hs] at this;simp at this
    exact .pair (.one hd hd2 ih)
   ·have hsc:isSpec c=false:=by
     cases hc:isSpec c with
     | false=>rfl
     | true=>exact absurd (by simp[hc]) h
    refine .one (by rintro rfl;simp[isSpec] at hsc) (by rintro rfl;rw[hs] at hsc;cases hsc) ih
theorem wr_whole (sep:UInt8) (hs:isSpec sep=true) (l:List UInt8):Whole sep (wrV l):=zE3 sep hs l true
abbrev P2:=List UInt8 × List UInt8
def insP (a:P2) (l:List P2):List P2:=l.takeWhile (fun b=>decide (b.1<a.1))++a::l.dropWhile (fun b=>decide (b.1<a.1))
def sortP (l:List P2):List P2:=l.foldl (fun o a=>insP a o) []
theorem zM6 {α:Type} {p:α->Bool}:∀{l:List α},(∀b∈l,p b=true)->l.takeWhile p=l/\l.dropWhile p=[]
 | [],_=>⟨rfl,rfl⟩
 | x::r,h=>by
  have ih:=zM6 (p:=p) (l:=r) fun b hb=>h b (by simp[hb])
  simp[h x (by simp),ih.1,ih.2]
theorem ins_last {l:List P2} {a:P2} (h:∀b∈l,b.1<a.1):insP a l=l++[a]:=by
 obtain⟨h1,h2⟩:=zM6 (p:=fun b:P2=>decide (b.1<a.1)) (l:=l) fun b hb=>decide_eq_true (h b hb)
 unfold insP;rw[h1,h2]
theorem zNq:∀(r l:List P2),(l++r).Pairwise (fun x y=>x.1<y.1)->r.foldl (fun o a=>insP a o) l=l++r
 | [],l,_=>by simp
 | a::r,l,h=>by
  rw[List.foldl_cons,ins_last]
  ·have:=zNq r (l++[a]) (by simpa using h);simpa using this
  ·intro b hb;rw[List.pairwise_append] at h;exact h.2.2 b hb a (by simp)
theorem sort_own {l:List P2} (h:l.Pairwise (fun x y=>x.1<y.1)):sortP l=l:=by
 have:=zNq l [] (by simpa using h);simpa[sortP] using this
def onePr (a:P2):List UInt8:=a.1++61::wrV a.2
def prP:List P2->List UInt8
 | []=>[]
 | [a]=>onePr a
 | a::b::r=>onePr a++43::prP (b::r)
structure Plain (t:List UInt8):Prop where
 out:∀c∈t,c≠92/\c≠43/\c≠44/\c≠61
theorem Plain.whole {t:List UInt8} (h:Plain t) {sep:UInt8} (hs:sep=43\/sep=44):Whole sep t:=by
 obtain⟨h⟩:=h
 induction t with
 | nil=>exact .nil
 | cons c r ih=>
  have hc:=h c (by simp);refine .one hc.1 ?_ (ih fun c hc=>h c (by simp[hc]));rcases hs with rfl | rfl
  ·exact hc.2.1
  ·exact hc.2.2.1
theorem zCj {a:P2} (h:Plain a.1) {sep:UInt8} (hs:sep=43\/sep=44):Whole sep (onePr a):=by
 have hsp:isSpec sep=true:=by rcases hs with rfl | rfl<;>decide
 have h61:(61:UInt8)≠sep:=by rcases hs with rfl | rfl<;>decide
 exact (h.whole hs).app (.one (by decide) h61 (wr_whole sep hsp _))
theorem zM9:∀(l:List P2),l≠[]->(∀a∈l,Plain a.1)->cuts 43 (prP l)=l.map onePr
 | [],h,_=>absurd rfl h
 | [a],_,h=>by
  rw[prP,zPu (zCj (h a (by simp)) (Or.inl rfl))];rfl
 | a::b::r,_,h=>by
  rw[prP,zRx (by decide) (zCj (h a (by simp)) (Or.inl rfl)),zM9 (b::r) (by simp) fun c hc=>h c (by simp[hc])];rfl
theorem prP_whole:∀(l:List P2),(∀a∈l,Plain a.1)->Whole 44 (prP l)
 | [],_=>.nil
 | [a],h=>zCj (h a (by simp)) (Or.inr rfl)
 | a::b::r,h=>(zCj (h a (by simp)) (Or.inr rfl)).app (.one (by decide) (by decide) (prP_whole (b::r) fun c hc=>h c (by simp[hc])))
def eqCut (l:List UInt8):Option P2:=
 match l.dropWhile (·!=61) with
 | []=>none
 | _::r=>some (l.takeWhile (·!=61),r)
theorem zPy {t:List UInt8} (h:Plain t) (v:List UInt8):eqCut (t++61::v)=some (t,v):=by
 have h1:(t++61::v).dropWhile (·!=61)=61::v:=by
  rw[List.dropWhile_append_of_pos]
  ·simp
  ·intro c hc;simpa using (h.out c hc).2.2.2
 have h2:(t++61::v).takeWhile (·!=61)=t:=by
  rw[List.takeWhile_append_of_pos]
  ·simp
  ·intro c hc;simpa using (h.out c hc).2.2.2
 unfold eqCut;rw[h1,h2]
def rqFrom (first:Bool):List UInt8->Option (List UInt8)
 | []=>some []
 | c::r=>
  if c=92 then
   match r with
   | []=>none
   | d::r'=>
    if isBehind d then (rqFrom false r').map (d::·)
    else match r' with
     | []=>none
     | e::r''=>match hexV d,hexV e with
      | some a,some b=>(rqFrom false r'').map (UInt8.ofNat (16*a+b)::·)
      | _,_=>none
  else if isSpec c||(c==32&&(first||r.isEmpty))||(c==35&&first) then none
  else (rqFrom false r).map (c::·)
def isBad (first last:Bool) (c:UInt8):Bool:=isSpec c||(c==32&&(first||last))||(c==35&&first)
inductive Rway (first:Bool) (l:List UInt8):Prop where
 | bad (c:UInt8) (r:List UInt8) (h:l=c::r) (h92:c≠92) (hb:isBad first r.isEmpty c=true) (rd:rdFrom first l=none) (rq:rqFrom first l=none)
 | zero (r:List UInt8) (h:l=0::r) (rd:rdFrom first l=none) (rq:rqFrom first l=(rqFrom false r).map (0::·))
 | one (c:UInt8) (r:List UInt8) (h:l=c::r) (h92:c≠92) (h0:c≠0) (hb:isBad first r.isEmpty c=false) (rd:rdFrom first l=(rdFrom false r).map (c::·)) (rq:rqFrom first l=(rqFrom false r).map (c::·))
 | stop (h:l=[92]) (rd:rdFrom first l=none) (rq:rqFrom first l=none)
 | pair (d:UInt8) (r:List UInt8) (h:l=92::d::r) (hd:isBehind d=true) (rd:rdFrom first l=(rdFrom false r).map (d::·)) (rq:rqFrom first l=(rqFrom false r).map (d::·))
 | half (d:UInt8) (h:l=[92,d]) (hd:isBehind d=false) (rd:rdFrom first l=none) (rq:rqFrom first l=none)
 | hex (d e:UInt8) (a b:Nat) (r:List UInt8) (h:l=92::d::e::r) (hd:isBehind d=false) (ha:hexV d=some a) (hb:hexV e=some b) (rd:rdFrom first l=(rdFrom false r).map (UInt8.ofNat (16*a+b)::·)) (rq:rqFrom first l=(rqFrom false r).map (UInt8.ofNat (16*a+b)::·))
 | nohex (d e:UInt8) (r:List UInt8) (h:l=92::d::e::r) (hd:isBehind d=false) (hn:hexV d=none\/hexV e=none) (rd:rdFrom first l=none) (rq:rqFrom first l=none)
theorem rway (first:Bool) (l:List UInt8) (hl:l≠[]):Rway first l:=by
 cases l with
 | nil=>exact absurd rfl hl
 | cons c r=>
  by_cases h92:c=92
  ·subst h92;cases r with
   | nil=>exact .stop rfl (by rw[rdFrom.eq_def];rfl) (by rw[rqFrom.eq_def];rfl)
   | cons d r=>
    cases hd:isBehind d with
    | true=>exact .pair d r rfl hd (by rw[rdFrom.eq_def];simp[hd]) (by rw[rqFrom.eq_def];simp[hd])
    | false=>
     cases r with
     | nil=>exact .half d rfl hd (by rw[rdFrom.eq_def];simp[hd]) (by rw[rqFrom.eq_def];simp[hd])
     | cons e r=>
      cases ha:hexV d with
      | none=>exact .nohex d e r rfl hd (Or.inl ha) (by rw[rdFrom.eq_def];simp[hd,ha]) (by rw[rqFrom.eq_def];simp[hd,ha])
      | some a=>
       cases hb:hexV e with
       | none=>exact .nohex d e r rfl hd (Or.inr hb) (by rw[rdFrom.eq_def];simp[hd,ha,hb]) (by rw[rqFrom.eq_def];simp[hd,ha,hb])
       | some b=>exact .hex d e a b r rfl hd ha hb (by rw[rdFrom.eq_def];simp[hd,ha,hb]) (by rw[rqFrom.eq_def];simp[hd,ha,hb])
  ·cases hb:isBad first r.isEmpty c with
   | true=>
    refine .bad c r rfl h92 hb ?_ ?_
    ·rw [rdFrom.eq_def];have h:(isSpec c||c==0||(c==32&&(first||r.isEmpty))||(c==35&&first))=true:=by
      unfold isBad at hb;revert hb;cases isSpec c<;>cases (c==0)<;>simp
     simp only[if_neg h92,h,if_true]
    ·rw [rqFrom.eq_def];unfold isBad at hb;simp only[if_neg h92,hb,if_true]
   | false=>
    by_cases h0:c=0
    ·subst h0;refine .zero r rfl ?_ ?_
     ·rw [rdFrom.eq_def];simp[isSpec]
     ·rw [rqFrom.eq_def];simp[isSpec]
    ·refine .one c r rfl h92 h0 hb ?_ ?_
     ·have h:(isSpec c||c==0||(c==32&&(first||r.isEmpty))||(c==35&&first))=false:=by
       unfold isBad at hb;have:(c==0)=false:=by simpa using h0
       rw[this,Bool.or_false];exact hb
      rw[rdFrom.eq_def];simp only[if_neg h92,h];rfl
     ·unfold isBad at hb;rw[rqFrom.eq_def];simp only[if_neg h92,hb];rfl
theorem rd_rq:∀(n:Nat) (l:List UInt8) (first:Bool),l.length<=n->(∀v,rdFrom first l=some v->rqFrom first l=some v)/\(rdFrom first l=none->∀v,rqFrom first l=some v->0∈v)
 | 0,l,first,h=>by
  obtain rfl:=List.eq_nil_of_length_eq_zero (Nat.le_zero.1 h);exact⟨fun v h=>h,fun h=>by simp[rdFrom] at h⟩
 | n+1,l,first,h=>by
  by_cases hl:l=[]
  ·subst hl;exact⟨fun v h=>h,fun h=>by simp[rdFrom] at h⟩
  ·have step:∀(r:List UInt8) (x:UInt8),r.length<=n->rdFrom first l=(rdFrom false r).map (x::·)->rqFrom first l=(rqFrom false r).map (x::·)->
     (∀v,rdFrom first l=some v->rqFrom first l=some v)/\(rdFrom first l=none->∀v,rqFrom first l=some v->0∈v):=by
    intro r x hr e1 e2;obtain⟨i1,i2⟩:=rd_rq n r false hr;rw[e1,e2];constructor
    ·intro v hv;cases hq:rdFrom false r with
     | none=>rw[hq] at hv;simp at hv
     | some u=>rw[hq] at hv;rw[i1 u hq];exact hv
    ·intro hn v hv;cases hq:rdFrom false r with
     | some u=>rw[hq] at hn;simp at hn
     | none=>
      cases hw:rqFrom false r with
      | none=>rw[hw] at hv;simp at hv
      | some u=>
       rw[hw] at hv;simp only[Option.map_some,Option.some.injEq] at hv;subst hv;exact List.mem_cons_of_mem _ (i2 hq u hw)
   have fin:rdFrom first l=none->rqFrom first l=none->(∀v,rdFrom first l=some v->rqFrom first l=some v)/\(rdFrom first l=none->∀v,rqFrom first l=some v->0∈v):=by intro e1 e2;rw[e1,e2];exact⟨fun v h=>h,fun _ v h=>by cases h⟩
   cases rway first l hl with
   | bad c r hh _ _ e1 e2=>exact fin e1 e2
   | zero r hh e1 e2=>
    rw[e1,e2];refine⟨fun v h=>(by cases h),fun _ v hv=>?_⟩;cases hw:rqFrom false r with
    | none=>rw[hw] at hv;simp at hv
    | some u=>
     rw[hw] at hv;simp only[Option.map_some,Option.some.injEq] at hv;subst hv;exact List.mem_cons_self
   | one c r hh _ _ _ e1 e2=>exact step r c (by rw[hh] at h;simpa using h) e1 e2
   | stop hh e1 e2=>exact fin e1 e2
   | pair d r hh _ e1 e2=>exact step r d (by rw[hh] at h;simp at h;omega) e1 e2
   | half d hh _ e1 e2=>exact fin e1 e2
   | hex d e a b r hh _ _ _ e1 e2=>exact step r _ (by rw[hh] at h;simp at h;omega) e1 e2
   | nohex d e r hh _ _ e1 e2=>exact fin e1 e2
theorem zNw {l v:List UInt8} {first:Bool} (h:rdFrom first l=some v):rqFrom first l=some v:=(rd_rq _ l first (Nat.le_refl _)).1 v h
theorem rq_zero {l v:List UInt8} {first:Bool} (h:rdFrom first l=none) (hv:rqFrom first l=some v):0∈v:=(rd_rq _ l first (Nat.le_refl _)).2 h v hv
open Go.RowKit
theorem ne8 {c:UInt8} {k:Nat} (hk:k<256) (h:c≠UInt8.ofNat k):((c.toNat:Int)==(k:Int))=false:=by
 refine beq_false_of_ne fun e=>h ?_
 have e':c.toNat=k:=by omega
 apply UInt8.toNat_inj.1;rw[e',UInt8.toNat_ofNat',Nat.mod_eq_of_lt (by omega)]
theorem zHw (c:UInt8):c=44\/c=43\/c=34\/c=92\/c=60\/c=62\/c=59\/isSpec c=false:=by
 unfold isSpec;by_cases h1:c=44
 ·exact Or.inl h1
 by_cases h2:c=43
 ·exact Or.inr (Or.inl h2)
 by_cases h3:c=34
 ·exact Or.inr (Or.inr (Or.inl h3))
 by_cases h4:c=92
 ·exact Or.inr (Or.inr (Or.inr (Or.inl h4)))
 by_cases h5:c=60
 ·exact Or.inr (Or.inr (Or.inr (Or.inr (Or.inl h5))))
 by_cases h6:c=62
 ·exact Or.inr (Or.inr (Or.inr (Or.inr (Or.inr (Or.inl h6)))))
 by_cases h7:c=59
 ·exact Or.inr (Or.inr (Or.inr (Or.inr (Or.inr (Or.inr (Or.inl h7))))))
 simp[h1,h2,h3,h4,h5,h6,h7]
structure NoSpec (x:Int):Prop where
 a:(x==44)=false
 b:(x==43)=false
 c:(x==34)=false
 d:(x==92)=false
 e:(x==60)=false
 f:(x==62)=false
 g:(x==59)=false
theorem no_spec {c:UInt8} (h:isSpec c=false):NoSpec (c.toNat:Int):=by
 unfold isSpec at h;simp only[Bool.or_eq_false_iff,beq_eq_false_iff_ne] at h;obtain⟨⟨⟨⟨⟨⟨h1,h2⟩,h3⟩,h4⟩,h5⟩,h6⟩,h7⟩:=h;exact⟨ne8 (k:=44) (by omega) h1,ne8 (k:=43) (by omega) h2,ne8 (k:=34) (by omega) h3,ne8 (k:=92) (by omega) h4,ne8 (k:=60) (by omega) h5,ne8 (k:=62) (by omega) h6,ne8 (k:=59) (by omega) h7⟩
theorem zAz (c:UInt8) (w:World):
  Calls Tryz.prog 196 #[.int .u8 (c.toNat:Int)] w fun e w'=>e=.returned (.bool (isSpec c))/\w'=w:=by
 have hcs:=zHw c;rcases hcs with rfl | rfl | rfl | rfl | rfl | rfl | rfl | h
 case inr.inr.inr.inr.inr.inr.inr=>obtain⟨h1,h2,h3,h4,h5,h6,h7⟩:=no_spec h;rw[h];clear h;generalize (c.toNat:Int)=x at *;go_enter Tryz.func196,Tryz.ntmps196;go_wp2;go_ret;exact⟨rfl,rfl⟩
 all_goals
  go_enter Tryz.func196,Tryz.ntmps196;go_wp2;go_ret;exact⟨rfl,rfl⟩
def hexI (c:UInt8):Int:=match hexV c with
 | some k=>(k:Int)
 | none=> -1
theorem zG1 {c:UInt8} {k:Nat} (h:hexV c=some k):hexI c=k:=by unfold hexI;rw[h]
theorem zJ0 {c:UInt8} (h:hexV c=none):hexI c= -1:=by unfold hexI;rw[h]
theorem zDt {c:UInt8} {k:Nat} (h:hexV c=some k):k<16:=by
 unfold hexV at h;split at h
 ·obtain rfl:=Option.some.inj h;omega
 ·split at h
  ·obtain rfl:=Option.some.inj h;omega
  ·split at h
   ·obtain rfl:=Option.some.inj h;omega
   ·cases h
theorem zIu (c:UInt8) (w:World):
  Calls Tryz.prog 214 #[.int .u8 (c.toNat:Int)] w fun e w'=>e=.returned (.int .i64 (hexI c))/\w'=w:=by
 have hI:hexI c=if 48<=c.toNat/\c.toNat<=57 then (c.toNat:Int)-48 else if 97<=c.toNat/\c.toNat<=102 then (c.toNat:Int)-87 else if 65<=c.toNat/\c.toNat<=70 then (c.toNat:Int)-55 else -1:=by
  unfold hexI hexV;split
  ·rename_i k hk;split at hk
   ·rename_i h;rw[if_pos h];obtain rfl:=Option.some.inj hk;omega
   ·rename_i h;rw[if_neg h];split at hk
    ·rename_i h;rw[if_pos h];obtain rfl:=Option.some.inj hk;omega
    ·rename_i h;rw[if_neg h];split at hk
     ·rename_i h;rw[if_pos h];obtain rfl:=Option.some.inj hk;omega
     ·cases hk
  ·rename_i hk;split at hk
   ·cases hk
   ·rename_i h;rw[if_neg h];split at hk
    ·cases hk
    ·rename_i h;rw[if_neg h];split at hk
     ·cases hk
     ·rename_i h;rw[if_neg h]
 have hlt:=c.toNat_lt;generalize hexI c=I at *;generalize hx:c.toNat=x at *;by_cases h1:48<=x/\x<=57
 ·rw [if_pos h1] at hI;obtain⟨a1,a2⟩:=h1;have b1:(48:Int)<=x:=by omega
  have b2:(x:Int)<=57:=by omega
  go_enter Tryz.func214,Tryz.ntmps214;go_wp2;go_ret;exact⟨congrArg (fun z=>Ending.returned (Value.int .i64 z)) (show _=_ by omega),rfl⟩
 ·rw [if_neg h1] at hI;by_cases h2:97<=x/\x<=102
  ·rw [if_pos h2] at hI;obtain⟨a1,a2⟩:=h2;have b0:¬((x:Int)<=57):=by omega
   have b1:(97:Int)<=x:=by omega
   have b2:(x:Int)<=102:=by omega
   have b3:(48:Int)<=x:=by omega
   go_enter Tryz.func214,Tryz.ntmps214;go_wp2;go_ret;exact⟨congrArg (fun z=>Ending.returned (Value.int .i64 z)) (show _=_ by omega),rfl⟩
  ·rw [if_neg h2] at hI;by_cases h3:65<=x/\x<=70
   ·rw [if_pos h3] at hI;obtain⟨a1,a2⟩:=h3;have b0:¬((x:Int)<=57):=by omega
    have b1:¬((97:Int)<=x):=(by omega);have b2:(x:Int)<=70:=(by omega);have b3:(48:Int)<=x:=(by omega);have b4:(65:Int)<=x:=(by omega);go_enter Tryz.func214,Tryz.ntmps214;go_wp2;go_ret;exact⟨congrArg (fun z=>Ending.returned (Value.int .i64 z)) (show _=_ by omega),rfl⟩
   ·rw [if_neg h3] at hI;subst hI;by_cases c1:x<48
    ·have b0:¬((48:Int)<=x):=by omega
     have b1:¬((97:Int)<=x):=(by omega);have b2:¬((65:Int)<=x):=(by omega);go_enter Tryz.func214,Tryz.ntmps214;go_wp2;go_ret;exact⟨rfl,rfl⟩
    ·by_cases c2:x<65
     ·have b0:((48:Int)<=x):=by omega
      have b3:¬((x:Int)<=57):=(by omega);have b1:¬((97:Int)<=x):=(by omega);have b2:¬((65:Int)<=x):=(by omega);go_enter Tryz.func214,Tryz.ntmps214;go_wp2;go_ret;exact⟨rfl,rfl⟩
     ·by_cases c3:x<97
      ·have b0:((48:Int)<=x):=by omega
       have b3:¬((x:Int)<=57):=(by omega);have b1:¬((97:Int)<=x):=(by omega);have b2:((65:Int)<=x):=(by omega);have b4:¬((x:Int)<=70):=(by omega);go_enter Tryz.func214,Tryz.ntmps214;go_wp2;go_ret;exact⟨rfl,rfl⟩
      ·have b0:((48:Int)<=x):=by omega
       have b3:¬((x:Int)<=57):=(by omega);have b1:((97:Int)<=x):=(by omega);have b2:((65:Int)<=x):=(by omega);have b4:¬((x:Int)<=70):=(by omega);have b5:¬((x:Int)<=102):=(by omega);go_enter Tryz.func214,Tryz.ntmps214;go_wp2;go_ret;exact⟨rfl,rfl⟩
inductive EscIs (first last:Bool) (c:UInt8):Prop where
 | spec (h:isSpec c=true) (e:esc first last c=[92,c])
 | ahead (h:isSpec c=false) (h1:first=true) (hc:c=32\/c=35) (e:esc first last c=[92,c])
 | behind (h:isSpec c=false) (h0:first=false) (h1:last=true) (hc:c=32) (e:esc first last c=[92,c])
 | hex (h:isSpec c=false) (hc:c.toNat<32\/126<c.toNat) (n1:c≠32) (n2:c≠35) (e:esc first last c=[92,hexD (c.toNat/16),hexD (c.toNat % 16)])
 | inside (h:isSpec c=false) (h0:first=false) (h1:last=false) (hc:c=32) (e:esc first last c=[c])
 | hash (h:isSpec c=false) (h0:first=false) (hc:c=35) (e:esc first last c=[c])
 | plain (h:isSpec c=false) (n1:c≠32) (n2:c≠35) (hc:32<=c.toNat/\c.toNat<=126) (e:esc first last c=[c])
theorem esc_is (first last:Bool) (c:UInt8):EscIs first last c:=by
 cases hs:isSpec c with
 | true=>exact .spec hs (by unfold esc;rw[hs];rfl)
 | false=>
  by_cases h32:c=32
  ·subst h32;cases first with
   | true=>exact .ahead hs rfl (Or.inl rfl) (by cases last<;>rfl)
   | false=>
    cases last with
    | true=>exact .behind hs rfl rfl rfl rfl
    | false=>exact .inside hs rfl rfl rfl rfl
  ·by_cases h35:c=35
   ·subst h35;cases first with
    | true=>exact .ahead hs rfl (Or.inr rfl) (by cases last<;>rfl)
    | false=>exact .hash hs rfl rfl (by cases last<;>rfl)
   ·have e0:(isSpec c||(first&&(c==32||c==35))||(last&&c==32))=false:=by
     have h1:(c==32)=false:=(by simpa using h32);have h2:(c==35)=false:=(by simpa using h35);rw[hs,h1,h2];cases first<;>cases last<;>rfl
    by_cases hc:c.toNat<32\/126<c.toNat
    ·refine .hex hs hc h32 h35 ?_;unfold esc;rw[e0,if_neg (by simp),if_pos hc]
    ·refine .plain hs h32 h35 (by omega) ?_;unfold esc;rw[e0,if_neg (by simp),if_neg hc]
theorem wr_drop {l:List UInt8} {i:Nat} {c:UInt8} (hc:l[i]?=some c):
  wrFrom (decide (i=0)) (l.drop i)=esc (decide (i=0)) (decide (i+1=l.length)) c++wrFrom (decide (i+1=0)) (l.drop (i+1)):=by
 obtain⟨hi,e⟩:=List.getElem?_eq_some_iff.1 hc;rw[List.drop_eq_getElem_cons hi,e,wrFrom];have h1:(l.drop (i+1)).isEmpty=decide (i+1=l.length):=by rw[Bool.eq_iff_iff,List.isEmpty_iff,List.drop_eq_nil_iff,decide_eq_true_iff];omega
 rw[h1];simp
theorem wr_at {l o:List UInt8} {i:Nat} {c:UInt8} (h:o++wrFrom (decide (i=0)) (l.drop i)=wrV l) (hc:l[i]?=some c) (x:List UInt8) (hx:esc (decide (i=0)) (decide (i+1=l.length)) c=x):
  (o++x)++wrFrom (decide (i+1=0)) (l.drop (i+1))=wrV l:=by
 rw[<-h,wr_drop hc,hx,List.append_assoc]
theorem zQj:∀(l:List UInt8) (first:Bool),(wrFrom first l).length<=3*l.length
 | [],_=>by simp[wrFrom]
 | c::r,first=>by
  have ih:=zQj r false;have he:(esc first r.isEmpty c).length<=3:=by
   unfold esc;split
   ·simp
   ·split<;>simp
  unfold wrFrom;rw[List.length_append,List.length_cons];omega
theorem zNk (l:List UInt8):(wrV l).length<=3*l.length:=zQj l true
theorem lit2 (w:World) (a b:UInt8):(w.alloc (.cells #[c8 a,c8 b] 5)).ownsRow w.heap.size 5 1 (.slice (some ⟨w.heap.size,0,none⟩) 2 2) 2 (bys [a,b]):=
 zDu w #[c8 a,c8 b] 5 2 (by unfold maxLen;omega) rfl
theorem lit3 (w:World) (a b c:UInt8):(w.alloc (.cells #[c8 a,c8 b,c8 c] 5)).ownsRow w.heap.size 5 1 (.slice (some ⟨w.heap.size,0,none⟩) 3 3) 3 (bys [a,b,c]):=
 zDu w #[c8 a,c8 b,c8 c] 5 3 (by unfold maxLen;omega) rfl
theorem nil_own (w:World) (base:Nat) (e:TypeId) (size:Nat):w.ownsRow base e size (.slice none 0 0) 0 []:=⟨by simp,.inl ⟨rfl,rfl⟩⟩
theorem dig_at (k:Nat) (hk:k<16) (h:k<(⟨#[48,49,50,51,52,53,54,55,56,57,97,98,99,100,101,102]⟩:ByteArray).size):(⟨#[48,49,50,51,52,53,54,55,56,57,97,98,99,100,101,102]⟩:ByteArray)[k]=hexD k:=by
 have key:∀j:Fin 16,(⟨#[48,49,50,51,52,53,54,55,56,57,97,98,99,100,101,102]⟩:ByteArray)[j.val]'(by exact j.isLt)=hexD j.val:=by decide+kernel
 exact key ⟨k,hk⟩
theorem zMi (k:Nat) (hk:k<16) (W:World):(Instr.index 9 (.string ⟨#[48,49,50,51,52,53,54,55,56,57,97,98,99,100,101,102]⟩) (.int .u8 (k:Int))).run Tryz.prog W=.ok (.int .u8 ((hexD k).toNat:Int)) W:=by
 rw[run_index_string (P:=Tryz.prog) W 9 _ .u8 (k:Int) Tryz.underlying9];have hs:(⟨#[48,49,50,51,52,53,54,55,56,57,97,98,99,100,101,102]⟩:ByteArray).size=16:=rfl;have h0:(0:Int)<=(k:Int)/\(k:Int)<((⟨#[48,49,50,51,52,53,54,55,56,57,97,98,99,100,101,102]⟩:ByteArray).size:Int):=by rw[hs];omega
 rw[dif_pos h0];have:=dig_at k hk (by rw[hs];exact hk);simp only[Int.toNat_natCast];rw[this]
theorem bits_fin:∀j:Fin 256,bits BinOp.and IntKind.u8 ((j.val:Nat):Int) 15=((j.val % 16:Nat):Int):=by decide+kernel
theorem and_at (c:UInt8):bits BinOp.and IntKind.u8 (c.toNat:Int) 15=((c.toNat % 16:Nat):Int):=bits_fin ⟨c.toNat,c.toNat_lt⟩
theorem shr_at (c:UInt8):(c.toNat:Int)/16=((c.toNat/16:Nat):Int):=by omega
theorem zR7 (s:ByteArray) (hs:s.size<=1000000) (w:World):
  Calls Tryz.prog 164 #[.string s] w fun e w'=>e=.returned (.string (txt (wrV s.data.toList)))/\Below w.heap.size w w':=by
 have hL:=hide (Lib.size_eq s);have hat:∀(i:Nat) (hi:i<s.size),s.data.toList[i]?=some s[i]:=fun i hi=>Lib.data_getElem? s i hi
 generalize hl:s.data.toList=l at *;replace hl:=hide hl;replace hat:=hide hat;have hwl:=hide (zNk l);go_enter Tryz.func164,Tryz.ntmps164;go_wp2
 go_loopg [3,4] s.size (fun k s3 s4 wx=>∃(i:Nat) (o:List UInt8),i+k=s.size/\s4=.int .i64 (i:Int)/\Hid (o++wrFrom (decide (i=0)) (l.drop i)=wrV l)/\wx.ownsRow w.heap.size 5 1 s3 o.length (bys o)/\Below w.heap.size w wx)
 case atStart=>exact⟨0,[],by omega,rfl,hide rfl,nil_own _ _ _ _,Below.refl _ _⟩
 case round=>
  obtain⟨i,o,hig,rfl,ho,hor,hbr⟩:=hrel;cases gk with
  | zero=>
   obtain rfl:i=s.size:=by omega
   have hiz:¬((s.size:Int)<(s.size:Int)):=by omega
   obtain⟨A,c,rfl,hnc,hHas⟩:=zAh hor;have htx:=txt8 wr c hHas;have hR:Hid (o=wrV l):=hide (by
    have:=ho.out
    rw[List.drop_eq_nil_of_le (by rw[<-hL.out];exact Nat.le_refl _)] at this
    simpa[wrFrom] using this)
   clear hHas hor ho;go_wp2;go_ret;exact⟨by rw[<-hR.out];rfl,hbr⟩
  | succ k=>
   have hi:i<s.size:=by omega
   have hiz:(i:Int)<(s.size:Int):=by omega
   obtain⟨c,hx⟩:∃c:UInt8,s[i]'hi=c:=⟨_,rfl⟩;have hxl:l[i]?=some c:=by rw[hat.out i hi,hx]
   have hlen:Hid (o.length<=3*s.size):=hide (by
    have h1:=congrArg List.length ho.out
    have h2:=hwl.out
    have h3:=hL.out
    rw[List.length_append] at h1
    omega)
   have hsp:=fun w=>zAz c w
   have hnx:=fun x h=>wr_at ho.out hxl x h
   have hlast:decide (i+1=l.length)=decide (i+1=s.size):=by rw[hL.out]
   rw[hlast] at hnx;replace hnx:=hide hnx;have hE:=esc_is (decide (i=0)) (decide (i+1=s.size)) c;clear hxl ho hlast;cases hE with
   | spec h e=>
    rw[h] at hsp;have hnext:=hide (hnx.out _ e);clear hnx e h;have hone:(wr.alloc (.cells #[.int .u8 92,.int .u8 (c.toNat:Int)] 5)).ownsRow wr.heap.size 5 1 (.slice (some ⟨wr.heap.size,0,none⟩) 2 2) 2 (bys [92,c]):=lit2 wr 92 c;have hH:=Has.own hone;have hor1:=hor.alloc (.cells #[.int .u8 92,.int .u8 (c.toNat:Int)] 5);have hbr1:=hbr.alloc (hbr.size) (.cells #[.int .u8 92,.int .u8 (c.toNat:Int)] 5);have hs1:=hbr1.size;clear hone hor hbr;go_wp2_with (first
     |(go_at_call 196;refine (hsp _).mono ?_;rintro e w' ⟨rfl,rfl⟩)
     |(at_builtin;go_must (refine app8 _ rfl (.tmp 41) (.tmp 43) rfl w.heap.size _ _ o rfl hor1 _ _ 2 2 [92,c] rfl hH (by have:=hlen.out;omega) hs1 ?_)))
    intro v' w3 hown3 hb3 _;have hb4:=hbr1.trans hb3;clear hor1 hbr1 hs1 hH hb3;go_wp2
    go_roundg k
    case measure=>omega
    case rel=>exact⟨i+1,o++[92,c],by omega,by go_num,hnext,by simpa using hown3,hb4⟩
   | ahead h h1 hc e=>
    rw[h] at hsp;obtain rfl:i=0:=by simpa using h1
    have hnext:=hide (hnx.out _ e);clear hnx e h h1;rcases hc with rfl | rfl
    ·have hone:(wr.alloc (.cells #[.int .u8 92,.int .u8 32] 5)).ownsRow wr.heap.size 5 1 (.slice (some ⟨wr.heap.size,0,none⟩) 2 2) 2 (bys [92,32]):=lit2 wr 92 32;have hH:=Has.own hone;have hor1:=hor.alloc (.cells #[.int .u8 92,.int .u8 32] 5);have hbr1:=hbr.alloc (hbr.size) (.cells #[.int .u8 92,.int .u8 32] 5);have hs1:=hbr1.size;clear hone hor hbr;go_wp2_with (first
      |(go_at_call 196;refine (hsp _).mono ?_;rintro e w' ⟨rfl,rfl⟩)
      |(at_builtin;go_must (refine app8 _ rfl (.tmp 41) (.tmp 43) rfl w.heap.size _ _ o rfl hor1 _ _ 2 2 [92,32] rfl hH (by have:=hlen.out;omega) hs1 ?_)))
     intro v' w3 hown3 hb3 _;have hb4:=hbr1.trans hb3;clear hor1 hbr1 hs1 hH hb3;go_wp2
     go_roundg k
     case measure=>omega
     case rel=>exact⟨0+1,o++[92,32],by omega,by go_num,hnext,by simpa using hown3,hb4⟩
    ·have hone:(wr.alloc (.cells #[.int .u8 92,.int .u8 35] 5)).ownsRow wr.heap.size 5 1 (.slice (some ⟨wr.heap.size,0,none⟩) 2 2) 2 (bys [92,35]):=lit2 wr 92 35;have hH:=Has.own hone;have hor1:=hor.alloc (.cells #[.int .u8 92,.int .u8 35] 5);have hbr1:=hbr.alloc (hbr.size) (.cells #[.int .u8 92,.int .u8 35] 5);have hs1:=hbr1.size;clear hone hor hbr;go_wp2_with (first
      |(go_at_call 196;refine (hsp _).mono ?_;rintro e w' ⟨rfl,rfl⟩)
      |(at_builtin;go_must (refine app8 _ rfl (.tmp 41) (.tmp 43) rfl w.heap.size _ _ o rfl hor1 _ _ 2 2 [92,35] rfl hH (by have:=hlen.out;omega) hs1 ?_)))
     intro v' w3 hown3 hb3 _;have hb4:=hbr1.trans hb3;clear hor1 hbr1 hs1 hH hb3;go_wp2
     go_roundg k
     case measure=>omega
     case rel=>exact⟨0+1,o++[92,35],by omega,by go_num,hnext,by simpa using hown3,hb4⟩
   | behind h h0 h1 hc e=>
    rw[h] at hsp;subst hc;have hi0:i≠0:=by simpa using h0
    have f0:((i:Int)==0)=false:=beq_false_of_ne (by omega);have hi1:i+1=s.size:=by simpa using h1
    have f1:((i:Int)==(s.size:Int)-1)=true:=by rw[beq_iff_eq];omega
    have hnext:=hide (hnx.out _ e);clear hnx e h h0 h1 hi0 hi1;have hone:(wr.alloc (.cells #[.int .u8 92,.int .u8 32] 5)).ownsRow wr.heap.size 5 1 (.slice (some ⟨wr.heap.size,0,none⟩) 2 2) 2 (bys [92,32]):=lit2 wr 92 32;have hH:=Has.own hone;have hor1:=hor.alloc (.cells #[.int .u8 92,.int .u8 32] 5);have hbr1:=hbr.alloc (hbr.size) (.cells #[.int .u8 92,.int .u8 32] 5);have hs1:=hbr1.size;clear hone hor hbr;go_wp2_with (first
     |(go_at_call 196;refine (hsp _).mono ?_;rintro e w' ⟨rfl,rfl⟩)
     |(at_builtin;go_must (refine app8 _ rfl (.tmp 41) (.tmp 43) rfl w.heap.size _ _ o rfl hor1 _ _ 2 2 [92,32] rfl hH (by have:=hlen.out;omega) hs1 ?_)))
    intro v' w3 hown3 hb3 _;have hb4:=hbr1.trans hb3;clear hor1 hbr1 hs1 hH hb3;go_wp2
    go_roundg k
    case measure=>omega
    case rel=>exact⟨i+1,o++[92,32],by omega,by go_num,hnext,by simpa using hown3,hb4⟩
   | inside h h0 h1 hc e=>
    rw[h] at hsp;subst hc;have hi0:i≠0:=by simpa using h0
    have f0:((i:Int)==0)=false:=beq_false_of_ne (by omega);have hi1:i+1≠s.size:=by simpa using h1
    have f1:((i:Int)==(s.size:Int)-1)=false:=beq_false_of_ne (by omega);have hnext:=hide (hnx.out _ e);clear hnx e h h0 h1 hi0 hi1;have hone:(wr.alloc (.cells #[.int .u8 32] 5)).ownsRow wr.heap.size 5 1 (.slice (some ⟨wr.heap.size,0,none⟩) 1 1) 1 (bys [32]):=one8 wr 32;have hH:=Has.own hone;have hor1:=hor.alloc (.cells #[.int .u8 32] 5);have hbr1:=hbr.alloc (hbr.size) (.cells #[.int .u8 32] 5);have hs1:=hbr1.size;clear hone hor hbr;go_wp2_with (first
     |(go_at_call 196;refine (hsp _).mono ?_;rintro e w' ⟨rfl,rfl⟩)
     |(at_builtin;go_must (refine app8 _ rfl (.tmp 15) (.tmp 17) rfl w.heap.size _ _ o rfl hor1 _ _ 1 1 [32] rfl hH (by have:=hlen.out;omega) hs1 ?_)))
    intro v' w3 hown3 hb3 _;have hb4:=hbr1.trans hb3;clear hor1 hbr1 hs1 hH hb3;go_wp2
    go_roundg k
    case measure=>omega
    case rel=>exact⟨i+1,o++[32],by omega,by go_num,hnext,by simpa using hown3,hb4⟩
   | hash h h0 hc e=>
    rw[h] at hsp;subst hc;have hi0:i≠0:=by simpa using h0
    have f0:((i:Int)==0)=false:=beq_false_of_ne (by omega);have f1:((i:Int)==(s.size:Int)-1)=decide (i+1=s.size):=by rw[Bool.eq_iff_iff,beq_iff_eq,decide_eq_true_iff];omega
    have hnext:=hide (hnx.out _ e);generalize decide (i+1=s.size)=b1 at f1;clear hnx e h h0 hi0;cases b1
    ·have hone:(wr.alloc (.cells #[.int .u8 35] 5)).ownsRow wr.heap.size 5 1 (.slice (some ⟨wr.heap.size,0,none⟩) 1 1) 1 (bys [35]):=one8 wr 35;have hH:=Has.own hone;have hor1:=hor.alloc (.cells #[.int .u8 35] 5);have hbr1:=hbr.alloc (hbr.size) (.cells #[.int .u8 35] 5);have hs1:=hbr1.size;clear hone hor hbr;go_wp2_with (first
      |(go_at_call 196;refine (hsp _).mono ?_;rintro e w' ⟨rfl,rfl⟩)
      |(at_builtin;go_must (refine app8 _ rfl (.tmp 15) (.tmp 17) rfl w.heap.size _ _ o rfl hor1 _ _ 1 1 [35] rfl hH (by have:=hlen.out;omega) hs1 ?_)))
     intro v' w3 hown3 hb3 _;have hb4:=hbr1.trans hb3;clear hor1 hbr1 hs1 hH hb3;go_wp2
     go_roundg k
     case measure=>omega
     case rel=>exact⟨i+1,o++[35],by omega,by go_num,hnext,by simpa using hown3,hb4⟩
    ·have hone:(wr.alloc (.cells #[.int .u8 35] 5)).ownsRow wr.heap.size 5 1 (.slice (some ⟨wr.heap.size,0,none⟩) 1 1) 1 (bys [35]):=one8 wr 35;have hH:=Has.own hone;have hor1:=hor.alloc (.cells #[.int .u8 35] 5);have hbr1:=hbr.alloc (hbr.size) (.cells #[.int .u8 35] 5);have hs1:=hbr1.size;clear hone hor hbr;go_wp2_with (first
      |(go_at_call 196;refine (hsp _).mono ?_;rintro e w' ⟨rfl,rfl⟩)
      |(at_builtin;go_must (refine app8 _ rfl (.tmp 15) (.tmp 17) rfl w.heap.size _ _ o rfl hor1 _ _ 1 1 [35] rfl hH (by have:=hlen.out;omega) hs1 ?_)))
     intro v' w3 hown3 hb3 _;have hb4:=hbr1.trans hb3;clear hor1 hbr1 hs1 hH hb3;go_wp2
     go_roundg k
     case measure=>omega
     case rel=>exact⟨i+1,o++[35],by omega,by go_num,hnext,by simpa using hown3,hb4⟩
   | plain h n1 n2 hc e=>
    rw[h] at hsp;have hnext:=hide (hnx.out _ e);have c1:¬((c.toNat:Int)<32):=by omega
    have c2:¬((126:Int)<(c.toNat:Int)):=(by omega);have f32:((c.toNat:Int)==32)=false:=ne8 (k:=32) (by omega) n1;have f35:((c.toNat:Int)==35)=false:=ne8 (k:=35) (by omega) n2;have f0:((i:Int)==0)=decide (i=0):=by rw[Bool.eq_iff_iff,beq_iff_eq,decide_eq_true_iff];omega
    have f1:((i:Int)==(s.size:Int)-1)=decide (i+1=s.size):=(by rw[Bool.eq_iff_iff,beq_iff_eq,decide_eq_true_iff];omega);generalize decide (i=0)=b0 at f0;generalize decide (i+1=s.size)=b1 at f1;clear hnx e h n1 n2 hc;cases b0<;>cases b1
    ·have hone:(wr.alloc (.cells #[.int .u8 (c.toNat:Int)] 5)).ownsRow wr.heap.size 5 1 (.slice (some ⟨wr.heap.size,0,none⟩) 1 1) 1 (bys [c]):=one8 wr c;have hH:=Has.own hone;have hor1:=hor.alloc (.cells #[.int .u8 (c.toNat:Int)] 5);have hbr1:=hbr.alloc (hbr.size) (.cells #[.int .u8 (c.toNat:Int)] 5);have hs1:=hbr1.size;clear hone hor hbr;go_wp2_with (first
      |(go_at_call 196;refine (hsp _).mono ?_;rintro e w' ⟨rfl,rfl⟩)
      |(at_builtin;go_must (refine app8 _ rfl (.tmp 15) (.tmp 17) rfl w.heap.size _ _ o rfl hor1 _ _ 1 1 [c] rfl hH (by have:=hlen.out;omega) hs1 ?_)))
     intro v' w3 hown3 hb3 _;have hb4:=hbr1.trans hb3;clear hor1 hbr1 hs1 hH hb3;go_wp2
     go_roundg k
     case measure=>omega
     case rel=>exact⟨i+1,o++[c],by omega,by go_num,hnext,by simpa using hown3,hb4⟩
    ·have hone:(wr.alloc (.cells #[.int .u8 (c.toNat:Int)] 5)).ownsRow wr.heap.size 5 1 (.slice (some ⟨wr.heap.size,0,none⟩) 1 1) 1 (bys [c]):=one8 wr c;have hH:=Has.own hone;have hor1:=hor.alloc (.cells #[.int .u8 (c.toNat:Int)] 5);have hbr1:=hbr.alloc (hbr.size) (.cells #[.int .u8 (c.toNat:Int)] 5);have hs1:=hbr1.size;clear hone hor hbr;go_wp2_with (first
      |(go_at_call 196;refine (hsp _).mono ?_;rintro e w' ⟨rfl,rfl⟩)
      |(at_builtin;go_must (refine app8 _ rfl (.tmp 15) (.tmp 17) rfl w.heap.size _ _ o rfl hor1 _ _ 1 1 [c] rfl hH (by have:=hlen.out;omega) hs1 ?_)))
     intro v' w3 hown3 hb3 _;have hb4:=hbr1.trans hb3;clear hor1 hbr1 hs1 hH hb3;go_wp2
     go_roundg k
     case measure=>omega
     case rel=>exact⟨i+1,o++[c],by omega,by go_num,hnext,by simpa using hown3,hb4⟩
    ·have hone:(wr.alloc (.cells #[.int .u8 (c.toNat:Int)] 5)).ownsRow wr.heap.size 5 1 (.slice (some ⟨wr.heap.size,0,none⟩) 1 1) 1 (bys [c]):=one8 wr c;have hH:=Has.own hone;have hor1:=hor.alloc (.cells #[.int .u8 (c.toNat:Int)] 5);have hbr1:=hbr.alloc (hbr.size) (.cells #[.int .u8 (c.toNat:Int)] 5);have hs1:=hbr1.size;clear hone hor hbr;go_wp2_with (first
      |(go_at_call 196;refine (hsp _).mono ?_;rintro e w' ⟨rfl,rfl⟩)
      |(at_builtin;go_must (refine app8 _ rfl (.tmp 15) (.tmp 17) rfl w.heap.size _ _ o rfl hor1 _ _ 1 1 [c] rfl hH (by have:=hlen.out;omega) hs1 ?_)))
     intro v' w3 hown3 hb3 _;have hb4:=hbr1.trans hb3;clear hor1 hbr1 hs1 hH hb3;go_wp2
     go_roundg k
     case measure=>omega
     case rel=>exact⟨i+1,o++[c],by omega,by go_num,hnext,by simpa using hown3,hb4⟩
    ·have hone:(wr.alloc (.cells #[.int .u8 (c.toNat:Int)] 5)).ownsRow wr.heap.size 5 1 (.slice (some ⟨wr.heap.size,0,none⟩) 1 1) 1 (bys [c]):=one8 wr c;have hH:=Has.own hone;have hor1:=hor.alloc (.cells #[.int .u8 (c.toNat:Int)] 5);have hbr1:=hbr.alloc (hbr.size) (.cells #[.int .u8 (c.toNat:Int)] 5);have hs1:=hbr1.size;clear hone hor hbr;go_wp2_with (first
      |(go_at_call 196;refine (hsp _).mono ?_;rintro e w' ⟨rfl,rfl⟩)
      |(at_builtin;go_must (refine app8 _ rfl (.tmp 15) (.tmp 17) rfl w.heap.size _ _ o rfl hor1 _ _ 1 1 [c] rfl hH (by have:=hlen.out;omega) hs1 ?_)))
     intro v' w3 hown3 hb3 _;have hb4:=hbr1.trans hb3;clear hor1 hbr1 hs1 hH hb3;go_wp2
     go_roundg k
     case measure=>omega
     case rel=>exact⟨i+1,o++[c],by omega,by go_num,hnext,by simpa using hown3,hb4⟩
   | hex h hc n1 n2 e=>
    rw[h] at hsp;have hnext:=hide (hnx.out _ e);have hlt:=c.toNat_lt;have hq:=zMi (c.toNat/16) (by omega);have hr:=zMi (c.toNat % 16) (by omega);have sh:=shr_at c;have an:=and_at c;have f32:((c.toNat:Int)==32)=false:=ne8 (k:=32) (by omega) n1;have f35:((c.toNat:Int)==35)=false:=ne8 (k:=35) (by omega) n2;have f0:((i:Int)==0)=decide (i=0):=by rw[Bool.eq_iff_iff,beq_iff_eq,decide_eq_true_iff];omega
    have f1:((i:Int)==(s.size:Int)-1)=decide (i+1=s.size):=(by rw[Bool.eq_iff_iff,beq_iff_eq,decide_eq_true_iff];omega);generalize decide (i=0)=b0 at f0;generalize decide (i+1=s.size)=b1 at f1;generalize hexD (c.toNat/16)=d1 at *;generalize hexD (c.toNat % 16)=d2 at *;generalize c.toNat/16=q at *;generalize c.toNat % 16=r at *;have HB:=hbr.size;clear hnx e h n1 n2;rcases hc with c1 | c1
    ·have c2:((c.toNat:Int)<32):=by omega
     clear c1 hlt;cases b0<;>cases b1
     ·go_wp2_with (go_at_call 196;refine (hsp _).mono ?_;rintro e w' ⟨rfl,hw⟩;obtain rfl:=hw.symm);refine zAk w.heap.size (by kernel_rfl) ?_;have hbr0:Below w.heap.size w wr.drew:=hbr.trans ((Below.refl _ _).drew);have hor0:=zAc hor (Below.refl wr.heap.size wr).drew;have hs0:=hbr0.size;clear hor hbr HB;generalize wr.drew=a0 at *;refine yTk 0 (some 52) ?_;simp only[pUz];refine yTk 1 (some 53) ?_;simp only[pUz];refine yTk 2 (some 54) ?_;simp only[pUz];refine zAa 3 (some 55) (v:=?va3) rfl rfl (by kernel_rfl) rfl (by rfl) (fun W hW=>?ya3) ?_
      case ya3=>have h1:=hq W;go_simp<;>with_reducible rfl
      simp only[pUz];refine yTk 4 (some 56) ?_;simp only[pUz];refine yTk 5 (some 57) ?_;simp only[pUz];refine zAa 6 (some 58) (v:=?va6) rfl rfl (by kernel_rfl) rfl (by rfl) (fun W hW=>?ya6) ?_
      case ya6=>have h1:=hr W;go_simp<;>with_reducible rfl
      simp only[pUz];refine zAe 7 rfl (by kernel_rfl) (fun K hK=>?_);go_simp;have hb1:Below w.heap.size a0 (a0.alloc (.cells #[.int .u8 92,.int .u8 (d1.toNat:Int),.int .u8 (d2.toNat:Int)] 5)):=(Below.refl _ _).alloc hs0 _;have hone:(a0.alloc (.cells #[.int .u8 92,.int .u8 (d1.toNat:Int),.int .u8 (d2.toNat:Int)] 5)).ownsRow a0.heap.size 5 1 (.slice (some ⟨a0.heap.size,0,none⟩) 3 3) 3 (bys [92,d1,d2]):=lit3 a0 92 d1 d2;have hH:=Has.own hone;have hor1:=hor0.alloc (.cells #[.int .u8 92,.int .u8 (d1.toNat:Int),.int .u8 (d2.toNat:Int)] 5);have hba:=hbr0.trans hb1;have hs1:=hba.size;clear hone hor0 hbr0;refine hK.out _ _ hb1 ?_;clear hK K hb1;(try simp only[pUz]);refine zAe 8 rfl (by kernel_rfl) (fun K hK=>?_);refine step8 _ (some 60) rfl rfl (.tmp 52) (.tmp 59) rfl w.heap.size _ _ o rfl hor1 _ _ 3 3 [92,d1,d2] rfl hH (by have:=hlen.out;omega) hs1 ?_;intro v' w3 hown3 hb3 _ _;have hb4:=hba.trans hb3;refine hK.out _ _ hb3 ?_;clear hK K hor1 hba hs1 hH hb3;(try simp only[pUz]);refine yTk 9 (some 3) ?_;simp only[pUz];refine zAi (by kernel_rfl) ?_ _;go_wp2
      go_roundg k
      case measure=>omega
      case rel=>exact⟨i+1,o++[92,d1,d2],by omega,by go_num,hnext,by simpa using hown3,hb4⟩
     ·go_wp2_with (go_at_call 196;refine (hsp _).mono ?_;rintro e w' ⟨rfl,hw⟩;obtain rfl:=hw.symm);refine zAk w.heap.size (by kernel_rfl) ?_;have hbr0:Below w.heap.size w wr.drew:=hbr.trans ((Below.refl _ _).drew);have hor0:=zAc hor (Below.refl wr.heap.size wr).drew;have hs0:=hbr0.size;clear hor hbr HB;generalize wr.drew=a0 at *;refine yTk 0 (some 52) ?_;simp only[pUz];refine yTk 1 (some 53) ?_;simp only[pUz];refine yTk 2 (some 54) ?_;simp only[pUz];refine zAa 3 (some 55) (v:=?vb3) rfl rfl (by kernel_rfl) rfl (by rfl) (fun W hW=>?yb3) ?_
      case yb3=>have h1:=hq W;go_simp<;>with_reducible rfl
      simp only[pUz];refine yTk 4 (some 56) ?_;simp only[pUz];refine yTk 5 (some 57) ?_;simp only[pUz];refine zAa 6 (some 58) (v:=?vb6) rfl rfl (by kernel_rfl) rfl (by rfl) (fun W hW=>?yb6) ?_
      case yb6=>have h1:=hr W;go_simp<;>with_reducible rfl
      simp only[pUz];refine zAe 7 rfl (by kernel_rfl) (fun K hK=>?_);go_simp;have hb1:Below w.heap.size a0 (a0.alloc (.cells #[.int .u8 92,.int .u8 (d1.toNat:Int),.int .u8 (d2.toNat:Int)] 5)):=(Below.refl _ _).alloc hs0 _;have hone:(a0.alloc (.cells #[.int .u8 92,.int .u8 (d1.toNat:Int),.int .u8 (d2.toNat:Int)] 5)).ownsRow a0.heap.size 5 1 (.slice (some ⟨a0.heap.size,0,none⟩) 3 3) 3 (bys [92,d1,d2]):=lit3 a0 92 d1 d2;have hH:=Has.own hone;have hor1:=hor0.alloc (.cells #[.int .u8 92,.int .u8 (d1.toNat:Int),.int .u8 (d2.toNat:Int)] 5);have hba:=hbr0.trans hb1;have hs1:=hba.size;clear hone hor0 hbr0;refine hK.out _ _ hb1 ?_;clear hK K hb1;(try simp only[pUz]);refine zAe 8 rfl (by kernel_rfl) (fun K hK=>?_);refine step8 _ (some 60) rfl rfl (.tmp 52) (.tmp 59) rfl w.heap.size _ _ o rfl hor1 _ _ 3 3 [92,d1,d2] rfl hH (by have:=hlen.out;omega) hs1 ?_;intro v' w3 hown3 hb3 _ _;have hb4:=hba.trans hb3;refine hK.out _ _ hb3 ?_;clear hK K hor1 hba hs1 hH hb3;(try simp only[pUz]);refine yTk 9 (some 3) ?_;simp only[pUz];refine zAi (by kernel_rfl) ?_ _;go_wp2
      go_roundg k
      case measure=>omega
      case rel=>exact⟨i+1,o++[92,d1,d2],by omega,by go_num,hnext,by simpa using hown3,hb4⟩
     ·go_wp2_with (go_at_call 196;refine (hsp _).mono ?_;rintro e w' ⟨rfl,hw⟩;obtain rfl:=hw.symm);refine zAk w.heap.size (by kernel_rfl) ?_;have hbr0:Below w.heap.size w wr.drew:=hbr.trans ((Below.refl _ _).drew);have hor0:=zAc hor (Below.refl wr.heap.size wr).drew;have hs0:=hbr0.size;clear hor hbr HB;generalize wr.drew=a0 at *;refine yTk 0 (some 52) ?_;simp only[pUz];refine yTk 1 (some 53) ?_;simp only[pUz];refine yTk 2 (some 54) ?_;simp only[pUz];refine zAa 3 (some 55) (v:=?vc3) rfl rfl (by kernel_rfl) rfl (by rfl) (fun W hW=>?yc3) ?_
      case yc3=>have h1:=hq W;go_simp<;>with_reducible rfl
      simp only[pUz];refine yTk 4 (some 56) ?_;simp only[pUz];refine yTk 5 (some 57) ?_;simp only[pUz];refine zAa 6 (some 58) (v:=?vc6) rfl rfl (by kernel_rfl) rfl (by rfl) (fun W hW=>?yc6) ?_
      case yc6=>have h1:=hr W;go_simp<;>with_reducible rfl
      simp only[pUz];refine zAe 7 rfl (by kernel_rfl) (fun K hK=>?_);go_simp;have hb1:Below w.heap.size a0 (a0.alloc (.cells #[.int .u8 92,.int .u8 (d1.toNat:Int),.int .u8 (d2.toNat:Int)] 5)):=(Below.refl _ _).alloc hs0 _;have hone:(a0.alloc (.cells #[.int .u8 92,.int .u8 (d1.toNat:Int),.int .u8 (d2.toNat:Int)] 5)).ownsRow a0.heap.size 5 1 (.slice (some ⟨a0.heap.size,0,none⟩) 3 3) 3 (bys [92,d1,d2]):=lit3 a0 92 d1 d2;have hH:=Has.own hone;have hor1:=hor0.alloc (.cells #[.int .u8 92,.int .u8 (d1.toNat:Int),.int .u8 (d2.toNat:Int)] 5);have hba:=hbr0.trans hb1;have hs1:=hba.size;clear hone hor0 hbr0;refine hK.out _ _ hb1 ?_;clear hK K hb1;(try simp only[pUz]);refine zAe 8 rfl (by kernel_rfl) (fun K hK=>?_);refine step8 _ (some 60) rfl rfl (.tmp 52) (.tmp 59) rfl w.heap.size _ _ o rfl hor1 _ _ 3 3 [92,d1,d2] rfl hH (by have:=hlen.out;omega) hs1 ?_;intro v' w3 hown3 hb3 _ _;have hb4:=hba.trans hb3;refine hK.out _ _ hb3 ?_;clear hK K hor1 hba hs1 hH hb3;(try simp only[pUz]);refine yTk 9 (some 3) ?_;simp only[pUz];refine zAi (by kernel_rfl) ?_ _;go_wp2
      go_roundg k
      case measure=>omega
      case rel=>exact⟨i+1,o++[92,d1,d2],by omega,by go_num,hnext,by simpa using hown3,hb4⟩
     ·go_wp2_with (go_at_call 196;refine (hsp _).mono ?_;rintro e w' ⟨rfl,hw⟩;obtain rfl:=hw.symm);refine zAk w.heap.size (by kernel_rfl) ?_;have hbr0:Below w.heap.size w wr.drew:=hbr.trans ((Below.refl _ _).drew);have hor0:=zAc hor (Below.refl wr.heap.size wr).drew;have hs0:=hbr0.size;clear hor hbr HB;generalize wr.drew=a0 at *;refine yTk 0 (some 52) ?_;simp only[pUz];refine yTk 1 (some 53) ?_;simp only[pUz];refine yTk 2 (some 54) ?_;simp only[pUz];refine zAa 3 (some 55) (v:=?vd3) rfl rfl (by kernel_rfl) rfl (by rfl) (fun W hW=>?yd3) ?_
      case yd3=>have h1:=hq W;go_simp<;>with_reducible rfl
      simp only[pUz];refine yTk 4 (some 56) ?_;simp only[pUz];refine yTk 5 (some 57) ?_;simp only[pUz];refine zAa 6 (some 58) (v:=?vd6) rfl rfl (by kernel_rfl) rfl (by rfl) (fun W hW=>?yd6) ?_
      case yd6=>have h1:=hr W;go_simp<;>with_reducible rfl
      simp only[pUz];refine zAe 7 rfl (by kernel_rfl) (fun K hK=>?_);go_simp;have hb1:Below w.heap.size a0 (a0.alloc (.cells #[.int .u8 92,.int .u8 (d1.toNat:Int),.int .u8 (d2.toNat:Int)] 5)):=(Below.refl _ _).alloc hs0 _;have hone:(a0.alloc (.cells #[.int .u8 92,.int .u8 (d1.toNat:Int),.int .u8 (d2.toNat:Int)] 5)).ownsRow a0.heap.size 5 1 (.slice (some ⟨a0.heap.size,0,none⟩) 3 3) 3 (bys [92,d1,d2]):=lit3 a0 92 d1 d2;have hH:=Has.own hone;have hor1:=hor0.alloc (.cells #[.int .u8 92,.int .u8 (d1.toNat:Int),.int .u8 (d2.toNat:Int)] 5);have hba:=hbr0.trans hb1;have hs1:=hba.size;clear hone hor0 hbr0;refine hK.out _ _ hb1 ?_;clear hK K hb1;(try simp only[pUz]);refine zAe 8 rfl (by kernel_rfl) (fun K hK=>?_);refine step8 _ (some 60) rfl rfl (.tmp 52) (.tmp 59) rfl w.heap.size _ _ o rfl hor1 _ _ 3 3 [92,d1,d2] rfl hH (by have:=hlen.out;omega) hs1 ?_;intro v' w3 hown3 hb3 _ _;have hb4:=hba.trans hb3;refine hK.out _ _ hb3 ?_;clear hK K hor1 hba hs1 hH hb3;(try simp only[pUz]);refine yTk 9 (some 3) ?_;simp only[pUz];refine zAi (by kernel_rfl) ?_ _;go_wp2
      go_roundg k
      case measure=>omega
      case rel=>exact⟨i+1,o++[92,d1,d2],by omega,by go_num,hnext,by simpa using hown3,hb4⟩
    ·have c2:¬((c.toNat:Int)<32):=by omega
     have c3:((126:Int)<(c.toNat:Int)):=(by omega);clear c1 hlt;cases b0<;>cases b1
     ·go_wp2_with (go_at_call 196;refine (hsp _).mono ?_;rintro e w' ⟨rfl,hw⟩;obtain rfl:=hw.symm);refine zAk w.heap.size (by kernel_rfl) ?_;have hbr0:Below w.heap.size w wr.drew:=hbr.trans ((Below.refl _ _).drew);have hor0:=zAc hor (Below.refl wr.heap.size wr).drew;have hs0:=hbr0.size;clear hor hbr HB;generalize wr.drew=a0 at *;refine yTk 0 (some 52) ?_;simp only[pUz];refine yTk 1 (some 53) ?_;simp only[pUz];refine yTk 2 (some 54) ?_;simp only[pUz];refine zAa 3 (some 55) (v:=?ve3) rfl rfl (by kernel_rfl) rfl (by rfl) (fun W hW=>?ye3) ?_
      case ye3=>have h1:=hq W;go_simp<;>with_reducible rfl
      simp only[pUz];refine yTk 4 (some 56) ?_;simp only[pUz];refine yTk 5 (some 57) ?_;simp only[pUz];refine zAa 6 (some 58) (v:=?ve6) rfl rfl (by kernel_rfl) rfl (by rfl) (fun W hW=>?ye6) ?_
      case ye6=>have h1:=hr W;go_simp<;>with_reducible rfl
      simp only[pUz];refine zAe 7 rfl (by kernel_rfl) (fun K hK=>?_);go_simp;have hb1:Below w.heap.size a0 (a0.alloc (.cells #[.int .u8 92,.int .u8 (d1.toNat:Int),.int .u8 (d2.toNat:Int)] 5)):=(Below.refl _ _).alloc hs0 _;have hone:(a0.alloc (.cells #[.int .u8 92,.int .u8 (d1.toNat:Int),.int .u8 (d2.toNat:Int)] 5)).ownsRow a0.heap.size 5 1 (.slice (some ⟨a0.heap.size,0,none⟩) 3 3) 3 (bys [92,d1,d2]):=lit3 a0 92 d1 d2;have hH:=Has.own hone;have hor1:=hor0.alloc (.cells #[.int .u8 92,.int .u8 (d1.toNat:Int),.int .u8 (d2.toNat:Int)] 5);have hba:=hbr0.trans hb1;have hs1:=hba.size;clear hone hor0 hbr0;refine hK.out _ _ hb1 ?_;clear hK K hb1;(try simp only[pUz]);refine zAe 8 rfl (by kernel_rfl) (fun K hK=>?_);refine step8 _ (some 60) rfl rfl (.tmp 52) (.tmp 59) rfl w.heap.size _ _ o rfl hor1 _ _ 3 3 [92,d1,d2] rfl hH (by have:=hlen.out;omega) hs1 ?_;intro v' w3 hown3 hb3 _ _;have hb4:=hba.trans hb3;refine hK.out _ _ hb3 ?_;clear hK K hor1 hba hs1 hH hb3;(try simp only[pUz]);refine yTk 9 (some 3) ?_;simp only[pUz];refine zAi (by kernel_rfl) ?_ _;go_wp2
      go_roundg k
      case measure=>omega
      case rel=>exact⟨i+1,o++[92,d1,d2],by omega,by go_num,hnext,by simpa using hown3,hb4⟩
     ·go_wp2_with (go_at_call 196;refine (hsp _).mono ?_;rintro e w' ⟨rfl,hw⟩;obtain rfl:=hw.symm);refine zAk w.heap.size (by kernel_rfl) ?_;have hbr0:Below w.heap.size w wr.drew:=hbr.trans ((Below.refl _ _).drew);have hor0:=zAc hor (Below.refl wr.heap.size wr).drew;have hs0:=hbr0.size;clear hor hbr HB;generalize wr.drew=a0 at *;refine yTk 0 (some 52) ?_;simp only[pUz];refine yTk 1 (some 53) ?_;simp only[pUz];refine yTk 2 (some 54) ?_;simp only[pUz];refine zAa 3 (some 55) (v:=?vf3) rfl rfl (by kernel_rfl) rfl (by rfl) (fun W hW=>?yf3) ?_
      case yf3=>have h1:=hq W;go_simp<;>with_reducible rfl
      simp only[pUz];refine yTk 4 (some 56) ?_;simp only[pUz];refine yTk 5 (some 57) ?_;simp only[pUz];refine zAa 6 (some 58) (v:=?vf6) rfl rfl (by kernel_rfl) rfl (by rfl) (fun W hW=>?yf6) ?_
      case yf6=>have h1:=hr W;go_simp<;>with_reducible rfl
      simp only[pUz];refine zAe 7 rfl (by kernel_rfl) (fun K hK=>?_);go_simp;have hb1:Below w.heap.size a0 (a0.alloc (.cells #[.int .u8 92,.int .u8 (d1.toNat:Int),.int .u8 (d2.toNat:Int)] 5)):=(Below.refl _ _).alloc hs0 _;have hone:(a0.alloc (.cells #[.int .u8 92,.int .u8 (d1.toNat:Int),.int .u8 (d2.toNat:Int)] 5)).ownsRow a0.heap.size 5 1 (.slice (some ⟨a0.heap.size,0,none⟩) 3 3) 3 (bys [92,d1,d2]):=lit3 a0 92 d1 d2;have hH:=Has.own hone;have hor1:=hor0.alloc (.cells #[.int .u8 92,.int .u8 (d1.toNat:Int),.int .u8 (d2.toNat:Int)] 5);have hba:=hbr0.trans hb1;have hs1:=hba.size;clear hone hor0 hbr0;refine hK.out _ _ hb1 ?_;clear hK K hb1;(try simp only[pUz]);refine zAe 8 rfl (by kernel_rfl) (fun K hK=>?_);refine step8 _ (some 60) rfl rfl (.tmp 52) (.tmp 59) rfl w.heap.size _ _ o rfl hor1 _ _ 3 3 [92,d1,d2] rfl hH (by have:=hlen.out;omega) hs1 ?_;intro v' w3 hown3 hb3 _ _;have hb4:=hba.trans hb3;refine hK.out _ _ hb3 ?_;clear hK K hor1 hba hs1 hH hb3;(try simp only[pUz]);refine yTk 9 (some 3) ?_;simp only[pUz];refine zAi (by kernel_rfl) ?_ _;go_wp2
      go_roundg k
      case measure=>omega
      case rel=>exact⟨i+1,o++[92,d1,d2],by omega,by go_num,hnext,by simpa using hown3,hb4⟩
     ·go_wp2_with (go_at_call 196;refine (hsp _).mono ?_;rintro e w' ⟨rfl,hw⟩;obtain rfl:=hw.symm);refine zAk w.heap.size (by kernel_rfl) ?_;have hbr0:Below w.heap.size w wr.drew:=hbr.trans ((Below.refl _ _).drew);have hor0:=zAc hor (Below.refl wr.heap.size wr).drew;have hs0:=hbr0.size;clear hor hbr HB;generalize wr.drew=a0 at *;refine yTk 0 (some 52) ?_;simp only[pUz];refine yTk 1 (some 53) ?_;simp only[pUz];refine yTk 2 (some 54) ?_;simp only[pUz];refine zAa 3 (some 55) (v:=?vg3) rfl rfl (by kernel_rfl) rfl (by rfl) (fun W hW=>?yg3) ?_
      case yg3=>have h1:=hq W;go_simp<;>with_reducible rfl
      simp only[pUz];refine yTk 4 (some 56) ?_;simp only[pUz];refine yTk 5 (some 57) ?_;simp only[pUz];refine zAa 6 (some 58) (v:=?vg6) rfl rfl (by kernel_rfl) rfl (by rfl) (fun W hW=>?yg6) ?_
      case yg6=>have h1:=hr W;go_simp<;>with_reducible rfl
      simp only[pUz];refine zAe 7 rfl (by kernel_rfl) (fun K hK=>?_);go_simp;have hb1:Below w.heap.size a0 (a0.alloc (.cells #[.int .u8 92,.int .u8 (d1.toNat:Int),.int .u8 (d2.toNat:Int)] 5)):=(Below.refl _ _).alloc hs0 _;have hone:(a0.alloc (.cells #[.int .u8 92,.int .u8 (d1.toNat:Int),.int .u8 (d2.toNat:Int)] 5)).ownsRow a0.heap.size 5 1 (.slice (some ⟨a0.heap.size,0,none⟩) 3 3) 3 (bys [92,d1,d2]):=lit3 a0 92 d1 d2;have hH:=Has.own hone;have hor1:=hor0.alloc (.cells #[.int .u8 92,.int .u8 (d1.toNat:Int),.int .u8 (d2.toNat:Int)] 5);have hba:=hbr0.trans hb1;have hs1:=hba.size;clear hone hor0 hbr0;refine hK.out _ _ hb1 ?_;clear hK K hb1;(try simp only[pUz]);refine zAe 8 rfl (by kernel_rfl) (fun K hK=>?_);refine step8 _ (some 60) rfl rfl (.tmp 52) (.tmp 59) rfl w.heap.size _ _ o rfl hor1 _ _ 3 3 [92,d1,d2] rfl hH (by have:=hlen.out;omega) hs1 ?_;intro v' w3 hown3 hb3 _ _;have hb4:=hba.trans hb3;refine hK.out _ _ hb3 ?_;clear hK K hor1 hba hs1 hH hb3;(try simp only[pUz]);refine yTk 9 (some 3) ?_;simp only[pUz];refine zAi (by kernel_rfl) ?_ _;go_wp2
      go_roundg k
      case measure=>omega
      case rel=>exact⟨i+1,o++[92,d1,d2],by omega,by go_num,hnext,by simpa using hown3,hb4⟩
     ·go_wp2_with (go_at_call 196;refine (hsp _).mono ?_;rintro e w' ⟨rfl,hw⟩;obtain rfl:=hw.symm);refine zAk w.heap.size (by kernel_rfl) ?_;have hbr0:Below w.heap.size w wr.drew:=hbr.trans ((Below.refl _ _).drew);have hor0:=zAc hor (Below.refl wr.heap.size wr).drew;have hs0:=hbr0.size;clear hor hbr HB;generalize wr.drew=a0 at *;refine yTk 0 (some 52) ?_;simp only[pUz];refine yTk 1 (some 53) ?_;simp only[pUz];refine yTk 2 (some 54) ?_;simp only[pUz];refine zAa 3 (some 55) (v:=?vh3) rfl rfl (by kernel_rfl) rfl (by rfl) (fun W hW=>?yh3) ?_
      case yh3=>have h1:=hq W;go_simp<;>with_reducible rfl
      simp only[pUz];refine yTk 4 (some 56) ?_;simp only[pUz];refine yTk 5 (some 57) ?_;simp only[pUz];refine zAa 6 (some 58) (v:=?vh6) rfl rfl (by kernel_rfl) rfl (by rfl) (fun W hW=>?yh6) ?_
      case yh6=>have h1:=hr W;go_simp<;>with_reducible rfl
      simp only[pUz];refine zAe 7 rfl (by kernel_rfl) (fun K hK=>?_);go_simp;have hb1:Below w.heap.size a0 (a0.alloc (.cells #[.int .u8 92,.int .u8 (d1.toNat:Int),.int .u8 (d2.toNat:Int)] 5)):=(Below.refl _ _).alloc hs0 _;have hone:(a0.alloc (.cells #[.int .u8 92,.int .u8 (d1.toNat:Int),.int .u8 (d2.toNat:Int)] 5)).ownsRow a0.heap.size 5 1 (.slice (some ⟨a0.heap.size,0,none⟩) 3 3) 3 (bys [92,d1,d2]):=lit3 a0 92 d1 d2;have hH:=Has.own hone;have hor1:=hor0.alloc (.cells #[.int .u8 92,.int .u8 (d1.toNat:Int),.int .u8 (d2.toNat:Int)] 5);have hba:=hbr0.trans hb1;have hs1:=hba.size;clear hone hor0 hbr0;refine hK.out _ _ hb1 ?_;clear hK K hb1;(try simp only[pUz]);refine zAe 8 rfl (by kernel_rfl) (fun K hK=>?_);refine step8 _ (some 60) rfl rfl (.tmp 52) (.tmp 59) rfl w.heap.size _ _ o rfl hor1 _ _ 3 3 [92,d1,d2] rfl hH (by have:=hlen.out;omega) hs1 ?_;intro v' w3 hown3 hb3 _ _;have hb4:=hba.trans hb3;refine hK.out _ _ hb3 ?_;clear hK K hor1 hba hs1 hH hb3;(try simp only[pUz]);refine yTk 9 (some 3) ?_;simp only[pUz];refine zAi (by kernel_rfl) ?_ _;go_wp2
      go_roundg k
      case measure=>omega
      case rel=>exact⟨i+1,o++[92,d1,d2],by omega,by go_num,hnext,by simpa using hown3,hb4⟩
theorem one_fin:∀j:Fin 256,decide ((Lib.indexByte [44,43,34,92,60,62,59] (UInt8.ofNat j.val))≥0)=isSpec (UInt8.ofNat j.val):=by decide+kernel
theorem two_fin:∀j:Fin 256,decide ((Lib.indexByte [44,43,34,92,60,62,59,35,61,32] (UInt8.ofNat j.val))≥0)=isBehind (UInt8.ofNat j.val):=by decide+kernel
theorem zQm (c:UInt8):UInt8.ofNat c.toNat=c:=by simp
theorem one_of (c:UInt8):decide ((Lib.indexByte [44,43,34,92,60,62,59] c)≥0)=isSpec c:=by
 have:=one_fin ⟨c.toNat,c.toNat_lt⟩;simpa only[zQm] using this
theorem two_of (c:UInt8):decide ((Lib.indexByte [44,43,34,92,60,62,59,35,61,32] c)≥0)=isBehind c:=by
 have:=two_fin ⟨c.toNat,c.toNat_lt⟩;simpa only[zQm] using this
theorem zJu (s:ByteArray) (c:UInt8) (w:World):
  Calls Tryz.prog 254 #[.string s,.int .u8 (c.toNat:Int)] w fun e w'=>e=.returned (.bool (decide (Lib.indexByte s.data.toList c≥0)))/\w'=w:=by
 have hI:=fun w=>Tryz.strings_IndexByte s (c.toNat:Int) w
 have e1:((c.toNat:Int)).toNat.toUInt8=c:=by simp
 rw[e1] at hI;generalize Lib.indexByte s.data.toList c=I at *;go_enter Tryz.func254,Tryz.ntmps254;go_wp2_with (go_at_call 244;refine (hI _).mono ?_;rintro e w' ⟨rfl,rfl⟩);go_ret;exact⟨rfl,rfl⟩
theorem zHk (c:UInt8) (w:World):Calls Tryz.prog 254 #[.string ⟨#[44,43,34,92,60,62,59]⟩,.int .u8 (c.toNat:Int)] w fun e w'=>e=.returned (.bool (isSpec c))/\w'=w:=by
 have:=zJu ⟨#[44,43,34,92,60,62,59]⟩ c w;rw[show (⟨#[44,43,34,92,60,62,59]⟩:ByteArray).data.toList=[44,43,34,92,60,62,59] from rfl,one_of] at this;exact this
theorem zKb (c:UInt8) (w:World):Calls Tryz.prog 254 #[.string ⟨#[44,43,34,92,60,62,59,35,61,32]⟩,.int .u8 (c.toNat:Int)] w fun e w'=>e=.returned (.bool (isBehind c))/\w'=w:=by
 have:=zJu ⟨#[44,43,34,92,60,62,59,35,61,32]⟩ c w;rw[show (⟨#[44,43,34,92,60,62,59,35,61,32]⟩:ByteArray).data.toList=[44,43,34,92,60,62,59,35,61,32] from rfl,two_of] at this;exact this
def needs (first last:Bool) (c:UInt8):Bool:=if c=35 then first else if c=32 then first||last else isSpec c
inductive WrIs (first last:Bool) (c:UInt8):Prop where
 | stroke (hc:32<=c.toNat/\c.toNat<=126) (hn:needs first last c=true) (e:esc first last c=[92,c])
 | plain (hc:32<=c.toNat/\c.toNat<=126) (hn:needs first last c=false) (e:esc first last c=[c])
 | hex (hc:c.toNat<32\/126<c.toNat) (e:esc first last c=[92,hexD (c.toNat/16),hexD (c.toNat % 16)])
theorem zO2 {c:UInt8} (h:isSpec c=true):(32<=c.toNat/\c.toNat<=126)/\c≠32/\c≠35:=by
 rcases zHw c with rfl | rfl | rfl | rfl | rfl | rfl | rfl | h'
 all_goals first
  | decide
  |(rw[h'] at h;cases h)
theorem wr_is (first last:Bool) (c:UInt8):WrIs first last c:=by
 cases esc_is first last c with
 | spec h e=>
  obtain⟨h1,h2,h3⟩:=zO2 h;exact .stroke h1 (by unfold needs;rw[if_neg h3,if_neg h2,h]) e
 | ahead h h1 hc e=>
  subst h1;rcases hc with rfl | rfl
  ·exact .stroke (by decide) (by simp[needs]) e
  ·exact .stroke (by decide) (by simp[needs]) e
 | behind h h0 h1 hc e=>
  subst h1 hc;exact .stroke (by decide) (by simp[needs]) e
 | hex h hc n1 n2 e=>exact .hex hc e
 | inside h h0 h1 hc e=>
  subst h0 h1 hc;exact .plain (by decide) (by simp[needs]) e
 | hash h h0 hc e=>
  subst h0 hc;exact .plain (by decide) (by simp[needs]) e
 | plain h n1 n2 hc e=>exact .plain hc (by unfold needs;rw[if_neg n2,if_neg n1,h]) e
theorem zPv (s:ByteArray) (hs:s.size<=1000000) (i:Nat) (hi:i<s.size) (c:UInt8) (hx:s[i]'hi=c) (w:World):
  Calls Tryz.prog 225 #[.string s,.int .i64 (i:Int)] w fun e w'=>e=.returned (.bool (needs (decide (i=0)) (decide (i+1=s.size)) c))/\w'=w:=by
 have hO:=fun w=>zHk c w
 have hiz:(i:Int)<(s.size:Int):=by omega
 have f0:((i:Int)==0)=decide (i=0):=by rw[Bool.eq_iff_iff,beq_iff_eq,decide_eq_true_iff];omega
 have f1:((i:Int)==(s.size:Int)-1)=decide (i+1=s.size):=by rw[Bool.eq_iff_iff,beq_iff_eq,decide_eq_true_iff];omega
 generalize decide (i=0)=b0 at *;generalize decide (i+1=s.size)=b1 at *;by_cases h35:c=35
 ·subst h35;have hr:needs b0 b1 35=b0:=by simp[needs]
  rw[hr];clear hr;go_enter Tryz.func225,Tryz.ntmps225;go_wp2;go_ret;exact⟨rfl,rfl⟩
 ·have g35:((c.toNat:Int)==35)=false:=ne8 (k:=35) (by omega) h35;by_cases h32:c=32
  ·subst h32;have hr:needs b0 b1 32=(b0||b1):=by simp[needs]
   rw[hr];clear hr;cases b0
   ·go_enter Tryz.func225,Tryz.ntmps225;go_wp2;go_ret;exact⟨rfl,rfl⟩
   ·go_enter Tryz.func225,Tryz.ntmps225;go_wp2;go_ret;exact⟨rfl,rfl⟩
  ·have g32:((c.toNat:Int)==32)=false:=ne8 (k:=32) (by omega) h32;have hr:needs b0 b1 c=isSpec c:=by simp[needs,h35,h32]
   rw[hr];clear hr h35 h32 f0 f1;go_enter Tryz.func225,Tryz.ntmps225;go_wp2_with (go_at_call 254;refine (hO _).mono ?_;rintro e w' ⟨rfl,rfl⟩);go_ret;exact⟨rfl,rfl⟩
theorem zPg (s:ByteArray) (hs:s.size<=1000000) (v0:Value) (p:List UInt8) (hp:p.length<=10000000) (w:World) (base:Nat) (hbase:base<=w.heap.size) (hown:w.ownsRow base 5 1 v0 p.length (bys p)):
  Calls Tryz.prog 200 #[v0,.string s] w fun e w'=>∃v',e=.returned v'/\w'.ownsRow base 5 1 v' (p++wrV s.data.toList).length (bys (p++wrV s.data.toList))/\Below base w w':=by
 have hL:=hide (Lib.size_eq s);have hat:∀(i:Nat) (hi:i<s.size),s.data.toList[i]?=some s[i]:=fun i hi=>Lib.data_getElem? s i hi
 have hN:=fun (i:Nat) (hi:i<s.size) (c:UInt8) (hx:s[i]'hi=c) w=>zPv s hs i hi c hx w
 generalize hl:s.data.toList=l at *;replace hl:=hide hl;replace hat:=hide hat;replace hN:=hide hN;have hwl:=hide (zNk l);go_enter Tryz.func200,Tryz.ntmps200;go_wp2
 go_loopg [0,9] s.size (fun k s0 s9 wx=>∃(i:Nat) (o:List UInt8),i+k=s.size/\s9=.int .i64 (i:Int)/\Hid (o++wrFrom (decide (i=0)) (l.drop i)=wrV l)/\wx.ownsRow base 5 1 s0 (p++o).length (bys (p++o))/\Below base w wx)
 case atStart=>exact⟨0,[],by omega,rfl,hide rfl,by simpa using hown,Below.refl _ _⟩
 case round=>
  obtain⟨i,o,hig,rfl,ho,hor,hbr⟩:=hrel;clear hown;cases gk with
  | zero=>
   obtain rfl:i=s.size:=by omega
   have hiz:¬((s.size:Int)<(s.size:Int)):=by omega
   have hR:Hid (o=wrV l):=hide (by
    have:=ho.out
    rw[List.drop_eq_nil_of_le (by rw[<-hL.out];exact Nat.le_refl _)] at this
    simpa[wrFrom] using this)
   rw[hR.out] at hor;clear ho;go_wp2;go_ret;exact⟨_,rfl,by rw[<-List.length_append];exact hor,hbr⟩
  | succ k=>
   have hi:i<s.size:=by omega
   have hiz:(i:Int)<(s.size:Int):=by omega
   obtain⟨c,hx⟩:∃c:UInt8,s[i]'hi=c:=⟨_,rfl⟩;have hxl:l[i]?=some c:=by rw[hat.out i hi,hx]
   have hlen:Hid ((p++o).length<=13000000):=hide (by
    have h1:=congrArg List.length ho.out
    have h2:=hwl.out
    have h3:=hL.out
    rw[List.length_append] at h1
    rw[List.length_append]
    omega)
   have hne:=fun w=>hN.out i hi c hx w
   have hnx:=fun x h=>wr_at ho.out hxl x h
   have hlast:decide (i+1=l.length)=decide (i+1=s.size):=by rw[hL.out]
   rw[hlast] at hnx;replace hnx:=hide hnx;have hE:=wr_is (decide (i=0)) (decide (i+1=s.size)) c;have hap:∀x:List UInt8,p++o++x=p++(o++x):=fun x=>List.append_assoc _ _ _
   clear hxl ho hlast;cases hE with
   | stroke hc hn e=>
    rw[hn] at hne;have hnext:=hide (hnx.out _ e);have c1:¬((c.toNat:Int)<32):=by omega
    have c2:¬((126:Int)<(c.toNat:Int)):=by omega
    clear hnx e hc hn;have hone:(wr.alloc (.cells #[.int .u8 92,.int .u8 (c.toNat:Int)] 5)).ownsRow wr.heap.size 5 1 (.slice (some ⟨wr.heap.size,0,none⟩) 2 2) 2 (bys [92,c]):=lit2 wr 92 c;have hH:=Has.own hone;have hor1:=hor.alloc (.cells #[.int .u8 92,.int .u8 (c.toNat:Int)] 5);have hbr1:=hbr.alloc (Nat.le_trans hbase hbr.size) (.cells #[.int .u8 92,.int .u8 (c.toNat:Int)] 5);have hs1:=Nat.le_trans hbase hbr1.size;clear hone hor hbr;go_wp2_with (first
     |(go_at_call 225;refine (hne _).mono ?_;rintro e w' ⟨rfl,rfl⟩)
     |(at_builtin;go_must (refine app8 _ rfl (.tmp 39) (.tmp 41) rfl base _ _ (p++o) rfl hor1 _ _ 2 2 [92,c] rfl hH (by have:=hlen.out;omega) hs1 ?_)))
    intro v' w3 hown3 hb3 _;have hb4:=hbr1.trans hb3;clear hor1 hbr1 hs1 hH hb3;go_wp2
    go_roundg k
    case measure=>omega
    case rel=>exact⟨i+1,o++[92,c],by omega,by go_num,hnext,by simpa[hap,Nat.add_assoc] using hown3,hb4⟩
   | plain hc hn e=>
    rw[hn] at hne;have hnext:=hide (hnx.out _ e);have c1:¬((c.toNat:Int)<32):=by omega
    have c2:¬((126:Int)<(c.toNat:Int)):=by omega
    clear hnx e hc hn;have hone:(wr.alloc (.cells #[.int .u8 (c.toNat:Int)] 5)).ownsRow wr.heap.size 5 1 (.slice (some ⟨wr.heap.size,0,none⟩) 1 1) 1 (bys [c]):=one8 wr c;have hH:=Has.own hone;have hor1:=hor.alloc (.cells #[.int .u8 (c.toNat:Int)] 5);have hbr1:=hbr.alloc (Nat.le_trans hbase hbr.size) (.cells #[.int .u8 (c.toNat:Int)] 5);have hs1:=Nat.le_trans hbase hbr1.size;clear hone hor hbr;go_wp2_with (first
     |(go_at_call 225;refine (hne _).mono ?_;rintro e w' ⟨rfl,rfl⟩)
     |(at_builtin;go_must (refine app8 _ rfl (.tmp 15) (.tmp 17) rfl base _ _ (p++o) rfl hor1 _ _ 1 1 [c] rfl hH (by have:=hlen.out;omega) hs1 ?_)))
    intro v' w3 hown3 hb3 _;have hb4:=hbr1.trans hb3;clear hor1 hbr1 hs1 hH hb3;go_wp2
    go_roundg k
    case measure=>omega
    case rel=>exact⟨i+1,o++[c],by omega,by go_num,hnext,by simpa[hap,Nat.add_assoc] using hown3,hb4⟩
   | hex hc e=>
    have hnext:=hide (hnx.out _ e);have hlt:=c.toNat_lt;have hq:=zMi (c.toNat/16) (by omega);have hr:=zMi (c.toNat % 16) (by omega);have sh:=shr_at c;have an:=and_at c;generalize hexD (c.toNat/16)=d1 at *;generalize hexD (c.toNat % 16)=d2 at *;generalize c.toNat/16=q at *;generalize c.toNat % 16=r at *;have HB:=hbr.size;clear hnx e hne;rcases hc with c1 | c1
    ·have c2:((c.toNat:Int)<32):=by omega
     clear c1 hlt;go_wp2_with fail;refine zAk base (by kernel_rfl) ?_;have hbr0:Below base w wr.drew:=hbr.trans ((Below.refl _ _).drew);have hor0:=zAc hor (Below.refl wr.heap.size wr).drew;have hs0:=Nat.le_trans hbase hbr0.size;clear hor hbr HB;generalize wr.drew=a0 at *;refine yTk 0 (some 26) ?_;simp only[pUz];refine yTk 1 (some 27) ?_;simp only[pUz];refine yTk 2 (some 28) ?_;simp only[pUz];refine zAa 3 (some 29) (v:=?va3) rfl rfl (by kernel_rfl) rfl (by rfl) (fun W hW=>?ya3) ?_
     case ya3=>have h1:=hq W;go_simp<;>with_reducible rfl
     simp only[pUz];refine yTk 4 (some 30) ?_;simp only[pUz];refine yTk 5 (some 31) ?_;simp only[pUz];refine zAa 6 (some 32) (v:=?va6) rfl rfl (by kernel_rfl) rfl (by rfl) (fun W hW=>?ya6) ?_
     case ya6=>have h1:=hr W;go_simp<;>with_reducible rfl
     simp only[pUz];refine zAe 7 rfl (by kernel_rfl) (fun K hK=>?_);go_simp;have hb1:Below base a0 (a0.alloc (.cells #[.int .u8 92,.int .u8 (d1.toNat:Int),.int .u8 (d2.toNat:Int)] 5)):=(Below.refl _ _).alloc hs0 _;have hone:(a0.alloc (.cells #[.int .u8 92,.int .u8 (d1.toNat:Int),.int .u8 (d2.toNat:Int)] 5)).ownsRow a0.heap.size 5 1 (.slice (some ⟨a0.heap.size,0,none⟩) 3 3) 3 (bys [92,d1,d2]):=lit3 a0 92 d1 d2;have hH:=Has.own hone;have hor1:=hor0.alloc (.cells #[.int .u8 92,.int .u8 (d1.toNat:Int),.int .u8 (d2.toNat:Int)] 5);have hba:=hbr0.trans hb1;have hs1:=Nat.le_trans hbase hba.size;clear hone hor0 hbr0;refine hK.out _ _ hb1 ?_;clear hK K hb1;(try simp only[pUz]);refine zAe 8 rfl (by kernel_rfl) (fun K hK=>?_);refine step8 _ (some 34) rfl rfl (.tmp 26) (.tmp 33) rfl base _ _ (p++o) rfl hor1 _ _ 3 3 [92,d1,d2] rfl hH (by have:=hlen.out;omega) hs1 ?_;intro v' w3 hown3 hb3 _ _;have hb4:=hba.trans hb3;refine hK.out _ _ hb3 ?_;clear hK K hor1 hba hs1 hH hb3;(try simp only[pUz]);refine yTk 9 (some 0) ?_;simp only[Act.put,List.setIfInBounds_toArray,List.set_cons_zero];refine zAi (by kernel_rfl) ?_ _;go_wp2
     go_roundg k
     case measure=>omega
     case rel=>exact⟨i+1,o++[92,d1,d2],by omega,by go_num,hnext,by simpa[hap,Nat.add_assoc] using hown3,hb4⟩
    ·have c2:¬((c.toNat:Int)<32):=by omega
     have c3:((126:Int)<(c.toNat:Int)):=(by omega);clear c1 hlt;go_wp2_with fail;refine zAk base (by kernel_rfl) ?_;have hbr0:Below base w wr.drew:=hbr.trans ((Below.refl _ _).drew);have hor0:=zAc hor (Below.refl wr.heap.size wr).drew;have hs0:=Nat.le_trans hbase hbr0.size;clear hor hbr HB;generalize wr.drew=a0 at *;refine yTk 0 (some 26) ?_;simp only[pUz];refine yTk 1 (some 27) ?_;simp only[pUz];refine yTk 2 (some 28) ?_;simp only[pUz];refine zAa 3 (some 29) (v:=?vb3) rfl rfl (by kernel_rfl) rfl (by rfl) (fun W hW=>?yb3) ?_
     case yb3=>have h1:=hq W;go_simp<;>with_reducible rfl
     simp only[pUz];refine yTk 4 (some 30) ?_;simp only[pUz];refine yTk 5 (some 31) ?_;simp only[pUz];refine zAa 6 (some 32) (v:=?vb6) rfl rfl (by kernel_rfl) rfl (by rfl) (fun W hW=>?yb6) ?_
     case yb6=>have h1:=hr W;go_simp<;>with_reducible rfl
     simp only[pUz];refine zAe 7 rfl (by kernel_rfl) (fun K hK=>?_);go_simp;have hb1:Below base a0 (a0.alloc (.cells #[.int .u8 92,.int .u8 (d1.toNat:Int),.int .u8 (d2.toNat:Int)] 5)):=(Below.refl _ _).alloc hs0 _;have hone:(a0.alloc (.cells #[.int .u8 92,.int .u8 (d1.toNat:Int),.int .u8 (d2.toNat:Int)] 5)).ownsRow a0.heap.size 5 1 (.slice (some ⟨a0.heap.size,0,none⟩) 3 3) 3 (bys [92,d1,d2]):=lit3 a0 92 d1 d2;have hH:=Has.own hone;have hor1:=hor0.alloc (.cells #[.int .u8 92,.int .u8 (d1.toNat:Int),.int .u8 (d2.toNat:Int)] 5);have hba:=hbr0.trans hb1;have hs1:=Nat.le_trans hbase hba.size;clear hone hor0 hbr0;refine hK.out _ _ hb1 ?_;clear hK K hb1;(try simp only[pUz]);refine zAe 8 rfl (by kernel_rfl) (fun K hK=>?_);refine step8 _ (some 34) rfl rfl (.tmp 26) (.tmp 33) rfl base _ _ (p++o) rfl hor1 _ _ 3 3 [92,d1,d2] rfl hH (by have:=hlen.out;omega) hs1 ?_;intro v' w3 hown3 hb3 _ _;have hb4:=hba.trans hb3;refine hK.out _ _ hb3 ?_;clear hK K hor1 hba hs1 hH hb3;(try simp only[pUz]);refine yTk 9 (some 0) ?_;simp only[Act.put,List.setIfInBounds_toArray,List.set_cons_zero];refine zAi (by kernel_rfl) ?_ _;go_wp2
     go_roundg k
     case measure=>omega
     case rel=>exact⟨i+1,o++[92,d1,d2],by omega,by go_num,hnext,by simpa[hap,Nat.add_assoc] using hown3,hb4⟩
def strs (L:List (List UInt8)):List Value:=L.map fun x=>.string (txt x)
def prs (l:List P2):List Value:=l.flatMap fun a=>[.string (txt a.1),.string (txt a.2)]
theorem zBe (L:List (List UInt8)):(strs L).length=L.length:=by simp[strs]
theorem zBh (L M:List (List UInt8)):strs (L++M)=strs L++strs M:=by simp[strs]
theorem strs_one (L:List (List UInt8)):∀u∈strs L,u.oneCell'=true:=by
 intro u hu;obtain⟨b,_,rfl⟩:=List.mem_map.1 hu;rfl
theorem zBg (l:List P2):(prs l).length=l.length*2:=by
 induction l with
 | nil=>rfl
 | cons a r ih=>simp only[prs,List.flatMap_cons,List.length_append,List.length_cons,List.length_nil] at ih ⊢;omega
theorem zEo (l m:List P2):prs (l++m)=prs l++prs m:=by simp[prs]
theorem zKs (l:List P2):∀u∈prs l,u.oneCell'=true:=by
 intro u hu;obtain⟨b,_,hb⟩:=List.mem_flatMap.1 hu;simp only[List.mem_cons,List.not_mem_nil,or_false] at hb;rcases hb with rfl | rfl<;>rfl
theorem zJr:∀(l:List P2) (i:Nat) (a:P2),l[i]?=some a->(prs l)[i*2]?=some (.string (txt a.1))/\(prs l)[i*2+1]?=some (.string (txt a.2))
 | [],i,a,h=>by simp at h
 | b::r,0,a,h=>by
  simp only[List.getElem?_cons_zero,Option.some.injEq] at h;subst h;exact⟨rfl,rfl⟩
 | b::r,i+1,a,h=>by
  simp only[List.getElem?_cons_succ] at h;have:=zJr r i a h;have e:(i+1)*2=i*2+2:=by omega
  rw[e];exact this
theorem zMp (l:List P2) (k:Nat):(prs l).take (k*2)=prs (l.take k):=by
 induction l generalizing k with
 | nil=>simp[prs]
 | cons a r ih=>
  cases k with
  | zero=>simp[prs]
  | succ k=>
   have e:(k+1)*2=k*2+2:=by omega
   have:=ih k;simp only[prs,List.flatMap_cons,List.take_succ_cons] at this ⊢;rw[e];simp[this]
theorem prs_drop (l:List P2) (k:Nat):(prs l).drop (k*2)=prs (l.drop k):=by
 induction l generalizing k with
 | nil=>simp[prs]
 | cons a r ih=>
  cases k with
  | zero=>simp[prs]
  | succ k=>
   have e:(k+1)*2=k*2+2:=by omega
   have:=ih k;simp only[prs,List.flatMap_cons,List.drop_succ_cons] at this ⊢;rw[e];simpa using this
structure Reads (w:World) (g o:Nat) (l:List P2):Prop where
 fst:∀(i:Nat) (a:P2),l[i]?=some a->w.cell? ⟨g,o+i*2,none⟩=some (.string (txt a.1))
 snd:∀(i:Nat) (a:P2),l[i]?=some a->w.cell? ⟨g,o+i*2+1,none⟩=some (.string (txt a.2))
theorem Has.reads {w:World} {B:Nat} {A:Option Addr} {n:Nat} {l:List P2} (h:Has w B 2 A n (prs l)) (hl:l≠[]):∃g o,A=some ⟨g,o,none⟩/\g<B/\Reads w g o l:=by
 obtain⟨g,o,rfl,hb,hc⟩:=h.lies (by rw[zBg];have:=List.length_pos_iff.2 hl;omega);refine⟨g,o,rfl,hb,⟨fun i a ha=>hc _ _ (zJr l i a ha).1,fun i a ha=>?_⟩⟩;have:=hc _ _ (zJr l i a ha).2
 rwa [<-Nat.add_assoc] at this
theorem Has.pairs_n {w:World} {B:Nat} {A:Option Addr} {n:Nat} {l:List P2} (h:Has w B 2 A n (prs l)):n=l.length:=by
 have:=h.1;rw[zBg] at this;omega
theorem Has.strs_n {w:World} {B:Nat} {A:Option Addr} {n:Nat} {L:List (List UInt8)} (h:Has w B 1 A n (strs L)):n=L.length:=by
 have:=h.1;rw[zBe] at this;omega
theorem Has.texts {w:World} {B:Nat} {A:Option Addr} {n:Nat} {L:List (List UInt8)} (h:Has w B 1 A n (strs L)) (hl:L≠[]):
  ∃g o,A=some ⟨g,o,none⟩/\g<B/\∀(i:Nat) (x:List UInt8),L[i]?=some x->w.cell? ⟨g,o+i,none⟩=some (.string (txt x)):=by
 obtain⟨g,o,rfl,hb,hc⟩:=h.lies (by rw[zBe];exact List.length_pos_iff.2 hl);exact⟨g,o,rfl,hb,fun i x hx=>hc i _ (by simp[strs,hx])⟩
theorem infoS:(Tryz.prog.info? 9).map (fun i=>(i.zero,i.size,i.bytes))=some (some (.string .empty),1,16):=by kernel_rfl
theorem infoA:(Tryz.prog.info? 133).map (fun i=>(i.zero,i.size,i.bytes))=some (some (.agg #[.string .empty,.string .empty]),2,32):=by kernel_rfl
theorem infoB:(Tryz.prog.info? 149).map (fun i=>(i.zero,i.size,i.bytes))=some (some (.agg #[.string .empty,.string .empty]),2,32):=by kernel_rfl
theorem appE {ops:Array Oper} {rest:List Oper} {o:Oper} {a:Act} {Q:Exit->Act->World->Prop} (W:World) (t e:TypeId) (z:Value) (size bytes:Nat) (hu:Tryz.prog.underlying t=some (.slice e))
  (hinf:(Tryz.prog.info? e).map (fun i=>(i.zero,i.size,i.bytes))=some (some z,size,bytes)) (hzs:z.cells.size=size) (hsz:0<size) (h32:bytes<=32)
  (hgd:o.guard=none) (s x:Operand)
  (ho:o.op=.call { callee:=.builtin .append,args:=#[s,x],argTypes:=#[t,t] })
  (base:Nat) (v:Value) (n:Nat) (xs:List Value) (hs:a.eval s=v) (hown:W.ownsRow base e size v n xs)
  (B:Nat) (A:Option Addr) (m c:Nat) (l:List Value) (hx:a.eval x=.slice A m c) (hr:Has W B size A m l) (h1:∀u∈l,u.oneCell'=true)
  (hb:n+m<=10000000) (hbase:base<=W.heap.size)
  (h:∀v' w',w'.ownsRow base e size v' (n+m) (xs++l)->Below base W w'->W.grownBy w' v.ownBlock->wpList Tryz.prog ops Q rest (a.put o.dst v') w'):
  wpList Tryz.prog ops Q (o::rest) a W:=by
 obtain⟨i0,hi,hz0,hz1,hz2⟩:=info_parts hinf;have hbb:(n+m)*bytes<=140737488355328:=Nat.le_trans (Nat.mul_le_mul hb h32) (by omega);refine zCc W hgd s x t ho base e i0 z size bytes hu hi hz0 hz1 hz2 hzs hsz v n xs hs hown B A m c l hx hr h1 (by unfold maxLen;omega) hbb hbase ?_;intro v' w' h1 h2 h3;exact h v' w' h1 (zA0 hown h2 hbase) h2
theorem litS (w:World) (x:ByteArray):(w.alloc (.cells #[.string x] 9)).ownsRow w.heap.size 9 1 (.slice (some ⟨w.heap.size,0,none⟩) 1 1) 1 [.string x]:=
 zDu w #[.string x] 9 1 (by unfold maxLen;omega) rfl
theorem litP (w:World) (x y:ByteArray) (e:TypeId):(w.alloc (.cells #[.string x,.string y] e)).ownsRow w.heap.size e 2 (.slice (some ⟨w.heap.size,0,none⟩) 1 1) 1 [.string x,.string y]:=
 World.ownsRow_lit w #[.string x,.string y] 1 (Nat.le_refl _) (by unfold maxLen;omega) rfl
theorem zIb (s:ByteArray) (a b:Nat):s.extract a b=txt ((s.data.toList.drop a).take (b-a)):=by
 have h:=Lib.extract_data s a b;generalize s.extract a b=X at *;rw[<-h];exact ByteArray.ext (Array.ext' (by simp[txt]))
structure CutAt (sep:UInt8) (l:List UInt8) (P:List (List UInt8)) (st i:Nat):Prop where
 le:st<=i
 stl:st<=l.length
 few:P.length<=i
 out:cuts sep l=P++((l.drop st).take (i-st)++(cutA sep (l.drop i)).1)::(cutA sep (l.drop i)).2
theorem zJ6 (l:List UInt8) {st i k:Nat} (h:st<=i):(l.drop st).take (i+k-st)=(l.drop st).take (i-st)++(l.drop i).take k:=by
 have e:i+k-st=(i-st)+k:=by omega
 rw[e,List.take_add,List.drop_drop];congr 3;omega
theorem CutAt.start (sep:UInt8) (l:List UInt8):CutAt sep l [] 0 0:=⟨Nat.le_refl _,Nat.zero_le _,by simp,by simp[cuts]⟩
theorem CutAt.one {sep c:UInt8} {l:List UInt8} {P:List (List UInt8)} {st i:Nat} (h:CutAt sep l P st i) (hc:l[i]?=some c) (h92:c≠92) (hs:c≠sep):CutAt sep l P st (i+1):=by
 obtain⟨hi,e⟩:=List.getElem?_eq_some_iff.1 hc;have hd:l.drop i=c::l.drop (i+1):=by rw[List.drop_eq_getElem_cons hi,e]
 refine⟨Nat.le_succ_of_le h.le,h.stl,Nat.le_succ_of_le h.few,?_⟩;have:=h.out;rw[hd,zFn _ h92 hs] at this;rw[this,zJ6 l h.le,hd];simp
theorem CutAt.stroke {sep:UInt8} {l:List UInt8} {P:List (List UInt8)} {st i:Nat} (h:CutAt sep l P st i) (hc:l[i]?=some 92):CutAt sep l P st (i+2):=by
 obtain⟨hi,e⟩:=List.getElem?_eq_some_iff.1 hc;have hd:l.drop i=92::l.drop (i+1):=by rw[List.drop_eq_getElem_cons hi,e]
 refine⟨Nat.le_trans h.le (by omega),h.stl,Nat.le_trans h.few (by omega),?_⟩;have:=h.out;rw[this,zJ6 l h.le,hd];by_cases h1:i+1<l.length
 ·have hd2:l.drop (i+1)=l[i+1]::l.drop (i+2):=by rw[List.drop_eq_getElem_cons h1]
  rw[hd2,zEa];simp only[List.take_succ_cons,List.take_zero,List.append_assoc,List.cons_append,List.nil_append]
 ·have e1:l.drop (i+1)=[]:=List.drop_eq_nil_of_le (by omega);have e2:l.drop (i+2)=[]:=List.drop_eq_nil_of_le (by omega);rw[e1,e2];have:cutA sep [92]=([92],[]):=by rw[cutA.eq_def];simp
  rw[this];simp[cutA]
theorem CutAt.sep {sep:UInt8} {l:List UInt8} {P:List (List UInt8)} {st i:Nat} (h:CutAt sep l P st i) (hc:l[i]?=some sep) (h92:sep≠92):CutAt sep l (P++[(l.drop st).take (i-st)]) (i+1) (i+1):=by
 obtain⟨hi,e⟩:=List.getElem?_eq_some_iff.1 hc;have hd:l.drop i=sep::l.drop (i+1):=by rw[List.drop_eq_getElem_cons hi,e]
 refine⟨Nat.le_refl _,by omega,by have:=h.few;simp;omega,?_⟩;have:=h.out;rw[hd,zFe _ h92] at this;rw[this];simp
theorem CutAt.done {sep:UInt8} {l:List UInt8} {P:List (List UInt8)} {st i:Nat} (h:CutAt sep l P st i) (hi:l.length<=i):cuts sep l=P++[l.drop st]:=by
 have:=h.out;rw[List.drop_eq_nil_of_le hi] at this;rw[this,List.take_of_length_le (by rw[List.length_drop];omega)];simp[cutA]
theorem zDd (sep:UInt8) (l:List UInt8) (h92:sep≠92):(cuts sep l).length<=l.length+1:=by
 have key:∀(n:Nat) (l:List UInt8),l.length<=n->(cutA sep l).2.length<=l.length:=by
  intro n
  induction n with
  | zero=>
   intro l h;obtain rfl:=List.eq_nil_of_length_eq_zero (Nat.le_zero.1 h);simp[cutA]
  | succ n ih=>
   intro l h;cases l with
   | nil=>simp[cutA]
   | cons c r=>
    by_cases hc:c=92
    ·subst hc;cases r with
     | nil=>rw[cutA.eq_def];simp
     | cons d r=>
      rw[zEa];have:=ih r (by simp at h;omega);simp;omega
    ·by_cases hs:c=sep
     ·subst hs;rw[zFe _ hc];have:=ih r (by simpa using h);simpa using this
     ·rw [zFn _ hc hs];have:=ih r (by simpa using h);simp;omega
 have:=key _ l (Nat.le_refl _);simp[cuts];omega
theorem zOb (sep:UInt8):∀(n:Nat) (l:List UInt8),l.length<=n->(cutA sep l).1.length<=l.length/\∀p∈(cutA sep l).2,p.length<=l.length:=by
 intro n
 induction n with
 | zero=>
  intro l h;obtain rfl:=List.eq_nil_of_length_eq_zero (Nat.le_zero.1 h);simp[cutA]
 | succ n ih=>
  intro l h;cases l with
  | nil=>simp[cutA]
  | cons c r=>
   by_cases hc:c=92
   ·subst hc;cases r with
    | nil=>rw[cutA.eq_def];simp
    | cons d r=>
     rw[zEa];obtain⟨h1,h2⟩:=ih r (by simp at h;omega);exact⟨by simp;omega,fun p hp=>by have:=h2 p hp;simp;omega⟩
   ·by_cases hs:c=sep
    ·subst hs;rw[zFe _ hc];obtain⟨h1,h2⟩:=ih r (by simpa using h);refine⟨by simp,fun p hp=>?_⟩;rcases List.mem_cons.1 hp with rfl | hp
     ·simp;omega
     ·have:=h2 p hp;simp;omega
    ·rw [zFn _ hc hs];obtain⟨h1,h2⟩:=ih r (by simpa using h);exact⟨by simp;omega,fun p hp=>by have:=h2 p hp;simp;omega⟩
theorem zC3 {sep:UInt8} {l p:List UInt8} (h:p∈cuts sep l):p.length<=l.length:=by
 obtain⟨h1,h2⟩:=zOb sep _ l (Nat.le_refl _);rcases List.mem_cons.1 h with rfl | h
 ·exact h1
 ·exact h2 p h
theorem ne8' {c:UInt8} {k:Nat} (hk:k<256) (h:c≠UInt8.ofNat k):((c.toNat:Int)==(k:Int))=false:=by
 refine beq_false_of_ne fun e=>h ?_
 have e':c.toNat=k:=by omega
 apply UInt8.toNat_inj.1;rw[e',UInt8.toNat_ofNat',Nat.mod_eq_of_lt (by omega)]
theorem nil_own' (w:World) (base:Nat) (e:TypeId) (size:Nat):w.ownsRow base e size (.slice none 0 0) 0 []:=⟨by simp,.inl ⟨rfl,rfl⟩⟩
theorem zEv (s:ByteArray) (hs:s.size<=1000000) (sep:UInt8) (h92:sep≠92) (w:World):
  Calls Tryz.prog 75 #[.string s,.int .u8 (sep.toNat:Int)] w fun e w'=>∃v,e=.returned v/\w'.ownsRow w.heap.size 9 1 v (cuts sep s.data.toList).length (strs (cuts sep s.data.toList))/\Below w.heap.size w w':=by
 have hL:=hide (Lib.size_eq s);have hat:∀(i:Nat) (hi:i<s.size),s.data.toList[i]?=some s[i]:=fun i hi=>Lib.data_getElem? s i hi
 have hex:=fun a b=>zIb s a b
 have hCl:=fun (x:ByteArray) (hx:x.size<=281474976710656) w=>zBy x hx w
 have hsep92:((sep.toNat:Int)==92)=false:=ne8' (k:=92) (by omega) h92;generalize hl:s.data.toList=l at *;replace hl:=hide hl;replace hat:=hide hat;replace hex:=hide hex;replace h92:=hide h92;go_enter Tryz.func75,Tryz.ntmps75;go_wp2
 go_loopg [5,6,7] s.size (fun k s5 s6 s7 wx=>∃(i st:Nat) (P:List (List UInt8)),s.size-i=k/\s6=.int .i64 (st:Int)/\s7=.int .i64 (i:Int)/\i<=s.size+1/\Hid (CutAt sep l P st i)/\wx.ownsRow w.heap.size 9 1 s5 P.length (strs P)/\Below w.heap.size w wx)
 case atStart=>exact⟨0,0,[],by omega,rfl,rfl,by omega,hide (CutAt.start sep l),nil_own' _ _ _ _,Below.refl _ _⟩
 case round=>
  obtain⟨i,st,P,hig,rfl,rfl,hi1,hC,hor,hbr⟩:=hrel;have hst:st<=s.size:=by have h1:=hC.out.stl;have h2:=hL.out;omega
  have hsti:st<=i:=hC.out.le;have hlen:Hid (P.length<=1000001):=hide (by have:=hC.out.few;omega);cases gk with
  | zero=>
   have hiz:¬((i:Int)<(s.size:Int)):=by omega
   have hst2:(st:Int)<=(s.size:Int):=by omega
   have hR:Hid (cuts sep l=P++[l.drop st]):=hide (hC.out.done (by have:=hL.out;omega));obtain⟨X,hX⟩:∃X,s.extract st s.size=X:=⟨_,rfl⟩;have hXt:Hid (X=txt (l.drop st)):=hide (by
    have h3:=hL.out
    rw[<-hX,hex.out,List.take_of_length_le (by rw[List.length_drop,h3];exact Nat.le_refl _)])
   have hXs:X.size<=281474976710656:=by rw[hXt.out,zAg,List.length_drop];have:=hL.out;omega
   clear hC hat hex h92;go_wp2_with (go_at_call 45;fail);refine (hCl _ hXs _).mono ?_;rintro e wc ⟨rfl,hbc⟩;have hbr1:=hbr.trans (hbc.mono hbr.size);have hor1:=zAc hor hbc;clear hbr hor hbc hCl;have hone:=litS wc X;have hH:=Has.own hone;have hor2:=hor1.alloc (.cells #[.string X] 9);have hbr2:=hbr1.alloc hbr1.size (.cells #[.string X] 9);have hs2:=hbr2.size;have h1c:∀u∈[Value.string X],u.oneCell'=true:=by simp[Value.oneCell']
   clear hone hor1 hbr1;go_wp2_with (at_builtin;go_must (refine appE _ 43 9 _ 1 16 Tryz.underlying43 infoS rfl (by omega) (by omega) rfl (.tmp 35) (.tmp 40) rfl w.heap.size _ _ (strs P) rfl hor2 _ _ 1 1 [.string X] rfl hH h1c (by have:=hlen.out;omega) hs2 ?_));intro v' w3 hown3 hb3 _;have hb4:=hbr2.trans hb3;clear hor2 hbr2 hs2 hH hb3 h1c;go_wp2;go_ret;refine⟨_,rfl,?_,hb4⟩;rw[hR.out,zBh,List.length_append];have hXv:strs [l.drop st]=[Value.string X]:=by rw[hXt.out];rfl
   rw[hXv];exact hown3
  | succ k=>
   have hi:i<s.size:=by omega
   have hiz:(i:Int)<(s.size:Int):=by omega
   obtain⟨c,hx⟩:∃c:UInt8,s[i]'hi=c:=⟨_,rfl⟩;have hxl:Hid (l[i]?=some c):=hide (by rw[hat.out i hi,hx]);have hst2:(st:Int)<=(i:Int):=by omega
   have hii:(i:Int)<=(s.size:Int):=by omega
   clear hat;by_cases hcs:c=sep
   ·subst hcs;have hceq:((c.toNat:Int)==(c.toNat:Int))=true:=by simp
    have hC2:=hide (hC.out.sep hxl.out h92.out);obtain⟨X,hX⟩:∃X,s.extract st i=X:=⟨_,rfl⟩;have hXt:Hid (X=txt ((l.drop st).take (i-st))):=hide (by rw[<-hX,hex.out]);have hXs:X.size<=281474976710656:=by rw[hXt.out,zAg,List.length_take,List.length_drop];have:=hL.out;omega
    have hXv:Hid (strs [(l.drop st).take (i-st)]=[Value.string X]):=hide (by rw[hXt.out];rfl);clear hC hex h92 hXt hxl;go_wp2_with (go_at_call 45;fail);refine (hCl _ hXs _).mono ?_;rintro e wc ⟨rfl,hbc⟩;have hbr1:=hbr.trans (hbc.mono hbr.size);have hor1:=zAc hor hbc;clear hbr hor hbc hCl;have hone:=litS wc X;have hH:=Has.own hone;have hor2:=hor1.alloc (.cells #[.string X] 9);have hbr2:=hbr1.alloc hbr1.size (.cells #[.string X] 9);have hs2:=hbr2.size;have h1c:∀u∈[Value.string X],u.oneCell'=true:=by simp[Value.oneCell']
    clear hone hor1 hbr1;go_wp2_with (at_builtin;go_must (refine appE _ 43 9 _ 1 16 Tryz.underlying43 infoS rfl (by omega) (by omega) rfl (.tmp 19) (.tmp 25) rfl w.heap.size _ _ (strs P) rfl hor2 _ _ 1 1 [.string X] rfl hH h1c (by have:=hlen.out;omega) hs2 ?_));intro v' w3 hown3 hb3 _;have hb4:=hbr2.trans hb3;clear hor2 hbr2 hs2 hH hb3 h1c;go_wp2
    go_roundg k
    case measure=>omega
    case rel=>refine⟨i+1,i+1,P++[(l.drop st).take (i-st)],by omega,by go_num,by go_num,by omega,hC2,?_,hb4⟩;rw[zBh,List.length_append,hXv.out];exact hown3
   ·have hne:((c.toNat:Int)==(sep.toNat:Int))=false:=beq_false_of_ne fun e=>hcs (UInt8.toNat_inj.1 (by omega))
    by_cases hc92:c=92
    ·subst hc92;have hC2:=hide (hC.out.stroke hxl.out);have hne2:((92:Int)==(sep.toNat:Int))=false:=by rw[<-hne];rfl
     clear hC hex h92 hxl hcs;go_wp2
     go_roundg (k-1)
     case measure=>omega
     case rel=>exact⟨i+2,st,P,by omega,by go_num,by go_num,by omega,hC2,hor,hbr⟩
    ·have hn92:((c.toNat:Int)==92)=false:=ne8' (k:=92) (by omega) hc92;have hC2:=hide (hC.out.one hxl.out hc92 hcs);clear hC hex h92 hxl hcs hc92;go_wp2
     go_roundg k
     case measure=>omega
     case rel=>exact⟨i+1,st,P,by omega,by go_num,by go_num,by omega,hC2,hor,hbr⟩
theorem zHj (s:ByteArray) (hs:s.size<=1000000) (sep:UInt8) (h92:sep≠92) (w:World):
  Calls Tryz.prog 139 #[.string s,.int .u8 (sep.toNat:Int)] w fun e w'=>∃v,e=.returned v/\w'.ownsRow w.heap.size 9 1 v (cuts sep s.data.toList).length (strs (cuts sep s.data.toList))/\Below w.heap.size w w':=by
 have hL:=hide (Lib.size_eq s);have hat:∀(i:Nat) (hi:i<s.size),s.data.toList[i]?=some s[i]:=fun i hi=>Lib.data_getElem? s i hi
 have hex:=fun a b=>zIb s a b
 have hsep92:((sep.toNat:Int)==92)=false:=ne8' (k:=92) (by omega) h92;generalize hl:s.data.toList=l at *;replace hl:=hide hl;replace hat:=hide hat;replace hex:=hide hex;replace h92:=hide h92;go_enter Tryz.func139,Tryz.ntmps139;go_wp2
 go_loopg [5,6,7] s.size (fun k s5 s6 s7 wx=>∃(i st:Nat) (P:List (List UInt8)),s.size-i=k/\s6=.int .i64 (st:Int)/\s7=.int .i64 (i:Int)/\i<=s.size+1/\Hid (CutAt sep l P st i)/\wx.ownsRow w.heap.size 9 1 s5 P.length (strs P)/\Below w.heap.size w wx)
 case atStart=>exact⟨0,0,[],by omega,rfl,rfl,by omega,hide (CutAt.start sep l),nil_own' _ _ _ _,Below.refl _ _⟩
 case round=>
  obtain⟨i,st,P,hig,rfl,rfl,hi1,hC,hor,hbr⟩:=hrel;have hst:st<=s.size:=by have h1:=hC.out.stl;have h2:=hL.out;omega
  have hsti:st<=i:=hC.out.le;have hlen:Hid (P.length<=1000001):=hide (by have:=hC.out.few;omega);cases gk with
  | zero=>
   have hiz:¬((i:Int)<(s.size:Int)):=by omega
   have hst2:(st:Int)<=(s.size:Int):=by omega
   have hR:Hid (cuts sep l=P++[l.drop st]):=hide (hC.out.done (by have:=hL.out;omega));obtain⟨X,hX⟩:∃X,s.extract st s.size=X:=⟨_,rfl⟩;have hXt:Hid (X=txt (l.drop st)):=hide (by
    have h3:=hL.out
    rw[<-hX,hex.out,List.take_of_length_le (by rw[List.length_drop,h3];exact Nat.le_refl _)])
   have hXs:X.size<=281474976710656:=by rw[hXt.out,zAg,List.length_drop];have:=hL.out;omega
   clear hC hat hex h92;have hbr1:=hbr;have hor1:=hor;clear hbr hor;have hone:=litS wr X;have hH:=Has.own hone;have hor2:=hor1.alloc (.cells #[.string X] 9);have hbr2:=hbr1.alloc hbr1.size (.cells #[.string X] 9);have hs2:=hbr2.size;have h1c:∀u∈[Value.string X],u.oneCell'=true:=by simp[Value.oneCell']
   clear hone hor1 hbr1;go_wp2_with (at_builtin;go_must (refine appE _ 43 9 _ 1 16 Tryz.underlying43 infoS rfl (by omega) (by omega) rfl (.tmp 34) (.tmp 38) rfl w.heap.size _ _ (strs P) rfl hor2 _ _ 1 1 [.string X] rfl hH h1c (by have:=hlen.out;omega) hs2 ?_));intro v' w3 hown3 hb3 _;have hb4:=hbr2.trans hb3;clear hor2 hbr2 hs2 hH hb3 h1c;go_wp2;go_ret;refine⟨_,rfl,?_,hb4⟩;rw[hR.out,zBh,List.length_append];have hXv:strs [l.drop st]=[Value.string X]:=by rw[hXt.out];rfl
   rw[hXv];exact hown3
  | succ k=>
   have hi:i<s.size:=by omega
   have hiz:(i:Int)<(s.size:Int):=by omega
   obtain⟨c,hx⟩:∃c:UInt8,s[i]'hi=c:=⟨_,rfl⟩;have hxl:Hid (l[i]?=some c):=hide (by rw[hat.out i hi,hx]);have hst2:(st:Int)<=(i:Int):=by omega
   have hii:(i:Int)<=(s.size:Int):=by omega
   clear hat;by_cases hcs:c=sep
   ·subst hcs;have hceq:((c.toNat:Int)==(c.toNat:Int))=true:=by simp
    have hC2:=hide (hC.out.sep hxl.out h92.out);obtain⟨X,hX⟩:∃X,s.extract st i=X:=⟨_,rfl⟩;have hXt:Hid (X=txt ((l.drop st).take (i-st))):=hide (by rw[<-hX,hex.out]);have hXs:X.size<=281474976710656:=by rw[hXt.out,zAg,List.length_take,List.length_drop];have:=hL.out;omega
    have hXv:Hid (strs [(l.drop st).take (i-st)]=[Value.string X]):=hide (by rw[hXt.out];rfl);clear hC hex h92 hXt hxl;have hbr1:=hbr;have hor1:=hor;clear hbr hor;have hone:=litS wr X;have hH:=Has.own hone;have hor2:=hor1.alloc (.cells #[.string X] 9);have hbr2:=hbr1.alloc hbr1.size (.cells #[.string X] 9);have hs2:=hbr2.size;have h1c:∀u∈[Value.string X],u.oneCell'=true:=by simp[Value.oneCell']
    clear hone hor1 hbr1;go_wp2_with (at_builtin;go_must (refine appE _ 43 9 _ 1 16 Tryz.underlying43 infoS rfl (by omega) (by omega) rfl (.tmp 25) (.tmp 30) rfl w.heap.size _ _ (strs P) rfl hor2 _ _ 1 1 [.string X] rfl hH h1c (by have:=hlen.out;omega) hs2 ?_));intro v' w3 hown3 hb3 _;have hb4:=hbr2.trans hb3;clear hor2 hbr2 hs2 hH hb3 h1c;go_wp2
    go_roundg k
    case measure=>omega
    case rel=>refine⟨i+1,i+1,P++[(l.drop st).take (i-st)],by omega,by go_num,by go_num,by omega,hC2,?_,hb4⟩;rw[zBh,List.length_append,hXv.out];exact hown3
   ·have hne:((c.toNat:Int)==(sep.toNat:Int))=false:=beq_false_of_ne fun e=>hcs (UInt8.toNat_inj.1 (by omega))
    by_cases hc92:c=92
    ·subst hc92;have hC2:=hide (hC.out.stroke hxl.out);have hne2:((92:Int)==(sep.toNat:Int))=false:=by rw[<-hne];rfl
     clear hC hex h92 hxl hcs;go_wp2
     go_roundg (k-1)
     case measure=>omega
     case rel=>exact⟨i+2,st,P,by omega,by go_num,by go_num,by omega,hC2,hor,hbr⟩
    ·have hn92:((c.toNat:Int)==92)=false:=ne8' (k:=92) (by omega) hc92;have hC2:=hide (hC.out.one hxl.out hc92 hcs);clear hC hex h92 hxl hcs hc92;go_wp2
     go_roundg k
     case measure=>omega
     case rel=>exact⟨i+1,st,P,by omega,by go_num,by go_num,by omega,hC2,hor,hbr⟩
structure PairOk (a:P2):Prop where
 name:(typ a.1).1=a.1
 syn:(typ a.1).2=1\/(typ a.1).2=3
 val:(norm a.1 a.2).2=0
structure PartOk (l:List P2):Prop where
 pos:1<=l.length
 le:l.length<=3
 each:∀a∈l,PairOk a
 order:l.Pairwise (fun x y=>x.1<y.1)
theorem zIw (l:List P2):PartOk l↔(1<=l.length/\l.length<=3)/\∀i a,l[i]?=some a->PairOk a/\(0<i->∀b,l[i-1]?=some b->b.1<a.1):=by
 constructor
 ·rintro ⟨h1,h2,h3,h4⟩;refine⟨⟨h1,h2⟩,fun i a ha=>⟨h3 a (List.mem_of_getElem? ha),fun hi b hb=>?_⟩⟩;obtain⟨h5,e5⟩:=List.getElem?_eq_some_iff.1 ha;obtain⟨h6,e6⟩:=List.getElem?_eq_some_iff.1 hb;have:=List.pairwise_iff_getElem.1 h4 (i-1) i h6 h5 (by omega)
  rwa [e5,e6] at this
 ·rintro ⟨⟨h1,h2⟩,h⟩;refine⟨h1,h2,fun a ha=>?_,?_⟩
  ·obtain ⟨i,hi,rfl⟩:=List.mem_iff_getElem.1 ha;exact (h i _ (List.getElem?_eq_getElem hi)).1
  ·match l,h1,h2 with
   | [x],_,_=>simp
   | [x,y],_,_=>
    have a1:=(h 1 y rfl).2 (by omega) x rfl;simp[a1]
   | [x,y,z],_,_=>
    have a1:=(h 1 y rfl).2 (by omega) x rfl;have a2:=(h 2 z rfl).2 (by omega) y rfl;have a3:x.1<z.1:=List.lt_trans a1 a2;simp[a1,a2,a3]
theorem zK1 {n:List UInt8} (h:(typ n).2≠0):∃e∈tab,typ n=e:=by
 have key:∀(t:List (List UInt8 × Int)) (m:List UInt8),(typL m t).2≠0->∃e∈t,typL m t=e:=by
  intro t
  induction t with
  | nil=>intro m h;exact absurd rfl h
  | cons e r ih=>
   intro m h;unfold typL at h ⊢;split
   ·exact ⟨e,by simp,rfl⟩
   ·rename_i hne;rw[if_neg hne] at h;obtain⟨e',he,hq⟩:=ih m h;exact⟨e',by simp[he],hq⟩
 exact key tab _ h
theorem zRl:∀e∈tab,∀c∈e.1,c≠92/\c≠43/\c≠44/\c≠61:=by decide
theorem PairOk.nz {a:P2} (h:PairOk a):(typ a.1).2≠0:=by have:=h.syn;omega
theorem PairOk.plain {a:P2} (h:PairOk a):Plain a.1:=by
 obtain⟨e,he,hq⟩:=zK1 h.nz;have h1:a.1=e.1:=by rw[<-hq];exact h.name.symm
 exact⟨fun c hc=>zRl e he c (by rw[<-h1];exact hc)⟩
theorem PairOk.small {a:P2} (h:PairOk a):a.1.length<=20/\a.2.length<=200:=by
 obtain⟨e,he,hq⟩:=zK1 h.nz;have h1:a.1=e.1:=by rw[<-hq];exact h.name.symm
 have hl:∀e∈tab,e.1.length<=20:=by decide
 refine⟨by rw[h1];exact hl e he,?_⟩;have hv:=h.val;cases road a.1 a.2 with
 | none _ r=>rw[r] at hv;simp at hv
 | name _ r=>rw[r] at hv;simp at hv
 | short _ _ r=>rw[r] at hv;simp at hv
 | long _ _ r=>rw[r] at hv;simp at hv
 | form _ _ _ r=>rw[r] at hv;simp at hv
 | same _ k _ r=>exact k.2
 | text _ k _ r=>exact k.2
theorem dec_nz (u:Nat):(0:UInt8) ∉ Lib.decDigits u:=by
 induction u using Nat.strongRecOn with
 | _ u ih=>
  have key:∀k,k<10->(0:UInt8)≠UInt8.ofNat (48+k):=by decide
  rw[Lib.decDigits];split
  ·rename_i h;intro h0;exact key u h (List.mem_singleton.1 h0)
  ·rename_i h;intro h0;rcases List.mem_append.1 h0 with h0 | h0
   ·exact ih (u/10) (by omega) h0
   ·exact key (u % 10) (by omega) (List.mem_singleton.1 h0)
theorem int_zero {l:List UInt8} {n:Int} (h:IsInt l n):(0:UInt8) ∉ l:=by
 obtain⟨_,rfl⟩:=h;unfold Lib.itoa;split
 ·intro h0;rcases List.mem_cons.1 h0 with h | h
  ·cases h
  ·exact dec_nz _ h
 ·exact dec_nz _
theorem PairOk.zero {a:P2} (h:PairOk a):(0:UInt8) ∉ a.2:=by
 have hv:=h.val;have hs:=h.syn;have key:Formed (typ a.1).2 a.2->(0:UInt8) ∉ a.2:=by
  intro f;rcases hs with h1 | h1
  ·exact (f.tx h1).1
  ·obtain ⟨n,hn⟩:=f.nu h1;exact int_zero hn
 cases road a.1 a.2 with
 | none _ r=>rw[r] at hv;simp at hv
 | name _ r=>rw[r] at hv;simp at hv
 | short _ _ r=>rw[r] at hv;simp at hv
 | long _ _ r=>rw[r] at hv;simp at hv
 | form _ _ _ r=>rw[r] at hv;simp at hv
 | same _ k f r=>exact key f
 | text _ k f r=>exact key f
def rdPairT (l:List UInt8):Option P2:=(eqCut l).bind fun p=>(rd p.2).map fun v=>((typ p.1).1,v)
def rqPairT (l:List UInt8):Option P2:=(eqCut l).bind fun p=>(rqFrom true p.2).map fun v=>((typ p.1).1,v)
open Classical in
noncomputable def parseP (s:List UInt8):Option (List P2):=
 if 3<(cuts 43 s).length then none
 else match (cuts 43 s).mapM rdPairT with
  | none=>none
  | some l=>if PartOk (sortP l) then some (sortP l) else none
theorem zH2 {s:List UInt8} (h:3<(cuts 43 s).length):parseP s=none:=by unfold parseP;rw[if_pos h]
theorem zGn {s:List UInt8} (h:(cuts 43 s).mapM rdPairT=none):parseP s=none:=by
 unfold parseP;split
 ·rfl
 ·rw [h]
open Classical in
theorem zBr {s:List UInt8} {l:List P2} (h3:(cuts 43 s).length<=3) (h:(cuts 43 s).mapM rdPairT=some l):parseP s=if PartOk (sortP l) then some (sortP l) else none:=by
 unfold parseP;rw[if_neg (by omega),h]
theorem parse_ok {s:List UInt8} {l:List P2} (h:parseP s=some l):PartOk l:=by
 unfold parseP at h;split at h
 ·cases h
 ·split at h
  ·cases h
  ·split at h
   ·rename_i hp;obtain rfl:=Option.some.inj h;exact hp
   ·cases h
theorem parse_pr {l:List P2} (h:PartOk l):parseP (prP l)=some l:=by
 have hne:l≠[]:=by rintro rfl;have:=h.pos;simp at this
 have hpl:∀a∈l,Plain a.1:=fun a ha=>(h.each a ha).plain
 have hc:=zM9 l hne hpl;have hlen:(cuts 43 (prP l)).length<=3:=by rw[hc,List.length_map];exact h.le
 have hm:∀(m:List P2),(∀a∈m,PairOk a)->(m.map onePr).mapM rdPairT=some m:=by
  intro m
  induction m with
  | nil=>intro _;rfl
  | cons a r ih=>
   intro hm;have ha:=hm a (by simp);have h1:rdPairT (onePr a)=some a:=by
    unfold rdPairT onePr;rw[zPy ha.plain];simp[rd_wr,ha.name]
   rw[List.map_cons,List.mapM_cons,h1,ih fun b hb=>hm b (by simp[hb])];rfl
 have h2:(cuts 43 (prP l)).mapM rdPairT=some l:=by rw[hc];exact hm l h.each
 rw[zBr hlen h2,sort_own h.order,if_pos h]
noncomputable def normP (l:List P2):List P2:=l.map fun a=>(a.1,(norm a.1 a.2).1)
theorem zEh {l:List P2} (h:PartOk l):PartOk (normP l)/\normP (normP l)=normP l:=by
 have own:∀a∈l,norm a.1 (norm a.1 a.2).1=((norm a.1 a.2).1,0):=fun a ha=>zM5 (h.each a ha).val
 constructor
 ·refine ⟨by simpa[normP] using h.pos,by simpa[normP] using h.le,fun a ha=>?_,?_⟩
  ·obtain ⟨b,hb,rfl⟩:=List.mem_map.1 ha;have:=h.each b hb;exact⟨this.name,this.syn,by simp only;rw[own b hb]⟩
  ·unfold normP;rw[List.pairwise_map];exact h.order
 ·unfold normP;rw[List.map_map];refine List.map_congr_left fun a ha=>?_
  simp only[Function.comp];rw[own a ha]
theorem zKw {l a:List UInt8} {i:Nat} (h:l.drop i=a) (j:Nat):l[i+j]?=a[j]?:=by rw[<-h,List.getElem?_drop]
theorem zF6 {l a:List UInt8} {i:Nat} (h:l.drop i=a) (j:Nat):a.drop j=l.drop (i+j):=by rw[<-h,List.drop_drop]
theorem zEe {l a:List UInt8} {i:Nat} (h:l.drop i=a) (hi:i<=l.length):l.length=i+a.length:=by rw[<-h,List.length_drop];omega
def RdAt (l o:List UInt8) (i:Nat):Prop:=rd l=(rdFrom (decide (i=0)) (l.drop i)).map (o++·)
theorem RdAt.start (l:List UInt8):RdAt l [] 0:=by
 unfold RdAt rd;cases h:rdFrom true l<;>simp[h]
theorem RdAt.none {l o:List UInt8} {i:Nat} (h:RdAt l o i) (hn:rdFrom (decide (i=0)) (l.drop i)=none):rd l=none:=by
 unfold RdAt at h;rw[h,hn];rfl
theorem RdAt.more {l o r:List UInt8} {i:Nat} (h:RdAt l o i) (x:UInt8) (j:Nat) (hr:r=l.drop (i+(j+1))) (hn:rdFrom (decide (i=0)) (l.drop i)=(rdFrom false r).map (x::·)):RdAt l (o++[x]) (i+(j+1)):=by
 unfold RdAt at h ⊢;rw[h,hn,hr,Option.map_map];have e:decide (i+(j+1)=0)=false:=by simp
 rw[e];congr 1;funext u;simp
theorem RdAt.done {l o:List UInt8} {i:Nat} (h:RdAt l o i) (hi:l.length<=i):rd l=some o:=by
 unfold RdAt at h;rw[h,List.drop_eq_nil_of_le hi];cases decide (i=0)<;>simp[rdFrom]
theorem zIy (x:Int) (h0: -9223372036854775808<=x) (h1:x<=9223372036854775807):IntKind.i64.wrap x=x:=by
 simp[IntKind.wrap,IntKind.bits,IntKind.signed];omega
theorem zDm (s:ByteArray) (i:Nat) (c:UInt8) (hi:i<s.size) (hx:s[i]'hi=c) (x:Int) (hxi:x=(i:Int)) (W:World):(Instr.index 9 (.string s) (.int .i64 x)).run Tryz.prog W=.ok (.int .u8 (c.toNat:Int)) W:=by
 subst hxi;rw[run_index_string (P:=Tryz.prog) W 9 _ .i64 (i:Int) Tryz.underlying9];have h0:(0:Int)<=(i:Int)/\(i:Int)<(s.size:Int):=by omega
 rw[dif_pos h0];simp only[Int.toNat_natCast];rw[hx]
theorem zQh (s:ByteArray) (hs:s.size<=1000000) (w:World):
  Calls Tryz.prog 187 #[.string s] w fun e w'=>e=.returned (.tuple #[.string (txt ((rd s.data.toList).getD [])),.bool (rd s.data.toList).isSome])/\Below w.heap.size w w':=by
 have hL:=hide (Lib.size_eq s);have hat:∀(i:Nat) (hi:i<s.size),s.data.toList[i]?=some s[i]:=fun i hi=>Lib.data_getElem? s i hi
 generalize hl:s.data.toList=l at *;replace hl:=hide hl;replace hat:=hide hat;go_enter Tryz.func187,Tryz.ntmps187;go_wp2
 go_loopg [4,5] s.size (fun k s4 s5 wx=>∃(i:Nat) (o:List UInt8),i+k=s.size/\s5=.int .i64 (i:Int)/\i<=s.size/\Hid (RdAt l o i)/\o.length<=i/\wx.ownsRow w.heap.size 5 1 s4 o.length (bys o)/\Below w.heap.size w wx)
 case atStart=>exact⟨0,[],by omega,rfl,by omega,hide (RdAt.start l),by simp,nil_own _ _ _ _,Below.refl _ _⟩
 case round=>
  obtain⟨i,o,hig,rfl,hi1,hC,hlen0,hor,hbr⟩:=hrel;have hlen:=hide hlen0;clear hlen0;cases gk with
  | zero=>
   obtain rfl:i=s.size:=by omega
   have hiz:¬((s.size:Int)<(s.size:Int)):=by omega
   obtain⟨A,c,rfl,hnc,hHas⟩:=zAh hor;have htx:=txt8 wr c hHas;have hR:Hid (rd l=some o):=hide (hC.out.done (by rw[<-hL.out];exact Nat.le_refl _));clear hHas hor hC;go_wp2;go_ret2;exact⟨by rw[hR.out];rfl,hbr⟩
  | succ k=>
   have hi:i<s.size:=by omega
   have hiz:(i:Int)<(s.size:Int):=by omega
   have hll:=hL.out;have hW:=rway (decide (i=0)) (l.drop i) (fun h=>by have:=congrArg List.length h;rw[List.length_drop] at this;simp at this;omega);have at0:∀c r,l.drop i=c::r->s[i]'hi=c:=fun c r h=>by
    have h1:=zKw h 0;rw[Nat.add_zero,hat.out i hi] at h1;simpa using h1
   have at1:∀c d r,l.drop i=c::d::r->∃h:i+1<s.size,s[i+1]'h=d:=fun c d r h=>by
    have h0:=zEe h (by omega);simp only[List.length_cons] at h0;have h2:i+1<s.size:=by omega
    have h1:=zKw h 1;rw[hat.out (i+1) h2] at h1;exact⟨h2,by simpa using h1⟩
   have at2:∀c d e r,l.drop i=c::d::e::r->∃h:i+2<s.size,s[i+2]'h=e:=fun c d e r h=>by
    have h0:=zEe h (by omega);simp only[List.length_cons] at h0;have h2:i+2<s.size:=by omega
    have h1:=zKw h 2;rw[hat.out (i+2) h2] at h1;exact⟨h2,by simpa using h1⟩
   have hempty:∀c r,l.drop i=c::r->r.isEmpty=decide (i+1=s.size):=fun c r h=>by
    have h0:=zEe h (by omega);simp only[List.length_cons] at h0;rw[Bool.eq_iff_iff,List.isEmpty_iff_length_eq_zero,decide_eq_true_iff];omega
   have f0:((i:Int)==0)=decide (i=0):=by rw[Bool.eq_iff_iff,beq_iff_eq,decide_eq_true_iff];omega
   have f1:((i:Int)==(s.size:Int)-1)=decide (i+1=s.size):=by rw[Bool.eq_iff_iff,beq_iff_eq,decide_eq_true_iff];omega
   have hnz:∀j,decide (i+(j+1)=0)=false:=fun j=>by simp
   clear hat;cases hW with
   | bad c r h h92 hb e1 e2=>
    have hx:=at0 _ _ h;have hR:=hide (hC.out.none e1);have hn92:((c.toNat:Int)==92)=false:=ne8 (k:=92) (by omega) h92;have hsp:=fun w=>zAz c w
    rw[hempty _ _ h] at hb;clear e1 e2 h at0 at1 at2 hempty hll hC;unfold isBad at hb;generalize decide (i=0)=b0 at *;generalize decide (i+1=s.size)=b1 at *;cases hsc:isSpec c with
    | true=>
     rw[hsc] at hsp;clear hb hsc;clear hor;go_wp2_with (go_at_call 196;refine (hsp _).mono ?_;rintro e w' ⟨rfl,hw⟩;obtain rfl:=hw.symm);go_ret2;exact⟨by rw[hR.out];rfl,hbr⟩
    | false=>
     rw[hsc] at hsp hb;by_cases h32:c=32
     ·subst h32;have hbb:(b0||b1)=true:=by simpa using hb
      clear hb hsc h92;cases b0 with
      | true=>
       clear hor;go_wp2_with (go_at_call 196;refine (hsp _).mono ?_;rintro e w' ⟨rfl,hw⟩;obtain rfl:=hw.symm);go_ret2;exact⟨by rw[hR.out];rfl,hbr⟩
      | false=>
       obtain rfl:b1=true:=by simpa using hbb
       clear hor;go_wp2_with (go_at_call 196;refine (hsp _).mono ?_;rintro e w' ⟨rfl,hw⟩;obtain rfl:=hw.symm);go_ret2;exact⟨by rw[hR.out];rfl,hbr⟩
     ·by_cases h35:c=35
      ·subst h35;obtain rfl:b0=true:=by simpa using hb
       clear hb hsc h92 h32;clear hor;go_wp2_with (go_at_call 196;refine (hsp _).mono ?_;rintro e w' ⟨rfl,hw⟩;obtain rfl:=hw.symm);go_ret2;exact⟨by rw[hR.out];rfl,hbr⟩
      ·exact absurd hb (by simp[h32,h35])
   | zero r h e1 e2=>
    have hx:=at0 _ _ h;have hR:=hide (hC.out.none e1);have hsp:=fun w=>zAz 0 w
    rw[show isSpec 0=false from rfl] at hsp;clear e1 e2 h at0 at1 at2 hempty hll hC;clear hor;go_wp2_with (go_at_call 196;refine (hsp _).mono ?_;rintro e w' ⟨rfl,hw⟩;obtain rfl:=hw.symm);go_ret2;exact⟨by rw[hR.out];rfl,hbr⟩
   | one c r h h92 h0 hb e1 e2=>
    have hx:=at0 _ _ h;have hr:r=l.drop (i+(0+1)):=zF6 h 1;have hnext:=hide (hC.out.more c 0 hr e1);have hn92:((c.toNat:Int)==92)=false:=ne8 (k:=92) (by omega) h92;have hn0:((c.toNat:Int)==0)=false:=ne8 (k:=0) (by omega) h0;have hsp:=fun w=>zAz c w
    rw[hempty _ _ h] at hb;clear e1 e2 h hr at0 at1 at2 hempty hll hC;unfold isBad at hb;have hsc:isSpec c=false:=by revert hb;cases isSpec c<;>simp
    rw[hsc] at hsp hb;by_cases h32:c=32
    ·subst h32;have hbb:decide (i=0)=false/\decide (i+1=s.size)=false:=by simpa using hb
     rw[hbb.1] at f0;rw[hbb.2] at f1;clear hb hbb hsc h92;have hone:(wr.alloc (.cells #[.int .u8 32] 5)).ownsRow wr.heap.size 5 1 (.slice (some ⟨wr.heap.size,0,none⟩) 1 1) 1 (bys [32]):=one8 wr 32;have hH:=Has.own hone;have hor1:=hor.alloc (.cells #[.int .u8 32] 5);have hbr1:=hbr.alloc hbr.size (.cells #[.int .u8 32] 5);have hs1:=hbr1.size;clear hone hor hbr;go_wp2_with (first
      |(go_at_call 196;refine (hsp _).mono ?_;rintro e w' ⟨rfl,hw⟩;obtain rfl:=hw.symm)
      |(at_builtin;go_must (refine app8 _ rfl (.tmp 47) (.tmp 49) rfl w.heap.size _ _ o rfl hor1 _ _ 1 1 [32] rfl hH (by have:=hlen.out;omega) hs1 ?_)))
     intro v' w3 hown3 hb3 _;have hb4:=hbr1.trans hb3;clear hor1 hbr1 hs1 hH hb3;go_wp2
     go_roundg (k)
     case measure=>omega
     case rel=>exact⟨i+(0+1),o++[32],by omega,by go_num,by omega,hnext,by simp only[List.length_append,List.length_singleton];have:=hlen.out;omega,by simpa using hown3,hb4⟩
    ·have f32:((c.toNat:Int)==32)=false:=ne8 (k:=32) (by omega) h32;by_cases h35:c=35
     ·subst h35;have hbb:decide (i=0)=false:=by simpa using hb
      rw[hbb] at f0;clear hb hbb hsc h92 f1;have hone:(wr.alloc (.cells #[.int .u8 35] 5)).ownsRow wr.heap.size 5 1 (.slice (some ⟨wr.heap.size,0,none⟩) 1 1) 1 (bys [35]):=one8 wr 35;have hH:=Has.own hone;have hor1:=hor.alloc (.cells #[.int .u8 35] 5);have hbr1:=hbr.alloc hbr.size (.cells #[.int .u8 35] 5);have hs1:=hbr1.size;clear hone hor hbr;go_wp2_with (first
       |(go_at_call 196;refine (hsp _).mono ?_;rintro e w' ⟨rfl,hw⟩;obtain rfl:=hw.symm)
       |(at_builtin;go_must (refine app8 _ rfl (.tmp 47) (.tmp 49) rfl w.heap.size _ _ o rfl hor1 _ _ 1 1 [35] rfl hH (by have:=hlen.out;omega) hs1 ?_)))
      intro v' w3 hown3 hb3 _;have hb4:=hbr1.trans hb3;clear hor1 hbr1 hs1 hH hb3;go_wp2
      go_roundg (k)
      case measure=>omega
      case rel=>exact⟨i+(0+1),o++[35],by omega,by go_num,by omega,hnext,by simp only[List.length_append,List.length_singleton];have:=hlen.out;omega,by simpa using hown3,hb4⟩
     ·have f35:((c.toNat:Int)==35)=false:=ne8 (k:=35) (by omega) h35;clear hb hsc h92 f0 f1;have hone:(wr.alloc (.cells #[.int .u8 (c.toNat:Int)] 5)).ownsRow wr.heap.size 5 1 (.slice (some ⟨wr.heap.size,0,none⟩) 1 1) 1 (bys [c]):=one8 wr c;have hH:=Has.own hone;have hor1:=hor.alloc (.cells #[.int .u8 (c.toNat:Int)] 5);have hbr1:=hbr.alloc hbr.size (.cells #[.int .u8 (c.toNat:Int)] 5);have hs1:=hbr1.size;clear hone hor hbr;go_wp2_with (first
       |(go_at_call 196;refine (hsp _).mono ?_;rintro e w' ⟨rfl,hw⟩;obtain rfl:=hw.symm)
       |(at_builtin;go_must (refine app8 _ rfl (.tmp 47) (.tmp 49) rfl w.heap.size _ _ o rfl hor1 _ _ 1 1 [c] rfl hH (by have:=hlen.out;omega) hs1 ?_)))
      intro v' w3 hown3 hb3 _;have hb4:=hbr1.trans hb3;clear hor1 hbr1 hs1 hH hb3;go_wp2
      go_roundg (k)
      case measure=>omega
      case rel=>exact⟨i+(0+1),o++[c],by omega,by go_num,by omega,hnext,by simp only[List.length_append,List.length_singleton];have:=hlen.out;omega,by simpa using hown3,hb4⟩
   | stop h e1 e2=>
    have hx:=at0 _ _ h;have hR:=hide (hC.out.none e1);have h0:=zEe h (by omega);simp only[List.length_cons,List.length_nil] at h0;have i1:¬((i:Int)+1<(s.size:Int)):=by omega
    have i2:(s.size:Int)<=(i:Int)+2:=(by omega);clear e1 e2 h h0 at0 at1 at2 hempty hll hC f0 f1;clear hor;go_wp2_with (go_at_call 196;refine (hsp _).mono ?_;rintro e w' ⟨rfl,hw⟩;obtain rfl:=hw.symm);go_ret2;exact⟨by rw[hR.out];rfl,hbr⟩
   | pair d r h hd e1 e2=>
    have hx:=at0 _ _ h;obtain⟨hi2,hx1⟩:=at1 _ _ _ h;have hr:r=l.drop (i+(1+1)):=zF6 h 2;have hnext:=hide (hC.out.more d 1 hr e1);have hg:=zDm s (i+1) d hi2 hx1 ((i:Int)+1) (by omega);have i1:(i:Int)+1<(s.size:Int):=by omega
    have hsp:=fun w=>zAz d w
    clear e1 e2 h hr at0 at1 at2 hempty hll hC f0 f1;cases hsc:isSpec d with
    | true=>
     rw[hsc] at hsp;clear hd hsc;have hone:(wr.alloc (.cells #[.int .u8 (d.toNat:Int)] 5)).ownsRow wr.heap.size 5 1 (.slice (some ⟨wr.heap.size,0,none⟩) 1 1) 1 (bys [d]):=one8 wr d;have hH:=Has.own hone;have hor1:=hor.alloc (.cells #[.int .u8 (d.toNat:Int)] 5);have hbr1:=hbr.alloc hbr.size (.cells #[.int .u8 (d.toNat:Int)] 5);have hs1:=hbr1.size;clear hone hor hbr;go_wp2_with (first
      |(go_at_call 196;refine (hsp _).mono ?_;rintro e w' ⟨rfl,hw⟩;obtain rfl:=hw.symm)
      |(at_builtin;go_must (refine app8 _ rfl (.tmp 86) (.tmp 90) rfl w.heap.size _ _ o rfl hor1 _ _ 1 1 [d] rfl hH (by have:=hlen.out;omega) hs1 ?_)))
     intro v' w3 hown3 hb3 _;have hb4:=hbr1.trans hb3;clear hor1 hbr1 hs1 hH hb3;go_wp2
     go_roundg (k-1)
     case measure=>omega
     case rel=>exact⟨i+(1+1),o++[d],by omega,by go_num,by omega,hnext,by simp only[List.length_append,List.length_singleton];have:=hlen.out;omega,by simpa using hown3,hb4⟩
    | false=>
     rw[hsc] at hsp;have hdd:d=35\/d=61\/d=32:=by
      unfold isBehind at hd;rw[hsc] at hd;simp only[Bool.false_or,Bool.or_eq_true,beq_iff_eq] at hd;rcases hd with (h | h) | h
      ·exact Or.inl h
      ·exact Or.inr (Or.inl h)
      ·exact Or.inr (Or.inr h)
     clear hd hsc;rcases hdd with rfl | rfl | rfl
     ·have hone:(wr.alloc (.cells #[.int .u8 35] 5)).ownsRow wr.heap.size 5 1 (.slice (some ⟨wr.heap.size,0,none⟩) 1 1) 1 (bys [35]):=one8 wr 35;have hH:=Has.own hone;have hor1:=hor.alloc (.cells #[.int .u8 35] 5);have hbr1:=hbr.alloc hbr.size (.cells #[.int .u8 35] 5);have hs1:=hbr1.size;clear hone hor hbr;go_wp2_with (first
       |(go_at_call 196;refine (hsp _).mono ?_;rintro e w' ⟨rfl,hw⟩;obtain rfl:=hw.symm)
       |(at_builtin;go_must (refine app8 _ rfl (.tmp 86) (.tmp 90) rfl w.heap.size _ _ o rfl hor1 _ _ 1 1 [35] rfl hH (by have:=hlen.out;omega) hs1 ?_)))
      intro v' w3 hown3 hb3 _;have hb4:=hbr1.trans hb3;clear hor1 hbr1 hs1 hH hb3;go_wp2
      go_roundg (k-1)
      case measure=>omega
      case rel=>exact⟨i+(1+1),o++[35],by omega,by go_num,by omega,hnext,by simp only[List.length_append,List.length_singleton];have:=hlen.out;omega,by simpa using hown3,hb4⟩
     ·have hone:(wr.alloc (.cells #[.int .u8 61] 5)).ownsRow wr.heap.size 5 1 (.slice (some ⟨wr.heap.size,0,none⟩) 1 1) 1 (bys [61]):=one8 wr 61;have hH:=Has.own hone;have hor1:=hor.alloc (.cells #[.int .u8 61] 5);have hbr1:=hbr.alloc hbr.size (.cells #[.int .u8 61] 5);have hs1:=hbr1.size;clear hone hor hbr;go_wp2_with (first
       |(go_at_call 196;refine (hsp _).mono ?_;rintro e w' ⟨rfl,hw⟩;obtain rfl:=hw.symm)
       |(at_builtin;go_must (refine app8 _ rfl (.tmp 86) (.tmp 90) rfl w.heap.size _ _ o rfl hor1 _ _ 1 1 [61] rfl hH (by have:=hlen.out;omega) hs1 ?_)))
      intro v' w3 hown3 hb3 _;have hb4:=hbr1.trans hb3;clear hor1 hbr1 hs1 hH hb3;go_wp2
      go_roundg (k-1)
      case measure=>omega
      case rel=>exact⟨i+(1+1),o++[61],by omega,by go_num,by omega,hnext,by simp only[List.length_append,List.length_singleton];have:=hlen.out;omega,by simpa using hown3,hb4⟩
     ·have hone:(wr.alloc (.cells #[.int .u8 32] 5)).ownsRow wr.heap.size 5 1 (.slice (some ⟨wr.heap.size,0,none⟩) 1 1) 1 (bys [32]):=one8 wr 32;have hH:=Has.own hone;have hor1:=hor.alloc (.cells #[.int .u8 32] 5);have hbr1:=hbr.alloc hbr.size (.cells #[.int .u8 32] 5);have hs1:=hbr1.size;clear hone hor hbr;go_wp2_with (first
       |(go_at_call 196;refine (hsp _).mono ?_;rintro e w' ⟨rfl,hw⟩;obtain rfl:=hw.symm)
       |(at_builtin;go_must (refine app8 _ rfl (.tmp 86) (.tmp 90) rfl w.heap.size _ _ o rfl hor1 _ _ 1 1 [32] rfl hH (by have:=hlen.out;omega) hs1 ?_)))
      intro v' w3 hown3 hb3 _;have hb4:=hbr1.trans hb3;clear hor1 hbr1 hs1 hH hb3;go_wp2
      go_roundg (k-1)
      case measure=>omega
      case rel=>exact⟨i+(1+1),o++[32],by omega,by go_num,by omega,hnext,by simp only[List.length_append,List.length_singleton];have:=hlen.out;omega,by simpa using hown3,hb4⟩
   | half d h hd e1 e2=>
    have hx:=at0 _ _ h;obtain⟨hi2,hx1⟩:=at1 _ _ _ h;have hR:=hide (hC.out.none e1);have h0:=zEe h (by omega);simp only[List.length_cons,List.length_nil] at h0;have hg:=zDm s (i+1) d hi2 hx1 ((i:Int)+1) (by omega);have i1:(i:Int)+1<(s.size:Int):=by omega
    have i2:(s.size:Int)<=(i:Int)+2:=(by omega);have hsc:isSpec d=false:=(by unfold isBehind at hd;revert hd;cases isSpec d<;>simp);have n35:((d.toNat:Int)==35)=false:=ne8 (k:=35) (by omega) (by rintro rfl;cases hd);have n61:((d.toNat:Int)==61)=false:=ne8 (k:=61) (by omega) (by rintro rfl;cases hd);have n32:((d.toNat:Int)==32)=false:=ne8 (k:=32) (by omega) (by rintro rfl;cases hd);have hsp:=fun w=>zAz d w
    rw[hsc] at hsp;clear e1 e2 h h0 hd hsc at0 at1 at2 hempty hll hC f0 f1;clear hor;go_wp2_with (go_at_call 196;refine (hsp _).mono ?_;rintro e w' ⟨rfl,hw⟩;obtain rfl:=hw.symm);go_ret2;exact⟨by rw[hR.out];rfl,hbr⟩
   | nohex d e r h hd hn e1 e2=>
    have hx:=at0 _ _ h;obtain⟨hi2,hx1⟩:=at1 _ _ _ h;obtain⟨hi3,hx2⟩:=at2 _ _ _ _ h;have hR:=hide (hC.out.none e1);have hg:=zDm s (i+1) d hi2 hx1 ((i:Int)+1) (by omega);have hg2:=zDm s (i+2) e hi3 hx2 ((i:Int)+2) (by omega);have i1:(i:Int)+1<(s.size:Int):=by omega
    have i2:¬((s.size:Int)<=(i:Int)+2):=(by omega);have hsc:isSpec d=false:=(by unfold isBehind at hd;revert hd;cases isSpec d<;>simp);have n35:((d.toNat:Int)==35)=false:=ne8 (k:=35) (by omega) (by rintro rfl;cases hd);have n61:((d.toNat:Int)==61)=false:=ne8 (k:=61) (by omega) (by rintro rfl;cases hd);have n32:((d.toNat:Int)==32)=false:=ne8 (k:=32) (by omega) (by rintro rfl;cases hd);have hsp:=fun w=>zAz d w
    rw[hsc] at hsp;have hD:=fun w=>zIu d w
    have hE:=fun w=>zIu e w
    clear e1 e2 h hd hsc at0 at1 at2 hempty hll hC f0 f1;cases hdv:hexV d with
    | none=>
     rw[zJ0 hdv] at hD;clear hE hdv hn;clear hor;go_wp2_with (first
      |(go_at_call 196;refine (hsp _).mono ?_;rintro e w' ⟨rfl,hw⟩;obtain rfl:=hw.symm)
      |(go_at_call 214;fail))
     refine (hD _).mono ?_;rintro e w' ⟨rfl,hw⟩;obtain rfl:=hw.symm;clear hD;go_wp2;go_ret2;exact⟨by rw[hR.out];rfl,hbr⟩
    | some a=>
     have hev:hexV e=none:=by rcases hn with hn | hn;(· rw[hn] at hdv;cases hdv);exact hn
     rw[zG1 hdv] at hD;rw[zJ0 hev] at hE;have ha0:¬((a:Int)<0):=by omega
     clear hdv hev hn hor;go_wp2_with (first
      |(go_at_call 196;refine (hsp _).mono ?_;rintro e w' ⟨rfl,hw⟩;obtain rfl:=hw.symm)
      |(go_at_call 214;fail))
     refine (hD _).mono ?_;rintro e w' ⟨rfl,hw⟩;obtain rfl:=hw.symm;go_wp2_with (go_at_call 214;fail);refine (hE _).mono ?_;rintro e w' ⟨rfl,hw⟩;obtain rfl:=hw.symm;go_wp2;go_ret2;exact⟨by rw[hR.out];rfl,hbr⟩
   | hex d e a b r h hd ha hb e1 e2=>
    have hx:=at0 _ _ h;obtain⟨hi2,hx1⟩:=at1 _ _ _ h;obtain⟨hi3,hx2⟩:=at2 _ _ _ _ h;have hr:r=l.drop (i+(2+1)):=zF6 h 3;have hnext:=hide (hC.out.more _ 2 hr e1);have hg:=zDm s (i+1) d hi2 hx1 ((i:Int)+1) (by omega);have hg2:=zDm s (i+2) e hi3 hx2 ((i:Int)+2) (by omega);have i1:(i:Int)+1<(s.size:Int):=by omega
    have i2:¬((s.size:Int)<=(i:Int)+2):=(by omega);have hsc:isSpec d=false:=(by unfold isBehind at hd;revert hd;cases isSpec d<;>simp);have n35:((d.toNat:Int)==35)=false:=ne8 (k:=35) (by omega) (by rintro rfl;cases hd);have n61:((d.toNat:Int)==61)=false:=ne8 (k:=61) (by omega) (by rintro rfl;cases hd);have n32:((d.toNat:Int)==32)=false:=ne8 (k:=32) (by omega) (by rintro rfl;cases hd);have hsp:=fun w=>zAz d w
    rw[hsc] at hsp;have hD:=fun w=>zIu d w
    have hE:=fun w=>zIu e w
    rw[zG1 ha] at hD;rw[zG1 hb] at hE;have ha16:=zDt ha;have hb16:=zDt hb;have ha0:¬((a:Int)<0):=by omega
    have hb0:¬((b:Int)<0):=(by omega);have hy:Hid (((UInt8.ofNat (16*a+b)).toNat:Int)=16*(a:Int)+(b:Int)):=hide (by rw[UInt8.toNat_ofNat'];omega);have wr1:IntKind.i64.wrap ((i:Int)+1)=(i:Int)+1:=zIy _ (by omega) (by omega);have wr2:IntKind.i64.wrap ((i:Int)+2)=(i:Int)+2:=zIy _ (by omega) (by omega);have wr3:IntKind.i64.wrap (16*(a:Int))=16*(a:Int):=zIy _ (by omega) (by omega);have wr4:IntKind.i64.wrap (16*(a:Int)+(b:Int))=16*(a:Int)+(b:Int):=zIy _ (by omega) (by omega);have hy8:IntKind.u8.wrap (16*(a:Int)+(b:Int))=((UInt8.ofNat (16*a+b)).toNat:Int):=by rw[hy.out];simp[IntKind.wrap,IntKind.bits,IntKind.signed];omega
    generalize UInt8.ofNat (16*a+b)=y at *;clear e1 e2 h hd hsc hr ha hb at0 at1 at2 hempty hll hC f0 f1;go_wp2_with (first
     |(go_at_call 196;refine (hsp _).mono ?_;rintro e w' ⟨rfl,hw⟩;obtain rfl:=hw.symm)
     |(go_at_call 214;fail))
    refine (hD _).mono ?_;rintro e w' ⟨rfl,hw⟩;obtain rfl:=hw.symm;go_wp2_with (go_at_call 214;fail);refine (hE _).mono ?_;rintro e w' ⟨rfl,hw⟩;obtain rfl:=hw.symm;go_wp2_with fail;refine zAk w.heap.size (by kernel_rfl) ?_;have hbr0:Below w.heap.size w wr.drew:=hbr.trans ((Below.refl _ _).drew);have hor0:=zAc hor (Below.refl wr.heap.size wr).drew;have hs0:=hbr0.size;clear hor hbr;generalize wr.drew=a0 at *;refine yTk 0 (some 113) ?_;simp only[pUz];refine yTk 1 (some 114) ?_;simp only[pUz];refine yTk 2 (some 115) ?_;simp only[pUz];refine zAa 3 (some 116) (v:=?va3) rfl rfl (by kernel_rfl) rfl (by rfl) (fun W hW=>?ya3) ?_
    case ya3=>have h1:=wr1;go_simp<;>with_reducible rfl
    simp only[pUz];refine zAa 4 (some 117) (v:=?va4) rfl rfl (by kernel_rfl) rfl (by rfl) (fun W hW=>?ya4) ?_
    case ya4=>have h1:=hg W;go_simp<;>with_reducible rfl
    simp only[pUz];refine yTk 7 (some 120) ?_;simp only[pUz];refine yTk 8 (some 121) ?_;simp only[pUz];refine zAa 9 (some 122) (v:=?va9) rfl rfl (by kernel_rfl) rfl (by rfl) (fun W hW=>?ya9) ?_
    case ya9=>have h1:=wr2;go_simp<;>with_reducible rfl
    simp only[pUz];refine zAa 10 (some 123) (v:=?va10) rfl rfl (by kernel_rfl) rfl (by rfl) (fun W hW=>?ya10) ?_
    case ya10=>have h1:=hg2 W;go_simp<;>with_reducible rfl
    simp only[pUz];refine zAe 5 rfl (by kernel_rfl) (fun K hK=>?_);go_simp;refine (hD _).mono ?_;rintro e w2 ⟨rfl,hw⟩;obtain rfl:=hw.symm;refine hK.out _ _ (Below.refl _ _) ?_;clear hK K;(try simp only[pUz]);refine zAa 6 (some 119) (v:=?va6) rfl rfl (by kernel_rfl) rfl (by rfl) (fun W hW=>?ya6) ?_
    case ya6=>have h1:=wr3;go_simp<;>with_reducible rfl
    simp only[pUz];refine zAe 11 rfl (by kernel_rfl) (fun K hK=>?_);go_simp;refine (hE _).mono ?_;rintro e w2 ⟨rfl,hw⟩;obtain rfl:=hw.symm;refine hK.out _ _ (Below.refl _ _) ?_;clear hK K;(try simp only[pUz]);refine zAa 12 (some 125) (v:=?va12) rfl rfl (by kernel_rfl) rfl (by rfl) (fun W hW=>?ya12) ?_
    case ya12=>have h1:=wr4;go_simp<;>with_reducible rfl
    simp only[pUz];refine zAa 13 (some 126) (v:=?va13) rfl rfl (by kernel_rfl) rfl (by rfl) (fun W hW=>?ya13) ?_
    case ya13=>have h1:=hy8;go_simp<;>with_reducible rfl
    simp only[pUz];refine zAe 14 rfl (by kernel_rfl) (fun K hK=>?_);go_simp;have hb1:Below w.heap.size a0 (a0.alloc (.cells #[.int .u8 (y.toNat:Int)] 5)):=(Below.refl _ _).alloc hs0 _;have hone:(a0.alloc (.cells #[.int .u8 (y.toNat:Int)] 5)).ownsRow a0.heap.size 5 1 (.slice (some ⟨a0.heap.size,0,none⟩) 1 1) 1 (bys [y]):=one8 a0 y;have hH:=Has.own hone;have hor1:=hor0.alloc (.cells #[.int .u8 (y.toNat:Int)] 5);have hba:=hbr0.trans hb1;have hs1:=hba.size;clear hone hor0 hbr0;refine hK.out _ _ hb1 ?_;clear hK K hb1;(try simp only[pUz]);refine zAe 15 rfl (by kernel_rfl) (fun K hK=>?_);refine step8 _ (some 128) rfl rfl (.tmp 113) (.tmp 127) rfl w.heap.size _ _ o rfl hor1 _ _ 1 1 [y] rfl hH (by have:=hlen.out;omega) hs1 ?_;intro v' w3 hown3 hb3 _ _;have hb4:=hba.trans hb3;refine hK.out _ _ hb3 ?_;clear hK K hor1 hba hs1 hH hb3;(try simp only[pUz]);refine yTk 16 (some 4) ?_;simp only[pUz];refine zAi (by kernel_rfl) ?_ _;go_wp2
    go_roundg (k-2)
    case measure=>omega
    case rel=>exact⟨i+(2+1),o++[y],by omega,by go_num,by omega,hnext,by simp only[List.length_append,List.length_singleton];have:=hlen.out;omega,by simpa using hown3,hb4⟩
end Go.Proofs.YtdkekamkmlpnhaaGreatDoor
