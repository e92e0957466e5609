/- Several texts in one: JReadM, JMarks, JReadV. By an AI agent. -/
import Derived.Test.YtaolhefllfnmiaaGreatDoorHY
import Derived.Test.YtaolhefllfnmiaaGreatDoorMI
set_option maxRecDepth 100000
set_option maxHeartbeats 32000000
namespace Go.Proofs.YtaolhefllfnmiaaGreatDoor
open Go.RowKit
set_option linter.unusedVariables false
namespace FT
def byteF:List UInt8→UInt8 × Nat
 | []=>(0,0)
 | c::r=>if c=92 then (match r with
   | d::f::_=>(match hex2 d f with | some n=>(UInt8.ofNat n,3) | none=>(0,0))
   | _=>(0,0)) else if marked c=true then (0,0) else (c,1)
def valF:List UInt8→Option (List UInt8)
 | []=>some []
 | c::r=>if c=92 then (match r with
   | d::f::q=>(match hex2 d f with
     | some n=>(valF q).map (UInt8.ofNat n::·)
     | none=>none)
   | _=>none)
  else if marked c=true then none else (valF r).map (c::·)
inductive ValStep (l:List UInt8):Prop where
 | none (x:UInt8) (b:byteF l=(x,0)) (rq:valF l=.none)
 | go (x:UInt8) (k:Nat) (b:byteF l=(x,k)) (h0:1≤k) (h1:k≤l.length) (rq:valF l=(valF (l.drop k)).map (x::·))
theorem val_step {l:List UInt8} (hl:l≠[]):ValStep l:=by
 cases l with
 | nil=>exact absurd rfl hl
 | cons c r=>
  by_cases h92:c=92
  ·subst h92
   match r with
   | []=>exact .none 0 rfl (by rw[valF.eq_def];rfl)
   | [d]=>exact .none 0 rfl (by rw[valF.eq_def];rfl)
   | d::f::q=>
    cases hh:hex2 d f with
    | none=>exact .none 0 (by simp[byteF,hh]) (by rw[valF.eq_def];simp[hh])
    | some n=>
     have hb:byteF (92::d::f::q)=(UInt8.ofNat n,3):=by simp[byteF,hh]
     exact .go _ 3 hb (by omega) (by simp) (by rw[valF.eq_def];simp[hh])
  ·cases ho:marked c with
   | true=>exact .none 0 (by simp[byteF,h92,ho]) (by rw[valF.eq_def];simp[h92,ho])
   | false=>exact .go c 1 (by simp[byteF,h92,ho]) (by omega) (by simp) (by rw[valF.eq_def];simp[h92,ho])
def ValAt (l o r:List UInt8):Prop:=valF l=(valF r).map (o++·)
theorem ValAt.start (l:List UInt8):ValAt l [] l:=by unfold ValAt;cases valF l<;>simp
theorem ValAt.none {l o r:List UInt8} (h:ValAt l o r) (hn:valF r=.none):valF l=.none:=by unfold ValAt at h;rw[h,hn];rfl
theorem ValAt.more {l o r q:List UInt8} {x:UInt8} (h:ValAt l o r) (hn:valF r=(valF q).map (x::·)):ValAt l (o++[x]) q:=by
 unfold ValAt at h ⊢
 rw[h,hn,Option.map_map]
 congr 1
 funext u
 simp
theorem ValAt.done {l o:List UInt8} (h:ValAt l o []):valF l=some o:=by unfold ValAt at h;rw[h];simp[valF]
theorem hex2_dig (c:UInt8):hex2 (dig (c.toNat/16)) (dig (c.toNat % 16))=some c.toNat:=by
 have hlt:c.toNat<256:=c.toNat_lt
 unfold hex2
 rw[dig_hex _ (by omega),dig_hex _ (by omega),hexV_D _ (by omega),hexV_D _ (by omega)]
 simp
 omega
theorem val_esc:∀v:List UInt8,valF (esc v)=some v
 | []=>rfl
 | c::r=>by
  have ih:=val_esc r
  have he:esc (c::r)=esc1 c++esc r:=by simp[esc]
  rw[he]
  unfold esc1
  cases hm:marked c with
  | true=>
   simp only[if_true,List.cons_append,List.nil_append]
   rw[valF.eq_def]
   simp[hex2_dig,ih]
  | false=>
   have h92:c≠92:=by intro h;subst h;revert hm;decide
   simp only[Bool.false_eq_true,if_false,List.cons_append,List.nil_append]
   rw[valF.eq_def]
   simp[h92,ih,hm]
def headF (h:List UInt8):Int × List UInt8:=
 if h.getLast?=some 62 then (5,h.dropLast) else if h.getLast?=some 60 then (6,h.dropLast) else if h.getLast?=some 126 then (8,h.dropLast) else (3,h)
def cutF (c:UInt8):List UInt8→Option (List UInt8 × List UInt8)
 | []=>none
 | b::r=>if b=c then some ([],r) else (cutF c r).map fun p=>(b::p.1,p.2)
theorem cutF_some {c:UInt8}:∀{a:List UInt8} (b:List UInt8),c ∉ a→cutF c (a++c::b)=some (a,b)
 | [],b,_=>by rw[List.nil_append,cutF,if_pos rfl]
 | x::r,b,h=>by
  have h1:x≠c:=fun e=>h (by rw[e];exact List.mem_cons_self)
  have h2:c ∉ r:=fun hm=>h (List.mem_cons_of_mem _ hm)
  rw[List.cons_append,cutF,if_neg h1,cutF_some b h2];rfl
theorem cutF_cases (c:UInt8):∀l:List UInt8,(cutF c l=none∧c ∉ l)∨∃a b,cutF c l=some (a,b)∧l=a++c::b∧c ∉ a
 | []=>.inl ⟨rfl,by simp⟩
 | x::r=>by
  by_cases h:x=c
  ·subst h
   exact .inr ⟨[],r,by rw[cutF,if_pos rfl],rfl,by simp⟩
  ·rcases cutF_cases c r with⟨h1,h2⟩ | ⟨a,b,h1,h2,h3⟩
   ·exact .inl ⟨by rw[cutF,if_neg h,h1];rfl,by simp[h2,Ne.symm h]⟩
   ·exact .inr ⟨x::a,b,by rw[cutF,if_neg h,h1];rfl,by rw[h2];rfl,by simp[h3,Ne.symm h]⟩
def splF:List UInt8→List (List UInt8)
 | []=>[[]]
 | c::r=>if c=42 then []::splF r else match splF r with | h::t=>(c::h)::t | []=>[[c]]
theorem splF_ne:∀l,splF l≠[]
 | []=>by simp[splF]
 | c::r=>by
  have:=splF_ne r
  rw[splF]
  split
  ·simp
  ·split<;>simp
theorem splF_len:∀l,(splF l).length=l.count 42+1
 | []=>rfl
 | c::r=>by
  have ih:=splF_len r
  have hn:=splF_ne r
  rw[splF]
  by_cases h:c=42
  ·subst h;rw[if_pos rfl];simp[ih]
  ·rw [if_neg h,List.count_cons_of_ne h]
   cases hs:splF r with
   | nil=>exact absurd hs hn
   | cons x t=>rw[hs] at ih;simpa using ih
theorem splF_plain:∀{l:List UInt8},42 ∉ l→splF l=[l]
 | [],_=>rfl
 | c::r,h=>by
  have h1:c≠42:=fun e=>h (by rw[e];exact List.mem_cons_self)
  rw[splF,if_neg h1,splF_plain fun hm=>h (List.mem_cons_of_mem _ hm)]
theorem splF_star:∀{a:List UInt8} (b:List UInt8),42 ∉ a→splF (a++42::b)=a::splF b
 | [],b,_=>by rw[List.nil_append,splF,if_pos rfl]
 | c::r,b,h=>by
  have h1:c≠42:=fun e=>h (by rw[e];exact List.mem_cons_self)
  rw[List.cons_append,splF,if_neg h1,splF_star b fun hm=>h (List.mem_cons_of_mem _ hm)]
def valsF:List (List UInt8)→Option (List (List UInt8))
 | []=>some []
 | x::r=>match valF x with
  | none=>none
  | some v=>(valsF r).map (v::·)
def mkP (a:List UInt8) (vs:List (List UInt8)):FT:=.mk 4 a [] (vs.headD []) (vs.getLastD []) vs.tail.dropLast []
def simpleF (t:List UInt8):Option FT:=
 match cutF 61 t with
 | none=>none
 | some (h,x)=>
  if (headF h).1≠3∨42 ∉ x then (valF x).map fun v=>.mk (headF h).1 (headF h).2 v [] [] [] []
  else if x=[42] then some (.mk 7 (headF h).2 [] [] [] [] [])
  else (valsF (splF x)).map (mkP (headF h).2)
def kindF (c:UInt8):Option Int:=if c=38 then some 0 else if c=124 then some 1 else if c=33 then some 2 else none
mutual
def readF:Nat→List UInt8→Option (FT × List UInt8)
 | 0,_=>none
 | n+1,s=>match s with
  | b::c::r=>if b=40 then (match kindF c with
    | some k=>partsF n k r []
    | none=>match cutF 41 (c::r) with
     | none=>none
     | some (t,rest)=>(simpleF t).map fun f=>(f,rest)) else none
  | _=>none
def partsF:Nat→Int→List UInt8→List FT→Option (FT × List UInt8)
 | 0,_,_,_=>none
 | n+1,k,s,acc=>match s with
  | b::r=>if b=40 then (match readF n (b::r) with
    | none=>none
    | some (p,rest)=>partsF n k rest (acc++[p]))
   else if b=41 then some (.mk k [] [] [] [] [] acc,r) else none
  | []=>none
end
theorem cutF_len {c:UInt8} {l a b:List UInt8} (h:cutF c l=some (a,b)):a.length+1+b.length=l.length:=by
 rcases cutF_cases c l with⟨h1,_⟩ | ⟨a',b',h1,h2,_⟩
 ·rw [h1] at h;cases h
 ·rw [h1] at h
  cases h
  rw[h2]
  simp
  omega
mutual
theorem readF_len:∀(n:Nat) (s:List UInt8) (t:FT) (r:List UInt8),readF n s=some (t,r)→r.length+2≤s.length
 | 0,s,t,r,h=>by simp[readF] at h
 | n+1,[],t,r,h=>by simp[readF] at h
 | n+1,[_],t,r,h=>by simp[readF] at h
 | n+1,b::c::q,t,r,h=>by
  rw[readF.eq_def] at h
  simp only at h
  split at h
  ·cases hk:kindF c with
   | some k=>
    rw[hk] at h
    have:=partsF_len n k q [] t r h
    simp only[List.length_cons]
    omega
   | none=>
    rw[hk] at h
    simp only at h
    cases hc:cutF 41 (c::q) with
    | none=>rw[hc] at h;cases h
    | some p=>
     obtain⟨x,y⟩:=p
     rw[hc] at h
     simp only at h
     have:=cutF_len hc
     cases hs:simpleF x with
     | none=>rw[hs] at h;cases h
     | some f=>
      rw[hs] at h
      simp only[Option.map_some,Option.some.injEq,Prod.mk.injEq] at h
      obtain⟨_,rfl⟩:=h
      simp only[List.length_cons] at this ⊢
      have hx:x≠[]:=by
       intro hx
       subst hx
       simp[simpleF,cutF] at hs
      have:=List.length_pos_iff.2 hx
      omega
  ·cases h
theorem partsF_len:∀(n:Nat) (k:Int) (s:List UInt8) (acc:List FT) (t:FT) (r:List UInt8),partsF n k s acc=some (t,r)→r.length+1≤s.length
 | 0,k,s,acc,t,r,h=>by simp[partsF] at h
 | n+1,k,[],acc,t,r,h=>by simp[partsF] at h
 | n+1,k,b::q,acc,t,r,h=>by
  rw[partsF.eq_def] at h
  simp only at h
  split at h
  ·cases hr:readF n (b::q) with
   | none=>rw[hr] at h;cases h
   | some p=>
    obtain⟨p,rest⟩:=p
    rw[hr] at h
    simp only at h
    have h1:=readF_len n _ _ _ hr
    have h2:=partsF_len n k rest _ t r h
    omega
  ·split at h
   ·simp only[Option.some.injEq,Prod.mk.injEq] at h
    obtain⟨_,rfl⟩:=h
    simp
   ·cases h
end
theorem esc_free:∀(v:List UInt8) (b:UInt8),(b=42∨b=41∨b=40)→b ∉ esc v:=by
 intro v b hb hm
 unfold esc at hm
 obtain⟨c,hc,hx⟩:=List.mem_flatMap.1 hm
 unfold esc1 at hx
 have hlt:c.toNat<256:=c.toNat_lt
 have hd:∀j:Fin 16,dig j.val≠42∧dig j.val≠41∧dig j.val≠40:=by decide+kernel
 have d1:=hd ⟨c.toNat/16,by omega⟩
 have d2:=hd ⟨c.toNat % 16,by omega⟩
 cases hmk:marked c with
 | true=>
  rw[hmk] at hx
  simp only[if_true,List.mem_cons,List.not_mem_nil,or_false] at hx
  rcases hb with rfl | rfl | rfl<;>rcases hx with h | h | h<;>first | (revert h;decide) | exact absurd h.symm d1.1 | exact absurd h.symm d1.2.1 | exact absurd h.symm d1.2.2 | exact absurd h.symm d2.1 | exact absurd h.symm d2.2.1 | exact absurd h.symm d2.2.2
 | false=>
  rw[hmk] at hx
  simp only[Bool.false_eq_true,if_false,List.mem_singleton] at hx
  subst hx
  rcases hb with rfl | rfl | rfl<;>(revert hmk;decide)
theorem sign8_not {b:UInt8} (h:sign8 b=false) {a:List UInt8} (ha:a.all sign8=true):b ∉ a:=fun hm=>by
 have:=List.all_eq_true.1 ha b hm
 rw[h] at this
 cases this
theorem attr_parts {a:List UInt8} (h:attrOk a=true):∃c r,a=c::r∧letter c=true∧a.all sign8=true:=by
 unfold attrOk at h
 simp only[Bool.and_eq_true,decide_eq_true_eq] at h
 obtain⟨⟨⟨h1,_⟩,h3⟩,h4⟩:=h
 cases a with
 | nil=>simp at h1
 | cons c r=>exact⟨c,r,rfl,by simpa using h3,h4⟩
theorem attr_last {a:List UInt8} (h:a.all sign8=true) (b:UInt8) (hb:sign8 b=false):a.getLast?≠some b:=fun e=>sign8_not hb h (List.mem_of_getLast? e)
theorem letter_kind {c:UInt8} (h:letter c=true):kindF c=none:=by
 unfold kindF
 have key:∀k:UInt8,letter k=false→c≠k:=fun k hk e=>by rw[e,hk] at h;cases h
 rw[if_neg (key 38 (by decide)),if_neg (key 124 (by decide)),if_neg (key 33 (by decide))]
theorem head_val {a:List UInt8} (h:a.all sign8=true) {k:Int} (hk:k=3∨k=5∨k=6∨k=8):∃x,a++sign k=x++[61]∧61 ∉ x∧headF x=(k,a)∧41 ∉ x:=by
 have n61:=sign8_not (b:=61) (by decide) h
 have n41:=sign8_not (b:=41) (by decide) h
 rcases hk with rfl | rfl | rfl | rfl
 ·refine ⟨a,rfl,n61,?_,n41⟩
  unfold headF
  rw[if_neg (attr_last h 62 (by decide)),if_neg (attr_last h 60 (by decide)),if_neg (attr_last h 126 (by decide))]
 ·refine ⟨a++[62],by simp[sign],by simp[n61],?_,by simp[n41]⟩
  unfold headF
  simp
 ·refine ⟨a++[60],by simp[sign],by simp[n61],?_,by simp[n41]⟩
  unfold headF
  simp
 ·refine ⟨a++[126],by simp[sign],by simp[n61],?_,by simp[n41]⟩
  unfold headF
  simp
theorem simple_val {a v:List UInt8} (h:a.all sign8=true) {k:Int} (hk:k=3∨k=5∨k=6∨k=8):simpleF (a++sign k++esc v)=some (.mk k a v [] [] [] []):=by
 obtain⟨x,h1,h2,h3,_⟩:=head_val h hk
 rw[h1,List.append_assoc,List.singleton_append]
 unfold simpleF
 rw[cutF_some _ h2]
 simp only
 rw[if_pos (.inr (esc_free v 42 (.inl rfl))),val_esc,h3]
 rfl
theorem head_plain {a:List UInt8} (h:a.all sign8=true):headF a=(3,a):=by
 unfold headF
 rw[if_neg (attr_last h 62 (by decide)),if_neg (attr_last h 60 (by decide)),if_neg (attr_last h 126 (by decide))]
theorem simple_has {a:List UInt8} (h:a.all sign8=true):simpleF (a++[61,42])=some (.mk 7 a [] [] [] [] []):=by
 have n61:=sign8_not (b:=61) (by decide) h
 unfold simpleF
 rw[cutF_some _ n61]
 simp only
 rw[head_plain h,if_neg (by simp),if_pos trivial]
theorem spl_any:∀(any:List (List UInt8)) (l:List UInt8),splF (any.flatMap (fun x=>esc x++[42])++esc l)=any.map esc++[esc l]
 | [],l=>by simp[splF_plain (esc_free l 42 (.inl rfl))]
 | x::r,l=>by
  have ih:=spl_any r l
  simp only[List.flatMap_cons,List.append_assoc,List.map_cons,List.cons_append,List.nil_append]
  rw[splF_star _ (esc_free x 42 (.inl rfl))]
  rw[←ih]
theorem vals_esc:∀(l:List (List UInt8)),valsF (l.map esc)=some l
 | []=>rfl
 | x::r=>by simp[valsF,val_esc,vals_esc r]
theorem simple_sub {a f l:List UInt8} {any:List (List UInt8)} (h:a.all sign8=true) (hp:plain0 f l any=false) (hx:∀x∈any,x≠[]):
  simpleF (a++[61]++esc f++[42]++any.flatMap (fun x=>esc x++[42])++esc l)=some (.mk 4 a [] f l any []):=by
 have n61:=sign8_not (b:=61) (by decide) h
 have he:a++[61]++esc f++[42]++any.flatMap (fun x=>esc x++[42])++esc l=a++61::(esc f++42::(any.flatMap (fun x=>esc x++[42])++esc l)):=by simp
 rw[he]
 unfold simpleF
 rw[cutF_some _ n61]
 simp only
 rw[head_plain h,if_neg (by simp)]
 have hlen:∀v:List UInt8,esc v=[]→v=[]:=fun v hv=>by
  have:=val_esc v
  rw[hv] at this
  simp[valF] at this
  exact this
 rw[if_neg (by
  intro hc
  have h1:esc f=[]:=by
   cases hf:esc f with
   | nil=>rfl
   | cons c r=>rw[hf] at hc;simp at hc
  rw[h1] at hc
  simp only[List.nil_append,List.cons.injEq,true_and,List.append_eq_nil_iff] at hc
  have h2:=hlen f h1
  have h3:=hlen l hc.2
  have h4:any=[]:=by
   cases any with
   | nil=>rfl
   | cons x r=>simp at hc
  rw[h2,h3,h4] at hp
  simp[plain0] at hp)]
 rw[splF_star _ (esc_free f 42 (.inl rfl)),spl_any]
 have hm:esc f::(any.map esc++[esc l])=(f::(any++[l])).map esc:=by simp
 rw[hm,vals_esc]
 have hg:(f::(any++[l])).getLastD []=l:=by
  rw[show f::(any++[l])=(f::any)++[l] from rfl,List.getLastD_concat]
 simp only[Option.map_some,mkP,hg]
 simp
theorem read_simple {n:Nat} {c:UInt8} {q r:List UInt8} {f:FT} (hk:kindF c=none) (h41:41 ∉ c::q) (hs:simpleF (c::q)=some f):readF (n+1) (40::c::q++41::r)=some (f,r):=by
 rw[readF.eq_def]
 simp only[List.cons_append,if_true,hk]
 have:=cutF_some (c:=41) r h41
 rw[List.cons_append] at this
 rw[this]
 simp only[hs,Option.map_some]
theorem text_head:∀t:FT,∃q,text t=40::q
 | .mk k a v f l any ps=>⟨_,by rw[text]⟩
theorem parts_back (k:Int) (r:List UInt8):∀(ps:List FT) (hb:∀p∈ps,∀(n:Nat) (q:List UInt8),(text p).length≤n→readF n (text p++q)=some (p,q)) (n:Nat) (acc:List FT),(textL ps).length+1≤n→
  partsF n k (textL ps++41::r) acc=some (.mk k [] [] [] [] [] (acc++ps),r)
 | [],hb,n,acc,hn=>by
  match n,hn with
  | n+1,_=>rw[partsF.eq_def];simp[textL]
 | p::ps,hb,n,acc,hn=>by
  obtain⟨q,hq⟩:=text_head p
  simp only[textL,List.length_append] at hn
  match n,hn with
  | n+1,hn=>
   have h1:=hb p (by simp) n (textL ps++41::r) (by omega)
   have h2:=parts_back k r ps (fun p' hp'=>hb p' (List.mem_cons_of_mem _ hp')) n (acc++[p]) (by rw[hq] at hn;simp only[List.length_cons] at hn;omega)
   have hs:textL (p::ps)++41::r=40::(q++(textL ps++41::r)):=by rw[textL,hq];simp
   rw[hs,partsF.eq_def]
   simp only[if_true]
   rw[hq] at h1
   rw[List.cons_append] at h1
   rw[h1]
   simp only
   rw[h2]
   simp
theorem read_back (t:FT):t.all=true→∀(n:Nat) (r:List UInt8),(text t).length≤n→readF n (text t++r)=some (t,r):=by
 induction t using FT.induct
 rename_i k a v f l any ps ih
 intro hall n r hn
 rw[all_mk,Bool.and_eq_true] at hall
 obtain⟨hb,hps⟩:=hall
 have hbp:∀p∈ps,∀(n:Nat) (q:List UInt8),(text p).length≤n→readF n (text p++q)=some (p,q):=fun p hp=>ih p hp (List.all_eq_true.1 hps p hp)
 have hnil:∀{x:List UInt8},(x==[])=true→x=[]:=fun h=>by simpa using h
 have simple:∀(body:List UInt8) (hs:simpleF body=some (.mk k a v f l any ps)) (hc:∃c q,body=c::q∧kindF c=none) (h41:41 ∉ body) (ht:text (.mk k a v f l any ps)=40::(body++[41])),readF n (text (.mk k a v f l any ps)++r)=some (.mk k a v f l any ps,r):=by
  intro body hs hc h41 ht
  obtain⟨c,q,rfl,hk⟩:=hc
  rw[ht] at hn ⊢
  simp only[List.length_cons,List.length_append] at hn
  match n,hn with
  | n+1,hn=>
   have:=read_simple (n:=n) (r:=r) hk h41 hs
   simpa using this
 by_cases k012:k=0∨k=1∨k=2
 ·have hz:a=[]∧v=[]∧f=[]∧l=[]∧any=[]:=by
   have hj:(a==[]&&v==[]&&plain0 f l any)=true:=by
    rcases k012 with rfl | rfl | rfl
    ·rw [bare_and _ _ _ _ _ _ _ (.inl rfl)] at hb;exact hb
    ·rw [bare_and _ _ _ _ _ _ _ (.inr rfl)] at hb;exact hb
    ·rw [bare_not,Bool.and_eq_true] at hb;exact hb.1
   unfold plain0 at hj
   simpa[and_assoc] using hj
  obtain⟨rfl,rfl,rfl,rfl,rfl⟩:=hz
  have ht:text (.mk k [] [] [] [] [] ps)=40::(head8 k::textL ps++[41]):=by rw[text,if_pos k012]
  rw[ht] at hn ⊢
  simp only[List.length_cons,List.length_append,List.length_nil] at hn
  match n,hn with
  | n+1,hn=>
   have hk:kindF (head8 k)=some k:=by rcases k012 with rfl | rfl | rfl<;>decide
   have:=parts_back k r ps hbp n [] (by omega)
   rw[readF.eq_def]
   simp only[List.cons_append,if_true,hk,List.append_assoc]
   simpa using this
 by_cases k7:k=7
 ·subst k7
  rw[bare_has] at hb
  simp only[Bool.and_eq_true] at hb
  obtain⟨⟨⟨h1,h2⟩,h3⟩,h4⟩:=hb
  obtain⟨c,q,hc,hl,hal⟩:=attr_parts h1
  unfold plain0 at h3
  simp only[Bool.and_eq_true,beq_iff_eq] at h2 h3
  obtain⟨⟨rfl,rfl⟩,rfl⟩:=h3
  subst h2
  obtain rfl:=List.isEmpty_iff.1 h4
  refine simple (a++[61,42]) (simple_has hal) ⟨c,q++[61,42],by rw[hc];rfl,letter_kind hl⟩ ?_ ?_
  ·have:=sign8_not (b:=41) (by decide) hal
   simp[this]
  ·rw [text,if_neg k012,if_pos rfl]
 by_cases k4:k=4
 ·subst k4
  rw[bare_sub] at hb
  simp only[Bool.and_eq_true] at hb
  obtain⟨⟨⟨⟨⟨⟨h0,h1⟩,h2⟩,h3⟩,h4⟩,_⟩,_⟩:=hb
  obtain⟨c,q,hc,hl,hal⟩:=attr_parts h1
  simp only[beq_iff_eq] at h2
  subst h2
  obtain rfl:=List.isEmpty_iff.1 h4
  have hx:∀x∈any,x≠[]:=fun x hx e=>by
   have:=List.all_eq_true.1 h0 x hx
   rw[e] at this
   simp[fits] at this
  have hp0:plain0 f l any=false:=by simpa using h3
  refine simple (a++[61]++esc f++[42]++any.flatMap (fun x=>esc x++[42])++esc l) (simple_sub hal hp0 hx) ⟨c,_,by rw[hc];rfl,letter_kind hl⟩ ?_ ?_
  ·have n41:=sign8_not (b:=41) (by decide) hal
   have hfl:41 ∉ any.flatMap (fun x=>esc x++[42]):=fun hm=>by
    obtain⟨x,_,hx⟩:=List.mem_flatMap.1 hm
    simp only[List.mem_append,List.mem_singleton] at hx
    rcases hx with hx | hx
    ·exact esc_free x 41 (.inr (.inl rfl)) hx
    ·revert hx;decide
   simp only[List.mem_append,List.mem_singleton,not_or]
   exact⟨⟨⟨⟨⟨n41,by decide⟩,esc_free f 41 (.inr (.inl rfl))⟩,by decide⟩,hfl⟩,esc_free l 41 (.inr (.inl rfl))⟩
  ·rw [text,if_neg k012,if_neg (by omega),if_pos rfl]
 by_cases k3:k=3∨k=5∨k=6∨k=8
 ·rw [bare_val _ _ _ _ _ _ _ k3] at hb
  simp only[Bool.and_eq_true] at hb
  obtain⟨⟨⟨h1,h2⟩,h3⟩,h4⟩:=hb
  obtain⟨c,q,hc,hl,hal⟩:=attr_parts h1
  unfold plain0 at h3
  simp only[Bool.and_eq_true,beq_iff_eq] at h3
  obtain⟨⟨rfl,rfl⟩,rfl⟩:=h3
  obtain rfl:=List.isEmpty_iff.1 h4
  obtain⟨x,e1,_,_,e4⟩:=head_val hal k3
  refine simple (a++sign k++esc v) (simple_val hal k3) ⟨c,q++sign k++esc v,by rw[hc];rfl,letter_kind hl⟩ ?_ ?_
  ·rw [e1]
   simp only[List.mem_append,List.mem_singleton,not_or]
   exact⟨⟨e4,by decide⟩,esc_free v 41 (.inr (.inl rfl))⟩
  ·rw [text,if_neg k012,if_neg k7,if_neg k4]
 ·rw [bare_else _ _ _ _ _ _ _ (by omega)] at hb
  cases hb
end FT
end Go.Proofs.YtaolhefllfnmiaaGreatDoor
namespace Go.Proofs.YtaolhefllfnmiaaGreatDoor
open Go.RowKit Go.Lib
set_option linter.unusedVariables false
def marksT:List (Int × UInt8):=[(5,62),(6,60),(8,126)]
def marksC:List Value:=marksT.flatMap fun e=>[.int .i64 e.1,.string (txt [e.2])]
structure Marks (w:World):Prop where
 var:w.var? Tryz.prog "verger/filter.marks" =some marksC.toArray
theorem Marks.below {w w':World} (h:Marks w) (hb:Below w.heap.size w w'):Marks w':=
 ⟨Joins.var_stays (g:=0) (by kernel_rfl) h.var hb (Nat.le_refl _)⟩
def marksData:DataW Unit:=.agg (marksT.map fun e=>.agg [.lit (.int .i64 e.1),.lit (.string [e.2])])
theorem marks_eq:Rows.laid_verger_filter_marks (H:=Unit)=marksData:=by kernel_rfl
theorem marks_of_laid {W:World} (h:laidMet Tryz.prog laid W):Marks W:=by
 have h':laidMet Tryz.prog (_::_::_::_::_::_::_::_::_::[]) W:=h
 have hr:VarReads Tryz.prog W "verger/filter.marks" marksData:=marks_eq ▸ Lib.laidMet.reads h' (by simp)
 obtain⟨g,t,cs,fuel,p,hg,hty,hvar,hd⟩:=hr
 obtain rfl:=Option.some.inj ((show Tryz.prog.globalNamed "verger/filter.marks" =some 0 by kernel_rfl).symm.trans hg)
 obtain rfl:=Option.some.inj ((show (Tryz.prog.globals[0]?).map (·.type)=some 81 by kernel_rfl).symm.trans hty)
 refine⟨?_⟩
 rw[hvar]
 congr 1
 obtain⟨xs,m,rfl,hx,hl,hxl,hall⟩:=DataW.trod_array Tryz.underlying81 hd
 have hxs:xs.map (·.1)=marksT.map fun e=>(DataW.agg [.lit (.int .i64 e.1),.lit (.string [e.2])]:DataW Unit):=by
  have:=congrArg Prod.fst hx
  simpa[marksData] using this.symm
 have hlen:cs.toList.length=6:=by rw[hl];kernel_rfl
 refine Array.ext' ?_
 refine pairs_ext 3 _ _ hlen (by simp[marksC,marksT]) fun i hi=>?_
 have h1:=hall i hi
 have hc2:Tryz.prog.cellsOf 80=2:=by kernel_rfl
 rw[hc2] at h1
 have hit:i<marksT.length:=by simpa[marksT] using hi
 obtain⟨e,he⟩:∃e,marksT[i]?=some e:=⟨_,List.getElem?_eq_getElem hit⟩
 obtain⟨b,hb⟩:∃b,xs[i]?=some b:=⟨xs[i]'(by omega),List.getElem?_eq_getElem (by omega)⟩
 rw[hb] at h1
 have hb1:b.1=.agg [.lit (.int .i64 e.1),.lit (.string [e.2])]:=by
  have:(xs.map (·.1))[i]?=some b.1:=by simp[hb]
  rw[hxs] at this
  simpa[he] using this.symm
 generalize hcut:(cs.toList.drop (i*2)).take 2=cut at h1
 have hR:(marksC.toArray.toList.drop (i*2)).take 2=[.int .i64 e.1,.string (txt [e.2])]:=by
  have:=flat_take (marksT.map fun e=>[Value.int .i64 e.1,.string (txt [e.2])]) 2 (by intro x hx;obtain⟨e',_,rfl⟩:=List.mem_map.1 hx;rfl) i [.int .i64 e.1,.string (txt [e.2])] (by simp[he])
  simpa[marksC,List.flatMap] using this
 rw[hR]
 obtain⟨ys,n,rfl,hy,hyl,hyl2,hyall⟩:=DataW.trod_struct Tryz.underlying80 h1
 have hys:ys.map (·.1)=[.lit (.int .i64 e.1),.lit (.string [e.2])]:=by
  have:=congrArg Prod.fst hy
  rw[hb1] at this
  simpa using this.symm
 obtain⟨y0,y1,rfl⟩:∃y0 y1,ys=[y0,y1]:=by
  match ys,hys with
  | [y0,y1],_=>exact⟨y0,y1,rfl⟩
 simp only[List.map_cons,List.map_nil,List.cons.injEq,and_true] at hys
 have f0:=hyall 0 _ rfl
 have f1:=hyall 1 _ rfl
 change DataW.trod _ _ _ _ _ _ _ 3 ((cut.drop 0).take (Tryz.prog.cellsOf 3))=some y0 at f0
 change DataW.trod _ _ _ _ _ _ _ 9 ((cut.drop 1).take (Tryz.prog.cellsOf 9))=some y1 at f1
 rw[show Tryz.prog.cellsOf 3=1 by kernel_rfl] at f0
 rw[show Tryz.prog.cellsOf 9=1 by kernel_rfl] at f1
 obtain⟨z,hz,rfl,_⟩:=DataW.trod_int Tryz.underlying3 f0
 obtain⟨s,hs,rfl,_⟩:=DataW.trod_string Tryz.underlying9 f1
 obtain⟨hz1,hs1⟩:=hys
 simp only[DataW.lit.injEq,Lit.string.injEq,Lit.int.injEq,true_and] at hs1 hz1
 have hcl:cut.length=2:=by rw[hyl];kernel_rfl
 rw[two_ext hcl hz hs,hz1,data_cell s [e.2] hs1]
structure FM (w:World):Prop where
 tm:TM w
 marks:Marks w
theorem FM.below {w w':World} (h:FM w) (hb:Below w.heap.size w w'):FM w':=⟨h.tm.below hb,h.marks.below hb⟩
theorem marks_cell {w:World} (hT:Marks w) (j:Nat) (v:Value) (hv:marksC[j]?=some v):w.cell? ⟨0,j,none⟩=some v:=by
 have:=World.var?_cell (show Tryz.prog.globalNamed "verger/filter.marks" =some 0 by kernel_rfl) hT.var j
 rw[this]
 simpa using hv
theorem run_index_marks (C:Array Value) (i:Nat) (hi:i<3) (u v:Value) (hc:(C.toList.drop (i*2)).take 2=[u,v]) (w:World):
  (Instr.index 81 (.agg C) (.int .i64 (i:Int))).run Tryz.prog w=.ok (.agg #[u,v]) w:=by
 have hn:(0:Int)≤(i:Int)∧(i:Int)<3:=by omega
 have hI:(Tryz.prog.info? 80).map (·.size)=some 2:=by kernel_rfl
 have hS:=Tryz.underlying80
 have hA:=Tryz.underlying81
 cases hq:Tryz.prog.info? 80 with
 | none=>simp[hq] at hI
 | some inf=>
  have hs:inf.size=2:=by simpa[hq] using hI
  simp[Instr.index,run_underlying hA,run_underlying hS,asIntOf,hn,sizeOf,typeInfo,hq,hs,isAgg,go_sem]
  rw[if_pos hi]
  have e:C.extract (i*2) (i*2+2)=#[u,v]:=by
   refine Array.ext' ?_
   rw[Array.toList_extract]
   simp only[List.extract]
   rw[show i*2+2-i*2=2 by omega,hc]
  rw[e]
theorem marks_run {C:Array Value} (hC:marksC.toArray=C) {i:Nat} {k:Int} {c:UInt8} (h:marksT[i]?=some (k,c)) (w:World):
  (Instr.index 81 (.agg C) (.int .i64 (i:Int))).run Tryz.prog w=.ok (.agg #[.int .i64 k,.string (txt [c])]) w:=by
 have hi:i<3:=by simpa[marksT] using (List.getElem?_eq_some_iff.1 h).1
 refine run_index_marks C i hi _ _ ?_ w
 rw[←hC]
 have:=flat_take (marksT.map fun e=>[Value.int .i64 e.1,.string (txt [e.2])]) 2 (by intro x hx;obtain⟨e',_,rfl⟩:=List.mem_map.1 hx;rfl) i [.int .i64 k,.string (txt [c])] (by simp[h])
 simpa[marksC,List.flatMap] using this
theorem marks_mem {i:Nat} {e:Int × UInt8} (h:marksT[i]?=some e):e=(5,62)∨e=(6,60)∨e=(8,126):=by
 have:=List.mem_of_getElem? h
 simpa[marksT] using this
theorem suffix_one (l:List UInt8) (c:UInt8):Lib.hasSuffix l [c]=decide (l.getLast?=some c):=by
 unfold Lib.hasSuffix
 rw[Bool.eq_iff_iff,List.isSuffixOf_iff_suffix,decide_eq_true_eq]
 constructor
 ·rintro ⟨t,rfl⟩;simp
 ·intro h
  obtain⟨t,rfl⟩:=List.getLast?_eq_some_iff.1 h
  exact⟨t,rfl⟩
theorem head_hit {h:List UInt8} {i:Nat} {k:Int} {c:UInt8} (hm:marksT[i]?=some (k,c)) (hl:h.getLast?=some c):FT.headF h=(k,h.dropLast):=by
 unfold FT.headF
 rw[hl]
 rcases marks_mem hm with e | e | e<;>cases e<;>rfl
theorem head_miss {h:List UInt8} (hm:∀e∈marksT,h.getLast?≠some e.2):FT.headF h=(3,h):=by
 unfold FT.headF
 rw[if_neg (hm (5,62) (by simp[marksT])),if_neg (hm (6,60) (by simp[marksT])),if_neg (hm (8,126) (by simp[marksT]))]
theorem jhead_any (h:List UInt8) (hh:h.length≤1000000) (w:World) (hT:Marks w):Calls Tryz.prog 65 #[.string (txt h)] w fun e w'=>e=.returned (.tuple #[.int .i64 (FT.headF h).1,.string (txt (FT.headF h).2)])∧Below w.heap.size w w':=by
 have hi6:Hid ((Tryz.prog.info? 81).map (·.size)=some marksC.length):=hide (by kernel_rfl)
 have hc:w.rangeAt 0 0 marksC:=fun j v hv=>by rw[Nat.zero_add];exact marks_cell hT j v hv
 obtain⟨C,hC⟩:∃C,marksC.toArray=C:=⟨_,rfl⟩
 replace hC:=hide hC
 have hld:∀{ops:Array Oper} {rest:List Oper} {op:Oper} {a:Act} {Q:Exit→Act→World→Prop},op.guard=none→op.op=.load 81 (.global 0)→
   wpList Tryz.prog ops Q rest (a.put op.dst (.agg C)) w→wpList Tryz.prog ops Q (op::rest) a w:=by
  intro ops rest op a Q h1 h2 h3
  refine wpList_load_mid h1 _ _ h2 0 0 rfl marksC _ hc Tryz.underlying81 rfl hi6.out ?_
  rw[hC.out];exact h3
 clear hi6 hc
 obtain⟨R1,hR1⟩:∃R1,(FT.headF h).1=R1:=⟨_,rfl⟩
 obtain⟨R2,hR2⟩:∃R2,txt (FT.headF h).2=R2:=⟨_,rfl⟩
 rw[hR1,hR2]
 have HR:=hide (show Value.tuple #[.int .i64 R1,.string R2]=.tuple #[.int .i64 (FT.headF h).1,.string (txt (FT.headF h).2)] by rw[hR1,hR2])
 have hcs:=fun (c:UInt8) w=>Tryz.strings_CutSuffix (txt h) (txt [c]) w (by rw[txt_size];omega)
 simp only[txt_toList,suffix_one] at hcs
 have HCs:=hide hcs
 have HCa:=hide (fun (l:List UInt8) (hl:l.length≤1000000) w=>clone_any (txt l) (by rw[txt_size];omega) w)
 have Hhl:=hide hh
 obtain⟨H0,hH0⟩:∃H0,txt h=H0:=⟨_,rfl⟩
 have HH0:=hide hH0
 rw[hH0] at HCs ⊢
 clear hR1 hR2 hcs hH0 hh
 go_enter Tryz.func65,Tryz.ntmps65
 go_wp2_with (refine hld rfl rfl ?_)
 clear hld
 go_loopg [9] 3 (fun r s9 wx=>∃i:Nat,i+r=3∧s9=.int .i64 (i:Int)∧Below w.heap.size w wx∧Hid (∀e∈marksT.take i,h.getLast?≠some e.2))
 case atStart=>exact⟨0,by omega,rfl,Below.refl _ _,hide (fun e he=>by simp at he)⟩
 case round=>
  obtain⟨i,hig,rfl,hb,hpre⟩:=hrel
  cases gk with
  | zero=>
   obtain rfl:i=3:=by omega
   have hr:Hid (Value.tuple #[.int .i64 R1,.string R2]=.tuple #[.int .i64 3,.string H0]):=hide (by rw[HR.out,head_miss (fun e he=>hpre.out e he),HH0.out])
   have hcl:=fun w=>HCa.out h Hhl.out w
   rw[HH0.out] at hcl
   have HCl:=hide hcl
   clear hpre HR hC HCs HCa hcl HH0
   go_wp2_with (go_at_call 90;fail)
   refine (HCl.out _).mono ?_
   rintro e w5 ⟨rfl,hb5⟩
   have hb6:=hb.trans (hb5.mono hb.size)
   go_wp2
   go_ret2
   exact⟨by rw[hr.out];try rfl,hb6⟩
  | succ r=>
   have hi:i<3:=by omega
   have hiz:(i:Int)<3:=by omega
   obtain⟨⟨kd,c⟩,he⟩:∃e,marksT[i]?=some e:=⟨_,List.getElem?_eq_getElem hi⟩
   have hx:=fun w=>marks_run hC.out he w
   have hcs:=fun w=>HCs.out c w
   obtain⟨tx,htx⟩:∃tx,txt [c]=tx:=⟨_,rfl⟩
   rw[htx] at hx hcs
   have hyes:h.getLast?=some c→Hid (Value.tuple #[.int .i64 R1,.string R2]=.tuple #[.int .i64 kd,.string (txt h.dropLast)]):=fun hl=>hide (by rw[HR.out,head_hit he hl])
   have hno:h.getLast?≠some c→Hid (∀e∈marksT.take (i+1),h.getLast?≠some e.2):=fun hl=>hide (fun y hy=>by
    rw[List.take_add_one,he] at hy
    simp only[Option.toList_some,List.mem_append,List.mem_singleton] at hy
    rcases hy with hy | rfl
    ·exact hpre.out y hy
    ·exact hl)
   have HYes:=hide hyes
   have HNo:=hide hno
   clear hyes hno hpre he htx HR
   have hbn:=below1 wr (.cells #[.int .i64 kd,.string tx] 80)
   have q0:(wr.alloc (.cells #[.int .i64 kd,.string tx] 80)).cell? ⟨wr.heap.size,0,none⟩=some (.int .i64 kd):=by rw[World.cell?_alloc_at (hn:=by simp)];rfl
   have q1:(wr.alloc (.cells #[.int .i64 kd,.string tx] 80)).cell? ⟨wr.heap.size,1,none⟩=some (.string tx):=by rw[World.cell?_alloc_at (hn:=by simp)];rfl
   obtain⟨wp,hwp⟩:∃wp,wr.alloc (.cells #[.int .i64 kd,.string tx] 80)=wp:=⟨_,rfl⟩
   have hltp:wr.heap.size<wp.heap.size:=by rw[←hwp];simp
   rw[hwp] at hbn q0 q1
   have hbp:=hide (hb.trans (hbn.mono hb.size))
   have Hwp:=hide hwp
   clear hwp hbn
   go_upto_region 4 with fail
   rw[Hwp.out]
   obtain⟨bp,hbpe⟩:∃bp,wr.heap.size=bp:=⟨_,rfl⟩
   rw[hbpe] at q0 q1 hltp ⊢
   clear hbpe
   by_cases hl:h.getLast?=some c
   ·have hr:=HYes.out hl
    have htr:Lib.trimSuffix h [c]=h.dropLast:=by
     unfold Lib.trimSuffix
     rw[suffix_one,decide_eq_true hl,if_pos rfl,List.dropLast_eq_take];rfl
    rw[htr,decide_eq_true hl] at hcs
    have hcl:=fun w=>HCa.out h.dropLast (by rw[List.length_dropLast];have:=Hhl.out;omega) w
    obtain⟨TD,hTD⟩:∃TD,txt h.dropLast=TD:=⟨_,rfl⟩
    have hTD2:(⟨h.dropLast.toArray⟩:ByteArray)=TD:=hTD
    rw[hTD] at hr hcl
    rw[hTD2] at hcs
    have HCl:=hide hcl
    have HCx:=hide hcs
    clear HYes HNo hl hx hC Hwp htr hcs HCs HCa hcl hTD hTD2 HH0
    go_wp2_with (go_at_call 89;fail)
    refine (HCx.out _).mono ?_
    rintro e w9 ⟨rfl,hw9⟩
    obtain rfl:=hw9.symm
    clear hw9
    go_wp2_with fail
    have hbd:Below wp.heap.size wp wp.drew:=(Below.refl _ _).drew
    have hbc:=hbp.out.trans (hbd.mono hbp.out.size)
    replace q0:=(hbd.cell (p:=⟨bp,0,none⟩) hltp).trans q0
    replace hltp:=Nat.lt_of_lt_of_le hltp hbd.size
    clear hbd q1
    refine grow_begin (by kernel_rfl) ?_
    generalize wp.drew=wd at *
    refine grow_take 0 (some 20) (v:=?vh0) rfl rfl (by kernel_rfl) (by kernel_rfl) (by kernel_rfl) (fun _ _ _ h=>h) (by rfl) (fun W hW=>?yh0) ?_
    case yh0=>
     go_simp<;>with_reducible rfl
    simp only[Act.put,List.setIfInBounds_toArray,List.set_cons_zero,List.set_cons_succ]
    refine grow_take 1 (some 21) (v:=?vh1) rfl rfl (by kernel_rfl) (by kernel_rfl) (by kernel_rfl) (fun _ _ _ h=>h) (by rfl) (fun W hW=>?yh1) ?_
    case yh1=>
     have q0w:=(hW.cell (p:=⟨bp,0,none⟩) hltp).trans q0
     go_simp<;>with_reducible rfl
    simp only[Act.put,List.setIfInBounds_toArray,List.set_cons_zero,List.set_cons_succ]
    refine grow_take 2 (some 22) (v:=?vh2) rfl rfl (by kernel_rfl) (by kernel_rfl) (by kernel_rfl) (fun _ _ _ h=>h) (by rfl) (fun W hW=>?yh2) ?_
    case yh2=>
     go_simp<;>with_reducible rfl
    simp only[Act.put,List.setIfInBounds_toArray,List.set_cons_zero,List.set_cons_succ]
    refine grow_only 3 rfl (by kernel_rfl) (fun K hK=>?_)
    go_simp
    refine (HCl.out _).mono ?_
    rintro e w5 ⟨rfl,hb5⟩
    refine hK.out _ _ hb5 ?_
    clear hK K
    have hb6:=hbc.trans (hb5.mono hbc.size)
    try simp only[Act.put,List.setIfInBounds_toArray,List.set_cons_zero,List.set_cons_succ]
    refine grow_take 4 (some 2) (v:=?vh4) rfl rfl (by kernel_rfl) (by kernel_rfl) (by kernel_rfl) (fun _ _ _ h=>h) (by rfl) (fun W hW=>?yh4) ?_
    case yh4=>
     go_simp<;>with_reducible rfl
    simp only[Act.put,List.setIfInBounds_toArray,List.set_cons_zero,List.set_cons_succ]
    refine grow_take 5 (some 3) (v:=?vh5) rfl rfl (by kernel_rfl) (by kernel_rfl) (by kernel_rfl) (fun _ _ _ h=>h) (by rfl) (fun W hW=>?yh5) ?_
    case yh5=>
     go_simp<;>with_reducible rfl
    simp only[Act.put,List.setIfInBounds_toArray,List.set_cons_zero,List.set_cons_succ]
    refine grow_done (by kernel_rfl) ?_ _
    go_wp2
    go_ret2
    exact⟨by rw[hr.out];try rfl,hb6⟩
   ·have hst:=HNo.out hl
    rw[decide_eq_false hl] at hcs
    obtain⟨TD,hTD⟩:∃TD,(⟨(Lib.trimSuffix h [c]).toArray⟩:ByteArray)=TD:=⟨_,rfl⟩
    rw[hTD] at hcs
    have HCx:=hide hcs
    clear HYes HNo hl hx Hwp hcs hTD
    have hb3:=hbp.out
    go_wp2_with (go_at_call 89;fail)
    refine (HCx.out _).mono ?_
    rintro e w9 ⟨rfl,hw9⟩
    obtain rfl:=hw9.symm
    clear hw9
    go_wp2
    go_roundg r
    case measure=>omega
    case rel=>exact⟨i+1,by omega,by go_num,hb3,hst⟩
end Go.Proofs.YtaolhefllfnmiaaGreatDoor
namespace Go.Proofs.YtaolhefllfnmiaaGreatDoor
open Go.RowKit
set_option linter.unusedVariables false
theorem mark_fin:∀j:Fin 256,FT.marked (UInt8.ofNat j.val)=(decide (j.val<32)||decide (126<j.val)||decide (0≤Lib.indexByte [42,40,41,92] (UInt8.ofNat j.val))):=by decide+kernel
theorem marked_is (c:UInt8):FT.marked c=(decide (c.toNat<32)||decide (126<c.toNat)||decide (0≤Lib.indexByte [42,40,41,92] c)):=by
 have:=mark_fin ⟨c.toNat,c.toNat_lt⟩
 simpa using this
theorem jneeds_any (c:UInt8) (w:World):Calls Tryz.prog 81 #[.int .u8 (c.toNat:Int)] w fun e w'=>e=.returned (.bool (FT.marked c))∧w'=w:=by
 have hI:=fun w=>Tryz.strings_IndexByte ⟨#[42,40,41,92]⟩ (c.toNat:Int) w
 have e1:((c.toNat:Int)).toNat.toUInt8=c:=by simp
 rw[e1,show (⟨#[42,40,41,92]⟩:ByteArray).data.toList=[42,40,41,92] from rfl] at hI
 have hm:=marked_is c
 have hge:=Lib.indexByte_ge [42,40,41,92] c
 have hlt:=c.toNat_lt
 obtain⟨I,hIv⟩:∃I,Lib.indexByte [42,40,41,92] c=I:=⟨_,rfl⟩
 obtain⟨R,hR⟩:∃R,FT.marked c=R:=⟨_,rfl⟩
 rw[hIv] at hI hm
 rw[hR] at hm ⊢
 clear hIv hR hge e1
 generalize c.toNat=x at *
 by_cases h1:x<32
 ·have z1:(x:Int)<32:=by omega
  rw[decide_eq_true h1] at hm
  have hr:=hide hm
  clear hm h1 hI
  go_enter Tryz.func81,Tryz.ntmps81
  go_wp2
  go_ret
  exact⟨by rw[hr.out];try rfl,rfl⟩
 have z1:¬((x:Int)<32):=by omega
 rw[decide_eq_false h1,Bool.false_or] at hm
 by_cases h2:126<x
 ·have z2:(126:Int)<(x:Int):=by omega
  rw[decide_eq_true h2] at hm
  have hr:=hide hm
  clear hm h1 h2 hI
  go_enter Tryz.func81,Tryz.ntmps81
  go_wp2
  go_ret
  exact⟨by rw[hr.out];try rfl,rfl⟩
 have z2:¬((126:Int)<(x:Int)):=by omega
 rw[decide_eq_false h2,Bool.false_or] at hm
 have hr:=hide hm
 clear hm h1 h2
 go_enter Tryz.func81,Tryz.ntmps81
 go_wp2_with (go_at_call 44;fail)
 refine (hI _).mono ?_
 rintro e w9 ⟨rfl,hw9⟩
 obtain rfl:=hw9.symm
 clear hw9 hI
 by_cases q:(0:Int)≤I
 ·have q2:=decide_eq_true q
  rw[q2] at hr
  clear q2
  go_wp2
  go_ret
  exact⟨by rw[hr.out];try rfl,rfl⟩
 ·have q2:=decide_eq_false q
  rw[q2] at hr
  go_wp2
  go_ret
  exact⟨by rw[hr.out];try rfl,rfl⟩
theorem jbyte_any (s:ByteArray) (hs:s.size≤1000000) (h0:1≤s.size) (w:World) (hT:Tabs w):
  Calls Tryz.prog 92 #[.string s] w fun e w'=>e=.returned (.tuple #[.int .u8 ((FT.byteF s.data.toList).1.toNat:Int),.int .i64 ((FT.byteF s.data.toList).2:Int)])∧Below w.heap.size w w':=by
 have hL:=Lib.size_eq s
 have hat:∀(i:Nat) (hi:i<s.size),s.data.toList[i]?=some s[i]:=fun i hi=>Lib.data_getElem? s i hi
 have hex:=fun i j=>ext_txt s i j
 generalize hl:s.data.toList=l at *
 replace hl:=hide hl
 cases l with
 | nil=>simp only[List.length_nil] at hL;omega
 | cons c r=>
  have hi0:0<s.size:=by omega
  have hx0:s[0]'hi0=c:=by have:=hat 0 hi0;simpa using this.symm
  have z0:((0:Int)<(s.size:Int)):=by omega
  by_cases h92:c=92
  ·subst h92
   have e1:(((s[0]'hi0).toNat:Int)==92)=true:=by rw[hx0];rfl
   have e2:(((s[0]'hi0).toNat:Int)!=92)=false:=by unfold bne;rw[e1];rfl
   simp only[List.length_cons] at hL
   cases r with
   | nil=>
    have hv:FT.byteF [92]=(0,0):=rfl
    have z2:((s.size:Int)<3):=by simp at hL;omega
    rw[hv]
    clear hat hex hL hv hx0
    go_enter Tryz.func92,Tryz.ntmps92
    go_wp2
    go_ret2
    exact⟨rfl,Below.refl _ _⟩
   | cons d r2=>
   cases r2 with
   | nil=>
    have hv:FT.byteF [92,d]=(0,0):=rfl
    have z2:((s.size:Int)<3):=by simp at hL;omega
    rw[hv]
    clear hat hex hL hv hx0
    go_enter Tryz.func92,Tryz.ntmps92
    go_wp2
    go_ret2
    exact⟨rfl,Below.refl _ _⟩
   | cons e q=>
    simp only[List.length_cons] at hL
    have z2:¬((s.size:Int)<3):=by omega
    have z3:((3:Int)≤(s.size:Int)):=by omega
    obtain⟨X,hX⟩:∃X,s.extract 1 3=X:=⟨_,rfl⟩
    have hXd:X.data.toList=[d,e]:=by rw[←hX,hex,txt_toList];rfl
    cases hh:hex2 d e with
    | some n=>
     have hv:FT.byteF (92::d::e::q)=(UInt8.ofNat n,3):=by simp[FT.byteF,hh]
     have hn:n<256:=by
      unfold hex2 at hh
      cases ha:hexV d with
      | none=>rw[ha] at hh;cases hh
      | some a=>
       cases hb:hexV e with
       | none=>rw[ha,hb] at hh;cases hh
       | some b=>
        rw[ha,hb] at hh
        have:=hexV_lt ha
        have:=hexV_lt hb
        simp at hh
        omega
     have hU:=fun w=>uint_yes X d e hXd n hh w
     have hc:IntKind.u8.wrap (n:Int)=((UInt8.ofNat n).toNat:Int):=by
      rw[IntKind.wrap_u8,UInt8.toNat_ofNat']
      omega
     rw[hv]
     simp only
     generalize UInt8.ofNat n=y at *
     clear hat hex hL hv hXd hh hn hx0
     go_enter Tryz.func92,Tryz.ntmps92
     go_wp2_with (go_at_call 113;fail)
     refine (hU _).mono ?_
     rintro e w1 ⟨rfl,hb⟩
     go_wp2
     go_ret2
     exact⟨rfl,hb⟩
    | none=>
     have hv:FT.byteF (92::d::e::q)=(0,0):=by simp[FT.byteF,hh]
     have hU:=fun w hT=>uint_no X d e hXd hh w hT
     rw[hv]
     simp only
     clear hat hex hL hv hXd hh hx0
     go_enter Tryz.func92,Tryz.ntmps92
     go_wp2_with (go_at_call 113;fail)
     refine (hU _ hT).mono ?_
     rintro e w1 ⟨N,rfl,hb⟩
     unfold badV
     go_wp2
     go_ret2
     exact⟨rfl,hb⟩
  ·have e1:(((s[0]'hi0).toNat:Int)==92)=false:=by rw[hx0];exact ne8 (k:=92) (by omega) h92
   have e2:(((s[0]'hi0).toNat:Int)!=92)=true:=by unfold bne;rw[e1];rfl
   cases hm:FT.marked c with
   | true=>
    have hv:FT.byteF (c::r)=(0,0):=by simp[FT.byteF,h92,hm]
    have hne:=fun w=>jneeds_any (s[0]'hi0) w
    rw[hx0,hm] at hne
    rw[hv]
    rw[←hx0] at hne
    clear hat hex hL hv hx0 h92
    go_enter Tryz.func92,Tryz.ntmps92
    go_wp2_with (go_at_call 81;fail)
    refine (hne _).mono ?_
    rintro e w9 ⟨rfl,hw9⟩
    obtain rfl:=hw9.symm
    go_wp2
    go_ret2
    exact⟨rfl,Below.refl _ _⟩
   | false=>
    have hv:FT.byteF (c::r)=(c,1):=by simp[FT.byteF,h92,hm]
    have hne:=fun w=>jneeds_any (s[0]'hi0) w
    rw[hx0,hm] at hne
    rw[←hx0] at hne
    rw[hv,←hx0]
    simp only
    clear hat hex hL hv hx0 h92
    go_enter Tryz.func92,Tryz.ntmps92
    go_wp2_with (go_at_call 81;fail)
    refine (hne _).mono ?_
    rintro e w9 ⟨rfl,hw9⟩
    obtain rfl:=hw9.symm
    go_wp2
    go_ret2
    exact⟨rfl,Below.refl _ _⟩
theorem jvalue_any (s:ByteArray) (hs:s.size≤1000000) (w:World) (hT:Tabs w):
  Calls Tryz.prog 67 #[.string s] w fun e w'=>e=.returned (.tuple #[.string (txt ((FT.valF s.data.toList).getD [])),.bool (FT.valF s.data.toList).isSome])∧Below w.heap.size w w':=by
 have hL:=Lib.size_eq s
 have hself:txt s.data.toList=s:=(data_cell s _ rfl).symm
 generalize hl:s.data.toList=l at *
 obtain⟨R,hR0⟩:∃R,FT.valF l=R:=⟨_,rfl⟩
 rw[hR0]
 have hRf:=hide hR0
 have hst:Hid (FT.ValAt l [] l):=hide (FT.ValAt.start l)
 have hll:l.length≤1000000:=by omega
 have hsl:Hid (s=txt l):=hide hself.symm
 obtain⟨w1,hmake,hown,hb⟩:=make8 w s.size (by omega)
 clear hR0 hself
 replace hl:=hide hl
 have hln:=hide hL
 clear hL
 go_enter Tryz.func67,Tryz.ntmps67
 go_wp2
 go_loopg [4,5] l.length (fun k s4 s5 wx=>∃(q:ByteArray) (o:List UInt8),q.size=k∧s5=.string q∧o.length+k≤l.length∧Hid (FT.ValAt l o q.data.toList)∧wx.ownsRow w.heap.size 5 1 s4 o.length (bys o)∧Below w.heap.size w wx)
 case atStart=>
  refine⟨s,[],hln.out,rfl,by simp,?_,hown,hb⟩
  rw[hsl.out,txt_toList]
  exact hst
 case round=>
  obtain⟨q,o,hq,rfl,hol,hC,hor,hbr⟩:=hrel
  clear hmake hown hb hst hsl hl hln
  have hqs:=Lib.size_eq q
  cases gk with
  | zero=>
   have hq0:q.data.toList=[]:=List.eq_nil_of_length_eq_zero (by omega)
   have hqe:q.toList.isEmpty=true:=by rw[Lib.toList_data,hq0];rfl
   have hRo:Hid (R=some o):=hide (by
    have:=hC.out
    rw[hq0] at this
    rw[←hRf.out]
    exact this.done)
   obtain⟨A,c,rfl,hnc,hHas⟩:=own_form hor
   have htx:=txt8 wr c hHas
   clear hHas hor hC hq0 hqs hq hRf
   go_wp2
   go_ret2
   exact⟨by rw[hRo.out];rfl,hbr⟩
  | succ k=>
   have hqn:q.data.toList≠[]:=fun h=>by rw[h] at hqs;simp only[List.length_nil] at hqs;omega
   have hqe:q.toList.isEmpty=false:=by rw[Lib.toList_data];simpa using hqn
   have hS:=FT.val_step hqn
   have hB:=fun w hT=>jbyte_any q (by omega) (by omega) w hT
   have hTr:=hT.below hbr
   have hol2:=hide hol
   clear hol
   cases hS with
   | none x b rq=>
    have hRo:Hid (R=none):=hide (by rw[←hRf.out];exact hC.out.none rq)
    rw[b] at hB
    simp only at hB
    clear hC rq hqn hqs hq hRf b hor
    go_wp2_with (go_at_call 92;fail)
    refine (hB _ hTr).mono ?_
    rintro e w2 ⟨rfl,hb2⟩
    have hb3:=hide (hbr.trans (hb2.mono hbr.size))
    clear hb2 hB
    go_wp2
    go_ret2
    exact⟨by rw[hRo.out];rfl,hb3.out⟩
   | go x j b h0 h1 rq=>
    rw[b] at hB
    simp only at hB
    have hj0:((j:Int)==0)=false:=beq_false_of_ne (by omega)
    have hj:j≤q.size:=by omega
    have hjz:(j:Int)≤(q.size:Int):=by omega
    obtain⟨X,hX⟩:∃X,q.extract j (k+1)=X:=⟨_,rfl⟩
    have hXd:X.data.toList=q.data.toList.drop j:=by
     rw[←hX,←hq,Lib.extract_data,List.take_of_length_le]
     rw[List.length_drop];omega
    have hXs:X.size=q.size-j:=by rw[Lib.size_eq,hXd,List.length_drop,←hqs]
    have hnext:Hid (FT.ValAt l (o++[x]) X.data.toList):=hide (by rw[hXd];exact hC.out.more rq)
    clear hC rq hqn hqs hRf b hXd
    go_wp2_with (go_at_call 92;fail)
    refine (hB _ hTr).mono ?_
    rintro e w2 ⟨rfl,hb2⟩
    have hor2:=own_below hor hb2
    have hb3:=hide (hbr.trans (hb2.mono hbr.size))
    clear hb2 hB hor hbr
    have hone:(w2.alloc (.cells #[.int .u8 (x.toNat:Int)] 5)).ownsRow w2.heap.size 5 1 (.slice (some ⟨w2.heap.size,0,none⟩) 1 1) 1 (bys [x]):=one8 w2 x
    have hH:=Has.own hone
    have hor1:=hor2.alloc (.cells #[.int .u8 (x.toNat:Int)] 5)
    have hbr1:=hb3.out.alloc hb3.out.size (.cells #[.int .u8 (x.toNat:Int)] 5)
    have hs1:=hbr1.size
    clear hone hor2 hb3
    go_wp2_with (at_builtin;go_must (refine app8 _ rfl (.tmp 21) (.tmp 23) rfl w.heap.size _ _ o rfl hor1 _ _ 1 1 [x] rfl hH (by have:=hol2.out;omega) hs1 ?_))
    intro v' w3 hown3 hb5 _
    have hb6:=hbr1.trans hb5
    clear hor1 hbr1 hs1 hH hb5
    go_wp2
    go_roundg (k+1-j)
    case measure=>omega
    case rel=>exact⟨X,o++[x],by omega,rfl,by simp only[List.length_append,List.length_singleton];have:=hol2.out;omega,hnext,by simpa using hown3,hb6⟩
end Go.Proofs.YtaolhefllfnmiaaGreatDoor
