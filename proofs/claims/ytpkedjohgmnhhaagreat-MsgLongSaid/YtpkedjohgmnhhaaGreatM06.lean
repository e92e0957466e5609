/- Several texts in one: LGoodF, Base8, HTree, HNew, GrowL. By an AI agent. -/
import Derived.Test.YtpkedjohgmnhhaaGreatM05
import Derived.Test.YtpkedjohgmnhhaaGreatSeat
import Derived.Deep.LoopGhost
import Derived.Deep.QuietTactic
import Derived.BigQuiet
import Derived.Handy
import Derived.Deep.CutRange
import Derived.Deep.CutBlock
import Derived.Laws.MakeOwn
import Derived.Laws.ResultCell
import Derived.Lib.Strings
import Derived.Lib.IndexBytes
import Derived.Deep.WholeRow
import Derived.Deep.RegionWith
import Derived.WalkLawsBesides
import Derived.Shelf.Abstract
import Derived.Test.YtpkedjohgmnhhaaGreatHMath
import Derived.Deep.MidRow
import Derived.Laws.IdiomCopy
import Derived.Test.YtpkedjohgmnhhaaGreatGrow
namespace Go.Proofs.YtpkedjohgmnhhaaGreat
open Go.RowKit
open Wr
set_option linter.unusedVariables false
theorem Good.mono {α:Type} {p:Rdr α} {ok ok':α→Prop} {xs xs':α→List Fd} (h:Good p ok xs) (ho:∀x,ok x→ok' x) (hx:∀x,ok x→flen (xs' x)≤flen (xs x)):Good p ok' xs':=fun F x G hl hp=>by
 have a:=h F x G hl hp
 have:=hx x a.1
 exact⟨ho x a.1,by omega⟩
theorem piece_good (t:UInt8):Good (Rd.pieceR t) (fun s=>s≠[]∧s.length≤1000) (fun s=>[(t,s)]):=fun F x G hl h=>by
 unfold Rd.pieceR at h
 cases ht:Rd.taggedR t F with
 | none=>rw[ht] at h;cases h
 | some q=>
  obtain⟨s,r⟩:=q
  rw[ht] at h
  cases s with
  | nil=>cases h
  | cons y s=>
   cases h
   have:=tagged_good t F _ _ hl ht
   exact⟨⟨by simp,this.1⟩,this.2⟩
theorem opt_good (t:UInt8):Good (Rd.optR t) (fun s=>s.length≤1000) (optF t):=fun F x G hl h=>by
 unfold Rd.optR at h
 split at h
 ·have a:=piece_good t F x G hl h
  refine⟨a.1.2,?_⟩
  unfold optF
  rw[if_neg a.1.1]
  exact a.2
 ·cases h
  exact⟨by simp,by simp[optF,flen_nil]⟩
theorem anyGo_good:∀(n:Nat) (F:List Fd) (acc l:List (List UInt8)) (G:List Fd),flen F≤16384→Rd.anyGo n F acc=some (l,G)→∃r,l=acc++r∧flen (r.map anyF)+flen G≤flen F
 | 0,F,acc,l,G,hl,h=>by
  unfold Rd.anyGo at h
  split at h
  ·cases h
  ·cases h;exact⟨[],by simp,by simp[flen_nil]⟩
 | n+1,F,acc,l,G,hl,h=>by
  rw[Rd.anyGo] at h
  split at h
  ·cases h1:Rd.pieceR 0x81 F with
   | none=>rw[h1] at h;cases h
   | some z=>
    obtain⟨x,K⟩:=z
    rw[h1] at h
    simp only at h
    have a:=piece_good 0x81 _ x K hl h1
    obtain⟨r,e,h3⟩:=anyGo_good n K _ l G (by omega) h
    refine⟨x::r,by rw[e];simp,?_⟩
    have h4:=a.2
    rw[List.map_cons,flen_cons]
    simp only[flen_cons,flen_nil,anyF] at h4 ⊢
    omega
  ·cases h;exact⟨[],by simp,by simp[flen_nil]⟩
theorem any_good:Good Rd.anyR (fun _=>True) (fun l=>l.map anyF):=fun F x G hl h=>by
 obtain⟨r,e,h1⟩:=anyGo_good _ F [] x G hl h
 rw[List.nil_append] at e
 subst e
 exact⟨trivial,h1⟩
theorem pieces_good:Good Rd.piecesR (fun _=>True) (fun p=>optF 0x80 p.1++(p.2.1.map anyF++optF 0x82 p.2.2)):=
 and_good (xs:=fun (a:List UInt8 × List (List UInt8))=>optF 0x80 a.1++a.2.map anyF) (and_good (opt_good 0x80) any_good (ok:=fun _=>True) (zs:=fun (a:List UInt8 × List (List UInt8))=>optF 0x80 a.1++a.2.map anyF) (fun _ _ _ _=>trivial) (fun x y=>by simp only[flen_app];omega)) (opt_good 0x82) (fun _ _ _ _=>trivial)
  (fun x y=>by simp only[flen_app];omega)
def g4:FT→List Fd | .mk k a v f l an ps=>[textF a,(0x30,enc (optF 0x80 f++(an.map anyF++optF 0x82 l)))]
def g3:FT→List Fd | .mk k a v f l an ps=>[textF a,textF v]
theorem fieldOf_tag (t t':UInt8) (c:List UInt8):(Ber.fieldOf t c).length=(Ber.fieldOf t' c).length:=by rw[Ber.fieldOf_length,Ber.fieldOf_length]
theorem filter_good:∀d,Good (Rd.filterR d) (fun _=>True) (fun t=>[filterF t])
 | 0=>fun F x G hl h=>by cases h
 | d+1=>fun F x G hl h=>by
  have ih:=filter_good d
  refine⟨trivial,?_⟩
  cases F with
  | nil=>cases h
  | cons f r=>
   obtain⟨t,c⟩:=f
   rw[Rd.filterR] at h
   simp only at h
   by_cases h7:t=0x87
   ·rw [if_pos h7] at h
    cases ht:Rd.taggedR t ((t,c)::r) with
    | none=>rw[ht] at h;cases h
    | some q=>
     obtain⟨s,K⟩:=q
     rw[ht] at h
     cases h
     have a:=tagged_good t _ s _ hl ht
     have e:(filterF (.mk 7 s [] [] [] [] []))=(0x87,s):=by simp[filterF,filterG]
     simp only[flen_cons,flen_nil,e] at a ⊢
     have:=fieldOf_tag t 0x87 s
     omega
   ·rw [if_neg h7] at h
    by_cases h0:t=0xa0∨t=0xa1∨t=0xa2
    ·rw [if_pos h0] at h
     have hg:Good (fun G=>(Rd.manyR (Rd.filterR d) G).map fun p=>(FT.mk ((t.toNat:Int)-160) [] [] [] [] [] p.1,p.2)) (fun x=>∃ps,x=FT.mk ((t.toNat:Int)-160) [] [] [] [] [] ps) (fun x=>x.parts.map filterF):=fun F x G hl h=>by
      replace h:(Rd.manyR (Rd.filterR d) F).map (fun p=>(FT.mk ((t.toNat:Int)-160) [] [] [] [] [] p.1,p.2))=some (x,G):=h
      cases hm:Rd.manyR (Rd.filterR d) F with
      | none=>rw[hm] at h;cases h
      | some q=>
       obtain⟨ps,K⟩:=q
       rw[hm] at h
       cases h
       exact⟨⟨ps,rfl⟩,(many_good ih F ps _ hl hm).2⟩
     have a:=inner_good t hg _ x G hl h
     obtain⟨⟨ps,rfl⟩,a2⟩:=a
     have e:(filterF (FT.mk ((t.toNat:Int)-160) [] [] [] [] [] ps)).2=enc (ps.map filterF):=by
      rcases h0 with rfl | rfl | rfl<;>simp[filterF,filterG,filtersF_map]
     simp only[flen_cons,flen_nil,FT.parts] at a2 ⊢
     rw[e]
     rw[fieldOf_tag _ t]
     omega
    ·rw [if_neg h0] at h
     by_cases h4:t=0xa4
     ·rw [if_pos h4] at h
      have hg:Good (Rd.andR Rd.textR (Rd.innerR 0x30 Rd.piecesR) fun a p=>FT.mk 4 a [] p.1 p.2.2 p.2.1 []) (fun x=>∃(a:List UInt8) (p:List UInt8 × List (List UInt8) × List UInt8),x=FT.mk 4 a [] p.1 p.2.2 p.2.1 []) g4:=
       and_good text_good (inner_good 0x30 pieces_good) (fun x y _ _=>⟨x,y,rfl⟩) (fun x y=>by simp only[g4,flen_cons,flen_nil];omega)
      have a:=inner_good t hg _ x G hl h
      obtain⟨⟨s,p,rfl⟩,a2⟩:=a
      have e:(filterF (FT.mk 4 s [] p.1 p.2.2 p.2.1 [])).2=enc (g4 (FT.mk 4 s [] p.1 p.2.2 p.2.1 [])):=by
       simp[filterF,filterG,g4]
      simp only[flen_cons,flen_nil] at a2 ⊢
      rw[e,fieldOf_tag _ t]
      omega
     ·rw [if_neg h4] at h
      by_cases h3:t=0xa3∨t=0xa5∨t=0xa6∨t=0xa8
      ·rw [if_pos h3] at h
       have hg:Good (Rd.andR Rd.textR Rd.textR fun a v=>FT.mk ((t.toNat:Int)-160) a v [] [] [] []) (fun x=>∃a v,x=FT.mk ((t.toNat:Int)-160) a v [] [] [] []) g3:=
        and_good text_good text_good (fun x y _ _=>⟨x,y,rfl⟩) (fun x y=>by simp only[g3,flen_cons,flen_nil];omega)
       have a:=inner_good t hg _ x G hl h
       obtain⟨⟨s,v,rfl⟩,a2⟩:=a
       have e:(filterF (FT.mk ((t.toNat:Int)-160) s v [] [] [] [])).2=enc (g3 (FT.mk ((t.toNat:Int)-160) s v [] [] [] [])):=by
        rcases h3 with rfl | rfl | rfl | rfl<;>simp[filterF,filterG,g3]
       simp only[flen_cons,flen_nil] at a2 ⊢
       rw[e,fieldOf_tag _ t]
       omega
      ·rw [if_neg h3] at h;cases h
end Go.Proofs.YtpkedjohgmnhhaaGreat
namespace Go.Proofs.YtpkedjohgmnhhaaGreat
open Go.RowKit
set_option linter.unusedVariables false
theorem below1 (w:World) (o:Obj):Below w.heap.size w (w.alloc o):=(Below.refl _ w).alloc (Nat.le_refl _) _
theorem txt_size (l:List UInt8):(txt l).size=l.length:=by simp[txt,ByteArray.size]
def strs (L:List (List UInt8)):List Value:=L.map fun x=>.string (txt x)
theorem strs_length (L:List (List UInt8)):(strs L).length=L.length:=by simp[strs]
theorem strs_one (L:List (List UInt8)):∀u∈strs L,u.oneCell'=true:=by
 intro u hu
 obtain⟨b,_,rfl⟩:=List.mem_map.1 hu
 rfl
theorem Has.strs_n {w:World} {B:Nat} {A:Option Addr} {n:Nat} {L:List (List UInt8)} (h:Has w B 1 A n (strs L)):n=L.length:=by
 have:=h.1
 rw[strs_length] at this
 omega
theorem Has.texts {w:World} {B:Nat} {A:Option Addr} {n:Nat} {L:List (List UInt8)} (h:Has w B 1 A n (strs L)) (hl:L≠[]):
  ∃g o,A=some ⟨g,o,none⟩∧g<B∧∀(i:Nat) (x:List UInt8),L[i]?=some x→w.cell? ⟨g,o+i,none⟩=some (.string (txt x)):=by
 obtain⟨g,o,rfl,hb,hc⟩:=h.lies (by rw[strs_length];exact List.length_pos_iff.2 hl)
 exact⟨g,o,rfl,hb,fun i x hx=>hc i _ (by simp[strs,hx])⟩
theorem infoS:(Tryz.prog.info? 9).map (fun i=>(i.zero,i.size,i.bytes))=some (some (.string .empty),1,16):=by kernel_rfl
theorem str_ne {a b:List UInt8} (h:a≠b):((txt a).toList==(txt b).toList)=false:=by rw[txt_bytes,txt_bytes];simpa using h
theorem str_bys (s:ByteArray):Lib.strCells s=bys s.data.toList:=by simp[Lib.strCells,bys,c8]
theorem app8g {ops:Array Oper} {rest:List Oper} {o:Oper} {a:Act} {Q:Exit→Act→World→Prop} (W:World) (hgd:o.guard=none) (s x:Operand)
  (ho:o.op=.call { callee:=.builtin .append,args:=#[s,x],argTypes:=#[33,33] })
  (base:Nat) (v:Value) (n:Nat) (xs:List UInt8) (hs:a.eval s=v) (hown:W.ownsRow base 5 1 v n (bys xs))
  (B:Nat) (A:Option Addr) (m c:Nat) (l:List UInt8) (hx:a.eval x=.slice A m c) (hr:Has W B 1 A m (bys l)) (ys:List UInt8) (hys:Hid (xs++l=ys)) (hlen:Hid (n+m=ys.length))
  (hb:n+m≤140737488355328) (hbase:base≤W.heap.size)
  (h:∀v' w',w'.ownsRow base 5 1 v' ys.length (bys ys)→Below base W w'→W.grownBy w' v.ownBlock→wpList Tryz.prog ops Q rest (a.put o.dst v') w'):
  wpList Tryz.prog ops Q (o::rest) a W:=by
 obtain⟨i0,hi,hz0,hz1,hz2⟩:=info_parts info8
 refine wpList_app W hgd s x 33 ho base 5 i0 _ 1 1 Tryz.underlying33 hi hz0 hz1 hz2 rfl (by omega) v n (bys xs) hs hown B A m c (bys l) hx hr (bys_one _) (by unfold maxLen;omega) (by omega) hbase ?_
 intro v' w' h1 h2 h3
 rw[←bys_append,hys.out,hlen.out] at h1
 exact h v' w' h1 (below_grown hown h2 hbase) h2
theorem app8s {ops:Array Oper} {rest:List Oper} {o:Oper} {a:Act} {Q:Exit→Act→World→Prop} (W:World) (hgd:o.guard=none) (s x:Operand)
  (ho:o.op=.call { callee:=.builtin .append,args:=#[s,x],argTypes:=#[33,9] })
  (base:Nat) (v:Value) (n:Nat) (xs:List UInt8) (hs:a.eval s=v) (hown:W.ownsRow base 5 1 v n (bys xs)) (t:ByteArray) (hx:a.eval x=.string t) (ys:List UInt8) (hys:Hid (xs++t.data.toList=ys)) (hlen:Hid (n+t.size=ys.length))
  (hb:n+t.size≤140737488355328) (hbase:base≤W.heap.size)
  (h:∀v' w',w'.ownsRow base 5 1 v' ys.length (bys ys)→Below base W w'→W.grownBy w' v.ownBlock→wpList Tryz.prog ops Q rest (a.put o.dst v') w'):
  wpList Tryz.prog ops Q (o::rest) a W:=by
 obtain⟨i0,hi,hz0,hz1,hz2⟩:=info_parts info8
 refine Lib.wpList_append_own_string W hgd s x 33 9 ho base 5 i0 Tryz.underlying33 Tryz.underlying9 hi hz0 hz1 hz2 v n (bys xs) hs hown t hx (by unfold maxLen;omega) hb hbase ?_
 intro v' w' h1 h2 _
 rw[str_bys,←bys_append,hys.out,hlen.out] at h1
 exact h v' w' h1 (below_grown hown h2 hbase) h2
end Go.Proofs.YtpkedjohgmnhhaaGreat
namespace Go.Proofs.YtpkedjohgmnhhaaGreat
open Go.RowKit
set_option linter.unusedVariables false
mutual
def FIn (w:World) (B:Nat):FT→List Value→Prop
 | .mk k a v f l any ps,cs=>∃A c D d xs,cs=[.int .i64 k,.string (txt a),.string (txt v),.string (txt f),.string (txt l),.slice A any.length c,.slice D ps.length d]∧
   (any.length≤maxLen∧ps.length≤maxLen)∧Has w B 1 A any.length (strs any)∧Has w B 7 D ps.length xs∧FsIn w B ps xs
def FsIn (w:World) (B:Nat):List FT→List Value→Prop
 | [],xs=>xs=[]
 | p::r,xs=>FIn w B p (xs.take 7)∧FsIn w B r (xs.drop 7)
end
section
variable {w w':World} {B B':Nat}
theorem FIn.len:∀{t:FT} {cs:List Value},FIn w B t cs→cs.length=7
 | .mk ..,cs,h=>by simp only[FIn] at h;obtain⟨A,c,D,d,xs,rfl,_⟩:=h;rfl
theorem FIn.one:∀{t:FT} {cs:List Value},FIn w B t cs→∀u∈cs,u.oneCell'=true
 | .mk ..,cs,h=>by
  simp only[FIn] at h
  obtain⟨A,c,D,d,xs,rfl,_⟩:=h
  intro u hu
  simp only[List.mem_cons,List.not_mem_nil,or_false] at hu
  rcases hu with rfl | rfl | rfl | rfl | rfl | rfl | rfl<;>rfl
theorem FsIn.len:∀{ps:List FT} {xs:List Value},FsIn w B ps xs→xs.length=7*ps.length
 | [],xs,h=>by simp only[FsIn] at h;subst h;rfl
 | p::r,xs,h=>by
  simp only[FsIn] at h
  have h1:=FIn.len h.1
  have h2:=FsIn.len h.2
  simp only[List.length_take,List.length_drop,List.length_cons] at h1 h2 ⊢
  omega
mutual
theorem FIn.move (hH:∀(sz:Nat) (A:Option Addr) (n:Nat) (xs:List Value),Has w B sz A n xs→Has w' B' sz A n xs):∀(t:FT) (cs:List Value),FIn w B t cs→FIn w' B' t cs
 | .mk k a v f l any ps,cs,h=>by
  simp only[FIn] at h ⊢
  obtain⟨A,c,D,d,xs,h1,hm,h2,h3,h4⟩:=h
  exact⟨A,c,D,d,xs,h1,hm,hH _ _ _ _ h2,hH _ _ _ _ h3,FsIn.move hH ps xs h4⟩
theorem FsIn.move (hH:∀(sz:Nat) (A:Option Addr) (n:Nat) (xs:List Value),Has w B sz A n xs→Has w' B' sz A n xs):∀(ps:List FT) (xs:List Value),FsIn w B ps xs→FsIn w' B' ps xs
 | [],xs,h=>by simp only[FsIn] at h ⊢;exact h
 | p::r,xs,h=>by
  simp only[FsIn] at h ⊢
  exact⟨FIn.move hH p _ h.1,FsIn.move hH r _ h.2⟩
end
theorem FIn.below {t:FT} {cs:List Value} (h:FIn w B t cs) (hb:Below B w w'):FIn w' B t cs:=FIn.move (fun _ _ _ _ h=>h.below hb) t cs h
theorem FIn.upto {t:FT} {cs:List Value} (h:FIn w B t cs) (hB:B≤B'):FIn w B' t cs:=FIn.move (fun _ _ _ _ h=>h.upto hB) t cs h
theorem FsIn.below {ps:List FT} {xs:List Value} (h:FsIn w B ps xs) (hb:Below B w w'):FsIn w' B ps xs:=FsIn.move (fun _ _ _ _ h=>h.below hb) ps xs h
theorem FsIn.upto {ps:List FT} {xs:List Value} (h:FsIn w B ps xs) (hB:B≤B'):FsIn w B' ps xs:=FsIn.move (fun _ _ _ _ h=>h.upto hB) ps xs h
theorem FIn.grow {t:FT} {cs:List Value} (h:FIn w w.heap.size t cs) (hb:Below w.heap.size w w'):FIn w' w'.heap.size t cs:=(h.below hb).upto hb.size
theorem FsIn.at_:∀{ps:List FT} {xs:List Value} (h:FsIn w B ps xs) (i:Nat) (p:FT),ps[i]?=some p→FIn w B p ((xs.drop (i*7)).take 7)
 | [],xs,h,i,p,hp=>by simp at hp
 | q::r,xs,h,0,p,hp=>by
  simp only[FsIn] at h
  simp only[List.getElem?_cons_zero,Option.some.injEq] at hp
  subst hp
  simpa using h.1
 | q::r,xs,h,i+1,p,hp=>by
  simp only[FsIn] at h
  simp only[List.getElem?_cons_succ] at hp
  have:=FsIn.at_ h.2 i p hp
  rw[List.drop_drop] at this
  rwa [show (i+1)*7=7+i*7 by omega]
theorem FsIn.snoc:∀{ps:List FT} {xs:List Value} {p:FT} {cs:List Value},FsIn w B ps xs→FIn w B p cs→FsIn w B (ps++[p]) (xs++cs)
 | [],xs,p,cs,h,hp=>by
  simp only[FsIn] at h
  subst h
  have:=hp.len
  simp only[List.nil_append,FsIn]
  refine⟨by rw[List.take_of_length_le (by omega)];exact hp,List.drop_eq_nil_of_le (by omega)⟩
 | q::r,xs,p,cs,h,hp=>by
  have hl:=h.len
  simp only[List.length_cons] at hl
  simp only[FsIn] at h
  simp only[List.cons_append,FsIn]
  refine⟨by rw[List.take_append_of_le_length (by omega)];exact h.1,?_⟩
  rw[List.drop_append_of_le_length (by omega)]
  exact FsIn.snoc h.2 hp
structure Box7 (w:World) (b:Nat) (k:Int) (a v f l:ByteArray) (A:Option Addr) (m c:Nat) (D:Option Addr) (n d:Nat):Prop where
 lt:b<w.heap.size
 c0:w.cell? ⟨b,0,none⟩=some (.int .i64 k)
 c1:w.cell? ⟨b,1,none⟩=some (.string a)
 c2:w.cell? ⟨b,2,none⟩=some (.string v)
 c3:w.cell? ⟨b,3,none⟩=some (.string f)
 c4:w.cell? ⟨b,4,none⟩=some (.string l)
 c5:w.cell? ⟨b,5,none⟩=some (.slice A m c)
 c6:w.cell? ⟨b,6,none⟩=some (.slice D n d)
variable {k:Int} {a v f l:ByteArray} {A D:Option Addr} {m c n d b:Nat}
theorem Box7.new (w:World) (k:Int) (a v f l:ByteArray) (A:Option Addr) (m c:Nat) (D:Option Addr) (n d:Nat) (e:TypeId):
  Box7 (w.alloc (.cells #[.int .i64 k,.string a,.string v,.string f,.string l,.slice A m c,.slice D n d] e)) w.heap.size k a v f l A m c D n d:=by
 refine⟨by simp,?_,?_,?_,?_,?_,?_,?_⟩<;>(rw[World.cell?_alloc_at (hn:=by simp)];rfl)
theorem Box7.below {E:Nat} (h:Box7 w b k a v f l A m c D n d) (hE:b<E) (hb:Below E w w'):Box7 w' b k a v f l A m c D n d:=
 ⟨Nat.lt_of_lt_of_le h.lt hb.size,(hb.cell (p:=⟨b,0,none⟩) hE).trans h.c0,(hb.cell (p:=⟨b,1,none⟩) hE).trans h.c1,(hb.cell (p:=⟨b,2,none⟩) hE).trans h.c2,(hb.cell (p:=⟨b,3,none⟩) hE).trans h.c3,
  (hb.cell (p:=⟨b,4,none⟩) hE).trans h.c4,(hb.cell (p:=⟨b,5,none⟩) hE).trans h.c5,(hb.cell (p:=⟨b,6,none⟩) hE).trans h.c6⟩
theorem Box7.range (h:Box7 w b k a v f l A m c D n d):w.rangeAt b 0 [.int .i64 k,.string a,.string v,.string f,.string l,.slice A m c,.slice D n d]:=by
 intro j u hu
 rw[Nat.zero_add]
 match j,hu with
 | 0,hu=>cases hu;exact h.c0
 | 1,hu=>cases hu;exact h.c1
 | 2,hu=>cases hu;exact h.c2
 | 3,hu=>cases hu;exact h.c3
 | 4,hu=>cases hu;exact h.c4
 | 5,hu=>cases hu;exact h.c5
 | 6,hu=>cases hu;exact h.c6
structure Part7 (w:World) (B g o:Nat) (p:FT) (u0 u1 u2 u3 u4 u5 u6:Value):Prop where
 fin:FIn w B p [u0,u1,u2,u3,u4,u5,u6]
 lt:g<B
 e0:w.cell? ⟨g,o,none⟩=some u0
 e1:w.cell? ⟨g,o+1,none⟩=some u1
 e2:w.cell? ⟨g,o+2,none⟩=some u2
 e3:w.cell? ⟨g,o+3,none⟩=some u3
 e4:w.cell? ⟨g,o+4,none⟩=some u4
 e5:w.cell? ⟨g,o+5,none⟩=some u5
 e6:w.cell? ⟨g,o+6,none⟩=some u6
theorem Part7.below {g o:Nat} {p:FT} {u0 u1 u2 u3 u4 u5 u6:Value} (h:Part7 w B g o p u0 u1 u2 u3 u4 u5 u6) (hb:Below B w w'):Part7 w' B g o p u0 u1 u2 u3 u4 u5 u6:=
 ⟨h.fin.below hb,h.lt,(hb.cell (p:=⟨g,o,none⟩) h.lt).trans h.e0,(hb.cell (p:=⟨g,o+1,none⟩) h.lt).trans h.e1,(hb.cell (p:=⟨g,o+2,none⟩) h.lt).trans h.e2,(hb.cell (p:=⟨g,o+3,none⟩) h.lt).trans h.e3,
  (hb.cell (p:=⟨g,o+4,none⟩) h.lt).trans h.e4,(hb.cell (p:=⟨g,o+5,none⟩) h.lt).trans h.e5,(hb.cell (p:=⟨g,o+6,none⟩) h.lt).trans h.e6⟩
theorem Part7.up {g o:Nat} {p:FT} {u0 u1 u2 u3 u4 u5 u6:Value} (h:Part7 w B g o p u0 u1 u2 u3 u4 u5 u6) (hB:B≤B'):Part7 w B' g o p u0 u1 u2 u3 u4 u5 u6:=
 ⟨h.fin.upto hB,Nat.lt_of_lt_of_le h.lt hB,h.e0,h.e1,h.e2,h.e3,h.e4,h.e5,h.e6⟩
theorem seven {cs:List Value} (h:cs.length=7):∃u0 u1 u2 u3 u4 u5 u6,cs=[u0,u1,u2,u3,u4,u5,u6]:=by
 match cs,h with
 | [u0,u1,u2,u3,u4,u5,u6],_=>exact⟨_,_,_,_,_,_,_,rfl⟩
theorem Has.part {xs:List Value} {ps:List FT} (h:Has w B 7 D ps.length xs) (hf:FsIn w B ps xs) (hn:ps≠[]):
  ∃g o,D=some ⟨g,o,none⟩∧g<B∧∀(i:Nat) (p:FT),ps[i]?=some p→∃u0 u1 u2 u3 u4 u5 u6,Part7 w B g (o+i*7) p u0 u1 u2 u3 u4 u5 u6:=by
 have hl:=hf.len
 have hp:=List.length_pos_iff.2 hn
 obtain⟨g,o,rfl,hg,hc⟩:=h.lies (by omega)
 refine⟨g,o,rfl,hg,fun i p hi=>?_⟩
 have hfin:=hf.at_ i p hi
 obtain⟨u0,u1,u2,u3,u4,u5,u6,he⟩:=seven hfin.len
 have key:∀(j:Nat) (u:Value),[u0,u1,u2,u3,u4,u5,u6][j]?=some u→w.cell? ⟨g,o+i*7+j,none⟩=some u:=by
  intro j u hu
  rw[←he] at hu
  have:=hc (i*7+j) u (by
   rw[List.getElem?_take] at hu
   split at hu
   ·rwa [List.getElem?_drop] at hu
   ·cases hu)
  rwa [←Nat.add_assoc] at this
 rw[he] at hfin
 exact⟨u0,u1,u2,u3,u4,u5,u6,hfin,hg,key 0 _ rfl,key 1 _ rfl,key 2 _ rfl,key 3 _ rfl,key 4 _ rfl,key 5 _ rfl,key 6 _ rfl⟩
end
theorem bne_of {b c:List UInt8} {x:Bool} (h:(b==c)=x):(b !=c)= !x:=by unfold bne;rw[h]
theorem infoF:(Tryz.prog.info? 39).map (fun i=>(i.zero,i.size,i.bytes))=some (some (.agg #[.int .i64 0,.string .empty,.string .empty,.string .empty,.string .empty,.slice none 0 0,.slice none 0 0]),7,120):=by kernel_rfl
theorem infoG:(Tryz.prog.info? 25).map (fun i=>(i.zero,i.size,i.bytes))=some (some (.agg #[.int .i64 0,.string .empty,.string .empty,.string .empty,.string .empty,.slice none 0 0,.slice none 0 0]),7,120):=by kernel_rfl
end Go.Proofs.YtpkedjohgmnhhaaGreat
namespace Go.Proofs.YtpkedjohgmnhhaaGreat
open Go.RowKit
set_option linter.unusedVariables false
def HasP (w:World) (P:Nat→Prop) (size:Nat) (A:Option Addr) (n:Nat) (xs:List Value):Prop:=
 xs.length=n*size∧(xs=[]∨∃ad,A=some ad∧P ad.block∧∀j u,xs[j]?=some u→w.cell? (ad.add j)=some u)
section
variable {w w':World} {P P':Nat→Prop} {B size n:Nat} {A:Option Addr} {xs:List Value}
theorem HasP.has (h:HasP w P size A n xs) (hP:∀b,P b→b<B):Has w B size A n xs:=
 ⟨h.1,h.2.imp id fun ⟨ad,e,hb,hc⟩=>⟨ad,e,hP _ hb,hc⟩⟩
theorem HasP.move (h:HasP w P size A n xs) (hc:∀p:Addr,P p.block→w'.cell? p=w.cell? p) (hP:∀b,P b→P' b):HasP w' P' size A n xs:=
 ⟨h.1,h.2.imp id fun ⟨ad,e,hb,hx⟩=>⟨ad,e,hP _ hb,fun j u hu=>(hc _ (by rw[block_add];exact hb)).trans (hx j u hu)⟩⟩
theorem Has.hasP (h:Has w B size A n xs):HasP w (fun b=>b<B) size A n xs:=h
theorem own_formP {base:Nat} {e:TypeId} {v:Value} (h:w.ownsRow base e size v n xs):∃A c,v=.slice A n c∧n≤c∧HasP w (fun b=>base≤b∧b<w.heap.size) size A n xs:=by
 rcases h.2 with⟨rfl,rfl⟩ | ⟨g,cap,cur,rfl,hb,hh,hnc,_,hs,ht⟩
 ·exact ⟨none,0,rfl,Nat.le_refl _,h.1,.inl (List.eq_nil_of_length_eq_zero (by simpa using h.1))⟩
 ·refine ⟨_,cap,rfl,hnc,h.1,?_⟩
  have hlt:g<w.heap.size:=(Array.getElem?_eq_some_iff.1 hh).1
  rcases Nat.eq_zero_or_pos n with h0 | h0
  ·subst h0
   exact .inl (List.eq_nil_of_length_eq_zero (by simpa using h.1))
  ·obtain ⟨g',cap',hv,_,hlt'⟩:=h.form h0
   injection hv with hA
   injection hA with hA
   injection hA with hg
   subst hg
   exact .inr ⟨_,rfl,⟨hb,hlt⟩,h.cells (g:=g) rfl⟩
end
mutual
def FInP (w:World) (P:Nat→Prop):FT→List Value→Prop
 | .mk k a v f l any ps,cs=>∃A c D d xs,cs=[.int .i64 k,.string (txt a),.string (txt v),.string (txt f),.string (txt l),.slice A any.length c,.slice D ps.length d]∧
   (any.length≤maxLen∧ps.length≤maxLen)∧HasP w P 1 A any.length (strs any)∧HasP w P 7 D ps.length xs∧FsInP w P ps xs
def FsInP (w:World) (P:Nat→Prop):List FT→List Value→Prop
 | [],xs=>xs=[]
 | p::r,xs=>FInP w P p (xs.take 7)∧FsInP w P r (xs.drop 7)
end
section
variable {w w':World} {P P':Nat→Prop} {B:Nat}
mutual
theorem FInP.fin (hP:∀b,P b→b<B):∀{t:FT} {cs:List Value},FInP w P t cs→FIn w B t cs
 | .mk k a v f l any ps,cs,h=>by
  simp only[FInP] at h
  simp only[FIn]
  obtain⟨A,c,D,d,xs,h1,hm,h2,h3,h4⟩:=h
  exact⟨A,c,D,d,xs,h1,hm,h2.has hP,h3.has hP,FsInP.fin hP h4⟩
theorem FsInP.fin (hP:∀b,P b→b<B):∀{ps:List FT} {xs:List Value},FsInP w P ps xs→FsIn w B ps xs
 | [],xs,h=>by simp only[FsInP] at h;simp only[FsIn];exact h
 | p::r,xs,h=>by
  simp only[FsInP] at h
  simp only[FsIn]
  exact⟨FInP.fin hP h.1,FsInP.fin hP h.2⟩
end
mutual
theorem FInP.move (hc:∀p:Addr,P p.block→w'.cell? p=w.cell? p) (hP:∀b,P b→P' b):∀{t:FT} {cs:List Value},FInP w P t cs→FInP w' P' t cs
 | .mk k a v f l any ps,cs,h=>by
  simp only[FInP] at h ⊢
  obtain⟨A,c,D,d,xs,h1,hm,h2,h3,h4⟩:=h
  exact⟨A,c,D,d,xs,h1,hm,h2.move hc hP,h3.move hc hP,FsInP.move hc hP h4⟩
theorem FsInP.move (hc:∀p:Addr,P p.block→w'.cell? p=w.cell? p) (hP:∀b,P b→P' b):∀{ps:List FT} {xs:List Value},FsInP w P ps xs→FsInP w' P' ps xs
 | [],xs,h=>by simp only[FsInP] at h ⊢;exact h
 | p::r,xs,h=>by
  simp only[FsInP] at h ⊢
  exact⟨FInP.move hc hP h.1,FsInP.move hc hP h.2⟩
end
theorem FInP.len {t:FT} {cs:List Value} (h:FInP w P t cs):cs.length=7:=by
 cases t with
 | mk k a v f l any ps=>
  simp only[FInP] at h
  obtain⟨A,c,D,d,xs,rfl,_⟩:=h
  rfl
theorem FInP.one {t:FT} {cs:List Value} (h:FInP w P t cs):∀u∈cs,u.oneCell'=true:=by
 cases t with
 | mk k a v f l any ps=>
  simp only[FInP] at h
  obtain⟨A,c,D,d,xs,rfl,_⟩:=h
  intro u hu
  simp only[List.mem_cons,List.not_mem_nil,or_false] at hu
  rcases hu with rfl | rfl | rfl | rfl | rfl | rfl | rfl<;>rfl
theorem FsInP.len:∀{ps:List FT} {xs:List Value},FsInP w P ps xs→xs.length=7*ps.length
 | [],xs,h=>by simp only[FsInP] at h;subst h;rfl
 | p::r,xs,h=>by
  simp only[FsInP] at h
  have h1:=h.1.len
  have h2:=FsInP.len h.2
  simp only[List.length_take,List.length_drop,List.length_cons] at h1 h2 ⊢
  omega
theorem FsInP.snoc:∀{ps:List FT} {xs:List Value} {p:FT} {cs:List Value},FsInP w P ps xs→FInP w P p cs→FsInP w P (ps++[p]) (xs++cs)
 | [],xs,p,cs,h,hp=>by
  simp only[FsInP] at h
  subst h
  have:=hp.len
  simp only[List.nil_append,FsInP]
  refine⟨by rw[List.take_of_length_le (by omega)];exact hp,List.drop_eq_nil_of_le (by omega)⟩
 | q::r,xs,p,cs,h,hp=>by
  have hl:=h.len
  simp only[List.length_cons] at hl
  simp only[FsInP] at h
  simp only[List.cons_append,FsInP]
  refine⟨by rw[List.take_append_of_le_length (by omega)];exact h.1,?_⟩
  rw[List.drop_append_of_le_length (by omega)]
  exact FsInP.snoc h.2 hp
structure Out7 (w:World) (h:Nat) (u0 u1 u2 u3 u4 u5 u6:Value):Prop where
 lt:h<w.heap.size
 c0:w.cell? ⟨h,0,none⟩=some u0
 c1:w.cell? ⟨h,1,none⟩=some u1
 c2:w.cell? ⟨h,2,none⟩=some u2
 c3:w.cell? ⟨h,3,none⟩=some u3
 c4:w.cell? ⟨h,4,none⟩=some u4
 c5:w.cell? ⟨h,5,none⟩=some u5
 c6:w.cell? ⟨h,6,none⟩=some u6
 fz:∀i,w.frozen? ⟨h,i,none⟩=false
variable {h:Nat} {u0 u1 u2 u3 u4 u5 u6:Value}
theorem Out7.new (w:World) (e:TypeId):Out7 (w.alloc (.cells #[u0,u1,u2,u3,u4,u5,u6] e)) w.heap.size u0 u1 u2 u3 u4 u5 u6:=by
 refine⟨by simp,?_,?_,?_,?_,?_,?_,?_,fun i=>World.frozen?_alloc_at _ _ _ _ rfl⟩<;>(rw[World.cell?_alloc_at (hn:=by simp)];rfl)
theorem Out7.keep (t:Out7 w h u0 u1 u2 u3 u4 u5 u6) (hs:w.heap.size≤w'.heap.size) (hb:w'.heap[h]?=w.heap[h]?):Out7 w' h u0 u1 u2 u3 u4 u5 u6:=
 have k:∀i,w'.cell? ⟨h,i,none⟩=w.cell? ⟨h,i,none⟩:=fun i=>World.cell?_of_block (a:=⟨h,i,none⟩) hb
 ⟨Nat.lt_of_lt_of_le t.lt hs,(k 0).trans t.c0,(k 1).trans t.c1,(k 2).trans t.c2,(k 3).trans t.c3,(k 4).trans t.c4,(k 5).trans t.c5,(k 6).trans t.c6,
  fun i=>(World.frozen?_of_block (a:=⟨h,i,none⟩) hb).trans (t.fz i)⟩
theorem Out7.below (t:Out7 w h u0 u1 u2 u3 u4 u5 u6) {D:Nat} (hD:h<D) (hb:Below D w w'):Out7 w' h u0 u1 u2 u3 u4 u5 u6:=t.keep hb.size (hb.block h hD)
theorem Out7.set6 (t:Out7 w h u0 u1 u2 u3 u4 u5 u6) (u:Value):Out7 (w.setCell ⟨h,6,none⟩ u) h u0 u1 u2 u3 u4 u5 u:=by
 have k:∀i,i≠6→(w.setCell ⟨h,6,none⟩ u).cell? ⟨h,i,none⟩=w.cell? ⟨h,i,none⟩:=fun i hi=>World.cell?_setCell_other _ _ _ _ (by simp;try omega)
 exact⟨by simpa[World.setCell] using t.lt,(k 0 (by omega)).trans t.c0,(k 1 (by omega)).trans t.c1,(k 2 (by omega)).trans t.c2,(k 3 (by omega)).trans t.c3,(k 4 (by omega)).trans t.c4,(k 5 (by omega)).trans t.c5,
  World.cell?_setCell_same _ _ _ t.c6,fun i=>by rw[World.frozen?_setCell];exact t.fz i⟩
theorem Out7.sets {v0 v1 v2 v3 v4 v5 v6:Value} (t:Out7 w h u0 u1 u2 u3 u4 u5 u6):Out7 (w.setCells h 0 [v0,v1,v2,v3,v4,v5,v6]) h v0 v1 v2 v3 v4 v5 v6:=by
 have hs:∀j,j<7→(w.cell? ⟨h,0+j,none⟩).isSome=true:=fun j hj=>by
  match j,hj with
  | 0,_=>rw[Nat.zero_add,t.c0];rfl
  | 1,_=>rw[Nat.zero_add,t.c1];rfl
  | 2,_=>rw[Nat.zero_add,t.c2];rfl
  | 3,_=>rw[Nat.zero_add,t.c3];rfl
  | 4,_=>rw[Nat.zero_add,t.c4];rfl
  | 5,_=>rw[Nat.zero_add,t.c5];rfl
  | 6,_=>rw[Nat.zero_add,t.c6];rfl
 have key:=World.cell?_setCells_in h [v0,v1,v2,v3,v4,v5,v6] 0 w hs
 have hsz:∀(vs:List Value) (o:Nat) (w:World),(w.setCells h o vs).heap.size=w.heap.size:=by
  intro vs
  induction vs with
  | nil=>intro o w;rfl
  | cons v r ih=>intro o w;rw[World.setCells,ih];simp[World.setCell]
 refine⟨by rw[hsz];exact t.lt,?_,?_,?_,?_,?_,?_,?_,fun i=>by rw[World.frozen?_setCells];exact t.fz i⟩
 ·simpa using key 0 (by simp)
 ·simpa using key 1 (by simp)
 ·simpa using key 2 (by simp)
 ·simpa using key 3 (by simp)
 ·simpa using key 4 (by simp)
 ·simpa using key 5 (by simp)
 ·simpa using key 6 (by simp)
theorem Out7.there (t:Out7 w h u0 u1 u2 u3 u4 u5 u6):w.there h 0 7:=fun j hj=>by
 refine⟨?_,t.fz _⟩
 match j,hj with
 | 0,_=>rw[Nat.zero_add,t.c0];rfl
 | 1,_=>rw[Nat.zero_add,t.c1];rfl
 | 2,_=>rw[Nat.zero_add,t.c2];rfl
 | 3,_=>rw[Nat.zero_add,t.c3];rfl
 | 4,_=>rw[Nat.zero_add,t.c4];rfl
 | 5,_=>rw[Nat.zero_add,t.c5];rfl
 | 6,_=>rw[Nat.zero_add,t.c6];rfl
theorem grown_setCell (w:World) (h i:Nat) (u:Value):w.grownBy (w.setCell ⟨h,i,none⟩ u) (some h):=⟨rfl,rfl,rfl,by simp[World.setCell],fun k hk hne=>by
 simp only[World.setCell,Array.getElem?_modify]
 rw[if_neg (fun e=>hne (by rw[←e]))]⟩
theorem grown_setCells (h:Nat):∀(vs:List Value) (o:Nat) (w:World),w.grownBy (w.setCells h o vs) (some h)
 | [],o,w=>⟨rfl,rfl,rfl,Nat.le_refl _,fun _ _ _=>rfl⟩
 | v::r,o,w=>by
  have h1:=grown_setCell w h o v
  have h2:=grown_setCells h r (o+1) (w.setCell ⟨h,o,none⟩ v)
  rw[World.setCells]
  exact⟨h2.os.trans h1.os,h2.tape.trans h1.tape,h2.output.trans h1.output,Nat.le_trans h1.size h2.size,fun k hk hne=>(h2.block k (Nat.lt_of_lt_of_le hk h1.size) hne).trans (h1.block k hk hne)⟩
theorem below_of_grown {base:Nat} {row:Option Nat} (hg:w.grownBy w' row) (hrow:∀k,row=some k→base≤k) (hb:base≤w.heap.size):Below base w w':=
 (Below.refl _ _).grown hg hb hrow
end
section
variable {P:Program}
theorem step_store {ops:Array Oper} {o:Oper} {a:Act} {K:Act→World→Prop} {Q:Exit→Act→World→Prop} {E:Prop} (W:World) (d:Option Tmp) (hd:o.dst=d) (hgd:o.guard=none) (ty:TypeId) (x y:Operand) (ho:o.op=.store ty x y)
  (b off:Nat) (cells:Array Value) (hx:a.eval x=.pointer (some ⟨b,off,none⟩)) (hy:a.eval y=.agg cells) (ht:W.there b off cells.size) (hi:(P.info? ty).map (·.size)=some cells.size) (h1:cells.all (·.oneCell')=true)
  (h:K (a.put d undef) (W.setCells b off cells.toList)):if Region.wanted o (yielded ops a.tmps)=true then Oper.wp P o a W K Q else E:=by
 subst hd
 have hw:Region.wanted o (yielded ops a.tmps)=true:=by simp[Region.wanted,hgd]
 rw[if_pos hw]
 exact wp_store_mid ty x y ho b off cells hx hy ht hi h1 h
end
end Go.Proofs.YtpkedjohgmnhhaaGreat
namespace Go.Proofs.YtpkedjohgmnhhaaGreat
open Go Go.RowKit
def waitsOn (md:Region.Mode) (ops:Array Oper) (z i:Nat):Bool:=
 match ops[z]? with
 | some o=>o.after.any fun e=>Region.binds md e&&e.on==i
 | none=>true
theorem waitsOn_spec {md:Region.Mode} {ops:Array Oper} {z i:Nat} (h:waitsOn md ops z i=true):∀oz,ops[z]?=some oz→∃e∈oz.after,Region.binds md e=true∧e.on=i:=by
 intro oz hoz
 unfold waitsOn at h
 rw[hoz] at h
 simp only[Array.any_eq_true,Bool.and_eq_true,beq_iff_eq] at h
 obtain⟨k,hk,h1,h2⟩:=h
 exact⟨oz.after[k],Array.getElem_mem hk,h1,h2⟩
section
variable {P:Program} {ops:Array Oper} {Q:Exit→Act→World→Prop} {md:Region.Mode} {z:Nat}
variable {R:World→World→Prop} [Way R]
def wpAnyL (R:World→World→Prop) (P:Program) (md:Region.Mode) (ops:Array Oper) (Q:Exit→Act→World→Prop) (z:Nat):Nat→Array Bool→Act→World→Prop
 | 0,listed,a,w=>Region.ready md ops listed=[]∧Q .normal a w
 | fuel+1,listed,a,w=>
  (Region.ready md ops listed=[]→Q .normal a w)∧
  ∀i∈Region.ready md ops listed,wpOp P ops Q i (fun a' w'=>(i≠z→R w w')∧wpAnyL R P md ops Q z fuel (listed.setIfInBounds i true) a' w') a w
omit [Way R] in
theorem wpAny_of_growL:∀(fuel:Nat) (listed:Array Bool) (a:Act) (w:World),wpAnyL R P md ops Q z fuel listed a w→wpAny P md ops Q fuel listed a w
 | 0,_,_,_,h=>h
 | fuel+1,_,_,_,h=>⟨h.1,fun i hi=>wpOp_mono (fun a' w' h'=>wpAny_of_growL fuel _ a' w' h'.2) (h.2 i hi)⟩
theorem grow_firstL {i:Nat} {oi:Oper} {v:Value} (hi:ops[i]?=some oi) (hsel:∀(j:Nat) (o:Oper) cs b,ops[j]?=some o→o.op≠.select cs b)
  (hQ:∀c a w,Q (.panic c) (a.put oi.dst v) w→Q (.panic c) a w) (hz:∀oz,ops[z]?=some oz→∃e∈oz.after,Region.binds md e=true∧e.on=i):
  ∀(fuel:Nat) (listed:Array Bool) (a:Act) (w:World),
   (∀j oj,ops[j]?=some oj→j≠i→listed.getD j true=false→(∀e∈oj.after,Region.binds md e=true→e.on≠i)→oi.apart ops oj=true)→
   i∈Region.ready md ops listed→YieldsIf P ops (R w) oi v a→
   wpAnyL R P md ops Q z fuel (listed.setIfInBounds i true) (a.put oi.dst v) w→wpAnyL R P md ops Q z (fuel+1) listed a w:=by
 intro fuel
 induction fuel with
 | zero=>
  intro listed a w _ hr hy H
  refine⟨fun h=>(by rw[h] at hr;cases hr),fun j hj=>?_⟩
  rcases Nat.decEq j i with hne | rfl
  ·have hm:=ready_mono hj hne
   rw[H.1] at hm
   cases hm
  ·exact hy.wpOp hi (Way.refl w) ⟨fun _=>Way.refl w,H⟩
 | succ fuel ih=>
  intro listed a w hfree hr hy H
  refine⟨fun h=>(by rw[h] at hr;cases hr),fun j hj=>?_⟩
  rcases Nat.decEq j i with hne | rfl
  ·obtain ⟨hun,oj,hoj,hwait⟩:=mem_ready.1 hj
   have hno:∀e∈oj.after,Region.binds md e=true→e.on≠i:=by
    intro e he hb hon
    have h1:=hwait e he hb
    have h0:=(mem_ready.1 hr).1
    rw[hon] at h1
    rcases Nat.lt_or_ge i listed.size with hlt | hge
    ·simp [hlt] at h0 h1
     rw[h0] at h1
     cases h1
    ·simp [Array.getElem?_eq_none hge] at h1
   have hjz:j≠z:=fun e=>by
    subst e
    obtain⟨e,he,hb,hon⟩:=hz oj hoj
    exact hno e he hb hon
   have hstep:=wpOp_putIf hoj (hfree j oj hoj hne hun hno) (fun cs b=>hsel i oi cs b hi) (fun cs b=>hsel j oj cs b hoj) hQ hy (H.2 j (ready_mono hj hne))
   refine wpOp_mono (fun a' w' hh=>⟨hh.2.1,ih (listed.setIfInBounds j true) a' w' ?_ (ready_mono hr (Ne.symm hne)) (yields_later (hh.2.1 hjz) hh.1) ?_⟩) hstep
   ·intro k ok hk hki hkun hkno
    refine hfree k ok hk hki ?_ hkno
    rcases Nat.decEq j k with hjk | rfl
    ·rwa [getD_set_ne true hjk] at hkun
    ·exact hun
   ·rw [Array.setIfInBounds_comm _ _ hne]
    exact hh.2.2
  ·exact hy.wpOp hi (Way.refl w) ⟨fun _=>Way.refl w,H⟩
theorem grow_takeL (i:Nat) (d:Option Tmp) {oi:Oper} {v:Value} {fuel:Nat} {listed:Array Bool} {a:Act} {w:World} (hi:ops[i]?=some oi) (hd:oi.dst=d)
  (hs:Region.noSelect ops=true) (hf:Region.free md ops listed i=true) (hr:(Region.ready md ops listed).contains i=true)
  (hQ:∀c a w,Q (.panic c) (a.put d v) w→Q (.panic c) a w) (hz:waitsOn md ops z i=true) (hw:Region.wanted oi (yielded ops a.tmps)=true) (hy:∀W,R w W→(execOp a.eval oi).run P W=.ok (.value v) W)
  (h:wpAnyL R P md ops Q z fuel (listed.setIfInBounds i true) (a.put d v) w):wpAnyL R P md ops Q z (fuel+1) listed a w:=by
 subst hd
 exact grow_firstL hi (Region.noSelect_spec hs) hQ (waitsOn_spec hz) fuel listed a w (Region.free_spec hi hf) (by simpa using hr) (.inl ⟨hw,hy⟩) h
theorem grow_skipL (i:Nat) (d:Option Tmp) {oi:Oper} {fuel:Nat} {listed:Array Bool} {a:Act} {w:World} (hi:ops[i]?=some oi) (hd:oi.dst=d)
  (hs:Region.noSelect ops=true) (hf:Region.free md ops listed i=true) (hr:(Region.ready md ops listed).contains i=true)
  (hQ:∀c a w,Q (.panic c) (a.put d undef) w→Q (.panic c) a w) (hz:waitsOn md ops z i=true) (hw:Region.wanted oi (yielded ops a.tmps)=false)
  (h:wpAnyL R P md ops Q z fuel (listed.setIfInBounds i true) (a.put d undef) w):wpAnyL R P md ops Q z (fuel+1) listed a w:=by
 subst hd
 exact grow_firstL hi (Region.noSelect_spec hs) hQ (waitsOn_spec hz) fuel listed a w (Region.free_spec hi hf) (by simpa using hr) (.inr ⟨hw,rfl⟩) h
omit [Way R] in
theorem grow_onlyL (i:Nat) {oi:Oper} {fuel:Nat} {listed:Array Bool} {a:Act} {w:World} (hi:ops[i]?=some oi) (hr:Region.ready md ops listed=[i])
  (h:∀K':Act→World→Prop,Shut (∀a' w',(i≠z→R w w')→wpAnyL R P md ops Q z fuel (listed.setIfInBounds i true) a' w'→K' a' w')→if Region.wanted oi (yielded ops a.tmps)=true then Oper.wp P oi a w K' Q else K' (a.put oi.dst undef) w):
  wpAnyL R P md ops Q z (fuel+1) listed a w:=by
 refine⟨fun h0=>(by rw[hr] at h0;cases h0),fun j hj=>?_⟩
 rw[hr] at hj
 obtain rfl:j=i:=by simpa using hj
 exact wpOp_step hi (fun K' hK=>h K' (fun a' w' hb hg=>hK a' w' ⟨hb,hg⟩))
omit [Way R] in
theorem grow_doneL {listed:Array Bool} {a:Act} {w:World} (hr:Region.ready md ops listed=[]) (h:Q .normal a w):
  ∀fuel,wpAnyL R P md ops Q z fuel listed a w
 | 0=>⟨hr,h⟩
 | _+1=>⟨fun _=>h,by rw[hr];simp⟩
def AllL (R:World→World→Prop) (P:Program) (md:Region.Mode) (ops:Array Oper) (Q:Exit→Act→World→Prop) (z:Nat) (fuel:Nat) (listed:Array Bool) (a:Act) (w:World) (rs:List Nat):Prop:=
 ∀i∈rs,wpOp P ops Q i (fun a' w'=>(i≠z→R w w')∧wpAnyL R P md ops Q z fuel (listed.setIfInBounds i true) a' w') a w
omit [Way R] in
theorem AllL.nil {fuel:Nat} {listed:Array Bool} {a:Act} {w:World}:AllL R P md ops Q z fuel listed a w []:=fun _ h=>by cases h
omit [Way R] in
theorem AllL.cons {fuel:Nat} {listed:Array Bool} {a:Act} {w:World} {i:Nat} {oi:Oper} {rs:List Nat} (hi:ops[i]?=some oi)
  (h:∀K':Act→World→Prop,Shut (∀a' w',(i≠z→R w w')→wpAnyL R P md ops Q z fuel (listed.setIfInBounds i true) a' w'→K' a' w')→if Region.wanted oi (yielded ops a.tmps)=true then Oper.wp P oi a w K' Q else K' (a.put oi.dst undef) w)
  (hs:AllL R P md ops Q z fuel listed a w rs):AllL R P md ops Q z fuel listed a w (i::rs):=fun j hj=>by
 rcases List.mem_cons.1 hj with rfl | hj
 ·exact wpOp_step hi (fun K' hK=>h K' (fun a' w' hb hg=>hK a' w' ⟨hb,hg⟩))
 ·exact hs j hj
omit [Way R] in
theorem grow_eachL (rs:List Nat) {fuel:Nat} {listed:Array Bool} {a:Act} {w:World} (hr:Region.ready md ops listed=rs) (hne:rs≠[]) (h:AllL R P md ops Q z fuel listed a w rs):
  wpAnyL R P md ops Q z (fuel+1) listed a w:=by
 refine⟨fun h0=>absurd (hr ▸ h0) hne,fun j hj=>?_⟩
 rw[hr] at hj
 exact h j hj
theorem grow_begin_atL (B z:Nat) {id:Nat} {a:Act} {w:World} (hm:P.follows .mixedOrders=true)
  (h:wpAnyL (upAt B) P .any ops Q z ops.size (Array.replicate ops.size false) a w.drew):(Code.region id ops true).wp P Q a w:=
 wp_region_any hm (wpAny_of_growL _ _ _ _ h)
end
end Go.Proofs.YtpkedjohgmnhhaaGreat
