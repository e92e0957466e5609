/- Several texts in one: LEnc, LEncF, LGood, LGoodF, LEncM. By an AI agent. -/
import Derived.Test.YtcpjmgfloimfhaaGreatM02
import Derived.Test.YtcpjmgfloimfhaaGreatM01
import Derived.Test.YtcpjmgfloimfhaaGreatM11
set_option linter.unusedSimpArgs false
set_option linter.unusedVariables false
set_option maxHeartbeats 4000000
namespace Go.Proofs.YtcpjmgfloimfhaaGreat
open Go.RowKit
set_option linter.unusedVariables false
namespace Wr
def enc:List Fd→List UInt8
 | []=>[]
 | f::r=>Ber.fieldOf f.1 f.2++enc r
theorem enc_app:∀F G:List Fd,enc (F++G)=enc F++enc G
 | [],G=>rfl
 | f::r,G=>by rw[List.cons_append,enc,enc,enc_app r G,List.append_assoc]
theorem enc_mem {f:Fd}:∀{F:List Fd},f∈F→f.2.length≤(enc F).length
 | a::r,h=>by
  rw[enc,List.length_append,Ber.fieldOf_length]
  rcases List.mem_cons.1 h with rfl | h
  ·omega
  ·have:=enc_mem h;omega
theorem enc_count:∀F:List Fd,F.length≤(enc F).length
 | []=>Nat.le_refl _
 | f::r=>by have:=enc_count r;rw[enc,List.length_append,Ber.fieldOf_length,List.length_cons];omega
def Plain (F:List Fd):Prop:=∀f∈F,f.1.toNat % 32≠31
theorem listGo_enc:∀(F:List Fd) (n:Nat) (T:List UInt8) (L:List (List UInt8)),Plain F→(∀f∈F,f.2.length≤2147483647)→F.length≤n→
  Ber.listGo n T L (enc F)=(T++F.map Prod.fst,L++F.map Prod.snd,0)
 | [],n,T,L,_,_,_=>by simp[enc,Ber.listGo_nil]
 |(t,c)::r,n,T,L,hp,hl,hn=>by
  obtain⟨n,rfl⟩:∃k,n=k+1:=⟨n-1,by simp at hn;omega⟩
  have hk:=Ber.takeOf_field t c (enc r) (hl _ (List.mem_cons_self ..))
  rw[if_neg (hp _ (List.mem_cons_self ..))] at hk
  rw[enc,Ber.listGo,if_neg (by simp[Ber.fieldOf]),hk,if_neg (by simp)]
  simp only
  rw[listGo_enc r n _ _ (fun f h=>hp f (List.mem_cons_of_mem _ h)) (fun f h=>hl f (List.mem_cons_of_mem _ h)) (by simp at hn;omega)]
  simp
theorem zip_back:∀F:List Fd,(F.map Prod.fst).zip (F.map Prod.snd)=F
 | []=>rfl
 | f::r=>by rw[List.map_cons,List.map_cons,List.zip_cons_cons,zip_back r]
theorem fields_enc (F:List Fd) (hp:Plain F) (hl:(enc F).length≤2147483647):Rd.fieldsOf (enc F)=some F:=by
 unfold Rd.fieldsOf
 rw[listGo_enc F _ [] [] hp (fun f h=>Nat.le_trans (enc_mem h) hl) (enc_count F)]
 simp[zip_back]
def textF (s:List UInt8):Fd:=(4,s)
def numF (t:UInt8) (n:Int):Fd:=(t,Ber.intOfs n)
def flagF (b:Bool):Fd:=(1,[if b then 255 else 0])
def attrF (a:Atr):Fd:=(0x30,enc [textF a.1,(0x31,enc (a.2.map textF))])
def changeF (c:Int × Atr):Fd:=(0x30,enc [numF 0x0a c.1,attrF c.2])
def critF (c:Ct):List Fd:=if c.crit then [flagF true] else []
def valF (c:Ct):List Fd:=if c.hasv then [textF c.value] else []
def controlF (c:Ct):Fd:=(0x30,enc (textF c.oid::(critF c++valF c)))
def optF (t:UInt8) (s:List UInt8):List Fd:=if s=[] then [] else [(t,s)]
def anyF (s:List UInt8):Fd:=(0x81,s)
def kindTag (k:Int):UInt8:=UInt8.ofNat (160+k.toNat)
def filterG (k:Int) (a v f l:List UInt8) (an:List (List UInt8)) (ps:List Fd):Fd:=
 if k=7 then (0x87,a)
 else if k=0∨k=1∨k=2 then (kindTag k,enc ps)
 else if k=4 then (0xa4,enc [textF a,(0x30,enc (optF 0x80 f++(an.map anyF++optF 0x82 l)))])
 else (kindTag k,enc [textF a,textF v])
mutual
def filterF:FT→Fd
 | .mk k a v f l an ps=>filterG k a v f l an (filtersF ps)
def filtersF:List FT→List Fd
 | []=>[]
 | p::r=>filterF p::filtersF r
end
theorem filtersF_map:∀ps:List FT,filtersF ps=ps.map filterF
 | []=>by simp[filtersF]
 | p::r=>by rw[filtersF,filtersF_map r,List.map_cons]
def refsF (l:List (List UInt8)):List Fd:=if l=[] then [] else [(0xa3,enc (l.map textF))]
def supF (m:MT):List Fd:=if m.hassup then [(0x80,m.sup)] else []
def contentF (m:MT):List Fd:=
 if m.kind=2 then [] else if m.kind=0 then [numF 2 m.ver,textF m.name,(0x80,m.pw)]
 else if m.kind=3 then [textF m.name,numF 0x0a m.scope,numF 0x0a m.deref,numF 2 m.size,numF 2 m.time,flagF m.tonly,filterF m.filt,(0x30,enc (m.attrs.map textF))]
 else if m.kind=6 then [textF m.name,(0x30,enc (m.chs.map changeF))]
 else if m.kind=8∨m.kind=4 then [textF m.name,(0x30,enc (m.lst.map attrF))]
 else if m.kind=12 then [textF m.name,textF m.nrdn,flagF m.delold]++supF m
 else if m.kind=14 then [textF m.name,(0x30,enc [textF m.attr,textF m.value])]
 else if m.kind=19 then m.refs.map textF
 else [numF 0x0a m.code,textF m.matched,textF m.text]++refsF m.refs
def operTag (k:Int):UInt8:=if k=2∨k=10∨k=16 then UInt8.ofNat (64+(k % 256).toNat) else UInt8.ofNat (96+(k % 256).toNat)
def operF (m:MT):Fd:=(operTag m.kind,if m.kind=10 then m.name else if m.kind=16 then Ber.intOfs m.target else enc (contentF m))
def ctlsF (l:List Ct):List Fd:=if l=[] then [] else [(0xa0,enc (l.map controlF))]
def messageF (m:MT):Fd:=(0x30,enc (numF 2 m.id::operF m::ctlsF m.ctls))
def bytesW (m:MT):List UInt8:=enc [messageF m]
end Wr
open Wr
theorem take_enc (t:UInt8) (c:List UInt8) (r:List Fd):Rd.takeR t ((t,c)::r)=some (c,r):=by simp[Rd.takeR]
theorem tagged_enc (t:UInt8) (s:List UInt8) (r:List Fd) (h:s.length≤1000):Rd.taggedR t ((t,s)::r)=some (s,r):=by
 simp[Rd.taggedR,take_enc,h]
theorem text_enc (s:List UInt8) (r:List Fd) (h:s.length≤1000):Rd.textR (textF s::r)=some (s,r):=tagged_enc 4 s r h
theorem num_enc (t:UInt8) (n most:Int) (r:List Fd) (h0:0≤n) (h1:n≤most) (h2:most≤2147483647):Rd.numR t most (numF t n::r)=some (n,r):=by
 have h:=Ber.toInt_intOfs n (by omega) (by omega)
 unfold Rd.numR numF
 rw[take_enc]
 simp only[h]
 rw[if_pos ⟨trivial,h0,h1⟩]
theorem flag_enc (b:Bool) (r:List Fd):Rd.flagR (flagF b::r)=some (b,r):=by
 unfold Rd.flagR flagF
 rw[take_enc]
 cases b<;>rfl
theorem inner_enc {α:Type} {t:UInt8} {p:Rdr α} {G r:List Fd} {x:α} (hp:Plain G) (hl:(enc G).length≤2147483647) (h:p G=some (x,[])):Rd.innerR t p ((t,enc G)::r)=some (x,r):=by
 unfold Rd.innerR
 rw[take_enc]
 simp only[Rd.wholeR,fields_enc G hp hl,h,Option.map_some]
theorem and_enc {α β γ:Type} {p:Rdr α} {q:Rdr β} {f:α→β→γ} {F G H:List Fd} {x:α} {y:β} (h1:p F=some (x,G)) (h2:q G=some (y,H)):Rd.andR p q f F=some (f x y,H):=by
 simp only[Rd.andR,h1,h2]
theorem manyGo_enc {α:Type} {p:Rdr α} {xF:α→Fd}:∀(l:List α) (n:Nat) (acc:List α),(∀x∈l,∀r,p (xF x::r)=some (x,r))→l.length≤n→Rd.manyGo p n (l.map xF) acc=some (acc++l)
 | [],n,acc,_,_=>by cases n<;>simp[Rd.manyGo]
 | x::l,n,acc,h,hn=>by
  obtain⟨n,rfl⟩:∃k,n=k+1:=⟨n-1,by simp at hn;omega⟩
  rw[List.map_cons,Rd.manyGo,h x (List.mem_cons_self ..)]
  simp only
  rw[manyGo_enc l n _ (fun y hy=>h y (List.mem_cons_of_mem _ hy)) (by simp at hn;omega)]
  simp
theorem many_enc {α:Type} {p:Rdr α} {xF:α→Fd} (l:List α) (h:∀x∈l,∀r,p (xF x::r)=some (x,r)):Rd.manyR p (l.map xF)=some (l,[]):=by
 unfold Rd.manyR
 rw[manyGo_enc l _ [] h (by simp)]
 simp
theorem list_enc {α:Type} {t:UInt8} {p:Rdr α} {xF:α→Fd} (l:List α) (r:List Fd) (h:∀x∈l,∀r,p (xF x::r)=some (x,r)) (hp:Plain (l.map xF)) (hl:(enc (l.map xF)).length≤2147483647):
  Rd.listR t p ((t,enc (l.map xF))::r)=some (l,r):=inner_enc hp hl (many_enc l h)
theorem some_enc {α:Type} {t:UInt8} {p:Rdr α} {xF:α→Fd} (l:List α) (r:List Fd) (hne:l≠[]) (h:∀x∈l,∀r,p (xF x::r)=some (x,r)) (hp:Plain (l.map xF)) (hl:(enc (l.map xF)).length≤2147483647):
  Rd.someR t p ((t,enc (l.map xF))::r)=some (l,r):=by
 unfold Rd.someR
 rw[list_enc l r h hp hl]
 cases l with
 | nil=>exact absurd rfl hne
 | cons x l=>rfl
theorem plain_map {α:Type} {xF:α→Fd} {l:List α} (h:∀x,(xF x).1.toNat % 32≠31):Plain (l.map xF):=fun f hf=>by
 obtain⟨x,_,rfl⟩:=List.mem_map.1 hf
 exact h x
theorem plain_nil:Plain []:=fun f h=>by cases h
theorem plain_cons {f:Fd} {F:List Fd} (h:f.1.toNat % 32≠31) (hF:Plain F):Plain (f::F):=fun g hg=>by
 rcases List.mem_cons.1 hg with rfl | hg
 ·exact h
 ·exact hF g hg
theorem plain_app {F G:List Fd} (h:Plain F) (k:Plain G):Plain (F++G):=fun g hg=>(List.mem_append.1 hg).elim (h g) (k g)
theorem enc_cons_le {f:Fd} {F:List Fd} {n:Nat} (h:(enc (f::F)).length≤n):f.2.length≤n∧(enc F).length≤n:=by
 rw[enc,List.length_append,Ber.fieldOf_length] at h
 omega
def okA (a:Atr):Prop:=a.1.length≤1000∧∀s∈a.2,s.length≤1000
theorem texts_enc {t:UInt8} (l:List (List UInt8)) (r:List Fd) (h:∀s∈l,s.length≤1000) (hl:(enc (l.map textF)).length≤2147483647):Rd.listR t Rd.textR ((t,enc (l.map textF))::r)=some (l,r):=
 list_enc l r (fun x hx r=>text_enc x r (h x hx)) (plain_map fun x=>by simp[textF]) hl
theorem attr_enc (a:Atr) (r:List Fd) (h:okA a) (hl:(attrF a).2.length≤2147483647):Rd.attrR (attrF a::r)=some (a,r):=by
 have h1:=enc_cons_le hl
 have h2:=enc_cons_le h1.2
 unfold Rd.attrR attrF
 refine inner_enc (plain_cons (by simp[textF]) (plain_cons (by simp) plain_nil)) hl ?_
 have:=and_enc (f:=Prod.mk) (text_enc a.1 [(0x31,enc (a.2.map textF))] h.1) (texts_enc a.2 [] h.2 h2.1)
 simpa using this
def okH (c:Int × Atr):Prop:=0≤c.1∧c.1≤3∧okA c.2
theorem change_enc (c:Int × Atr) (r:List Fd) (h:okH c) (hl:(changeF c).2.length≤2147483647):Rd.changeR (changeF c::r)=some (c,r):=by
 have h1:=enc_cons_le hl
 have h2:=enc_cons_le h1.2
 unfold Rd.changeR changeF
 refine inner_enc (plain_cons (by simp[numF]) (plain_cons (by simp[attrF]) plain_nil)) hl ?_
 have:=and_enc (f:=Prod.mk) (num_enc 0x0a c.1 3 [attrF c.2] h.1 h.2.1 (by omega)) (attr_enc c.2 [] h.2.2 h2.1)
 simpa using this
def okC (c:Ct):Prop:=c.oid.length≤1000∧c.value.length≤1000∧(c.hasv=false→c.value=[])
theorem control_enc (c:Ct) (r:List Fd) (h:okC c) (hl:(controlF c).2.length≤2147483647):Rd.controlR (controlF c::r)=some (c,r):=by
 obtain⟨o,k,v,x⟩:=c
 obtain⟨h1,h2,h3⟩:=h
 have ht:=text_enc o
 unfold Rd.controlR controlF
 refine inner_enc ?_ hl ?_
 ·refine plain_cons (by simp[textF]) (plain_app ?_ ?_)
  ·unfold critF;split
   ·exact plain_cons (by simp[flagF]) plain_nil
   ·exact plain_nil
  ·unfold valF;split
   ·exact plain_cons (by simp[textF]) plain_nil
   ·exact plain_nil
 ·have e2:∀r,(r=[]∨∃y,r=[textF y])→Rd.critR (critF ⟨o,k,v,x⟩++r)=some (k,r):=fun r hr=>by
   unfold Rd.critR critF
   cases k with
   | true=>simp only[if_true,List.cons_append,List.nil_append];rw[if_pos (by simp[flagF,Rd.nextIs])];exact flag_enc true r
   | false=>
    simp only[Bool.false_eq_true,if_false,List.nil_append]
    rw[if_neg]
    rcases hr with rfl | ⟨y,rfl⟩<;>simp[Rd.nextIs,textF]
  have e3:Rd.valueR (valF ⟨o,k,v,x⟩)=some ((v,x),[]):=by
   unfold Rd.valueR valF
   cases v with
   | true=>simp only[if_true];rw[if_neg (by simp),text_enc x [] h2];rfl
   | false=>simp only[Bool.false_eq_true,if_false,if_true];rw[show x=[] from h3 rfl]
  have e4:valF ⟨o,k,v,x⟩=[]∨∃y,valF ⟨o,k,v,x⟩=[textF y]:=by
   unfold valF
   cases v with
   | true=>exact .inr ⟨x,rfl⟩
   | false=>exact .inl rfl
  exact and_enc (and_enc (f:=Prod.mk) (ht _ h1) (e2 _ e4)) e3
end Go.Proofs.YtcpjmgfloimfhaaGreat
namespace Go.Proofs.YtcpjmgfloimfhaaGreat
open Go.RowKit
open Wr
set_option linter.unusedVariables false
theorem opt_enc (t:UInt8) (s:List UInt8) (r:List Fd) (h:s.length≤1000) (hn:Rd.nextIs t r=false):Rd.optR t (optF t s++r)=some (s,r):=by
 cases s with
 | nil=>unfold Rd.optR optF;simp only[if_true,List.nil_append];rw[hn];rfl
 | cons x l=>
  have e:optF t (x::l)=[(t,x::l)]:=by unfold optF;rw[if_neg (by simp)]
  rw[e,List.cons_append,List.nil_append]
  unfold Rd.optR
  rw[if_pos (by simp[Rd.nextIs])]
  unfold Rd.pieceR
  rw[tagged_enc t _ r h]
theorem anyGo_enc:∀(L:List (List UInt8)) (n:Nat) (acc:List (List UInt8)) (r:List Fd),(∀s∈L,s≠[]∧s.length≤1000)→Rd.nextIs 0x81 r=false→L.length≤n→Rd.anyGo n (L.map anyF++r) acc=some (acc++L,r)
 | [],n,acc,r,_,hr,_=>by
  rw[List.map_nil,List.nil_append]
  cases n<;>simp[Rd.anyGo,hr]
 | s::L,n,acc,r,h,hr,hn=>by
  obtain⟨n,rfl⟩:∃k,n=k+1:=⟨n-1,by simp at hn;omega⟩
  have hs:=h s (List.mem_cons_self ..)
  have hp:Rd.pieceR 0x81 (anyF s::(L.map anyF++r))=some (s,L.map anyF++r):=by
   unfold Rd.pieceR anyF
   rw[tagged_enc 0x81 s _ hs.2]
   cases s with
   | nil=>exact absurd rfl hs.1
   | cons x l=>rfl
  rw[List.map_cons,List.cons_append,Rd.anyGo,if_pos (by simp[anyF,Rd.nextIs]),hp]
  simp only
  rw[anyGo_enc L n _ r (fun y hy=>h y (List.mem_cons_of_mem _ hy)) hr (by simp at hn;omega)]
  simp
theorem any_enc (L:List (List UInt8)) (r:List Fd) (h:∀s∈L,s≠[]∧s.length≤1000) (hr:Rd.nextIs 0x81 r=false):Rd.anyR (L.map anyF++r)=some (L,r):=by
 unfold Rd.anyR
 rw[anyGo_enc L _ [] r h hr (by simp)]
 simp
theorem pieces_enc (f l:List UInt8) (an:List (List UInt8)) (hf:f.length≤1000) (hl:l.length≤1000) (h:∀s∈an,s≠[]∧s.length≤1000):
  Rd.piecesR (optF 0x80 f++(an.map anyF++optF 0x82 l))=some ((f,an,l),[]):=by
 unfold Rd.piecesR
 have n2:∀t:UInt8,t≠0x82→Rd.nextIs t (optF 0x82 l)=false:=fun t ht=>by
  unfold optF
  split
  ·rfl
  ·simp [Rd.nextIs,Ne.symm ht]
 have h3:=opt_enc 0x82 l [] hl rfl
 rw[List.append_nil] at h3
 have h2:=any_enc an (optF 0x82 l) h (n2 _ (by decide))
 have h1:=opt_enc 0x80 f (an.map anyF++optF 0x82 l) hf (by
  cases an with
  | nil=>exact n2 _ (by decide)
  | cons s L=>simp[anyF,Rd.nextIs])
 exact and_enc (and_enc (f:=Prod.mk) h1 h2) h3
theorem plain_pieces (f l:List UInt8) (an:List (List UInt8)):Plain (optF 0x80 f++(an.map anyF++optF 0x82 l)):=by
 have ho:∀(t:UInt8) (s:List UInt8),t.toNat % 32≠31→Plain (optF t s):=fun t s ht=>by
  unfold optF
  split
  ·exact plain_nil
  ·exact plain_cons ht plain_nil
 exact plain_app (ho _ _ (by decide)) (plain_app (plain_map fun x=>by simp[anyF]) (ho _ _ (by decide)))
theorem kindTag_of (k:Int) (h:k=0∨k=1∨k=2∨k=3∨k=4∨k=5∨k=6∨k=7∨k=8):((kindTag k).toNat:Int)-160=k∧(kindTag k).toNat % 32≠31:=by
 rcases h with rfl | rfl | rfl | rfl | rfl | rfl | rfl | rfl | rfl<;>decide
theorem filterF_plain (t:FT) (h:t.bare=true):(filterF t).1.toNat % 32≠31:=by
 cases t with
 | mk k a v f l an ps=>
  simp only[filterF,filterG]
  by_cases h7:k=7
  ·rw [if_pos h7];show (0x87:UInt8).toNat % 32≠31;decide
  ·rw [if_neg h7]
   by_cases h0:k=0∨k=1∨k=2
   ·rw [if_pos h0];exact (kindTag_of k (by omega)).2
   ·rw [if_neg h0]
    by_cases h4:k=4
    ·rw [if_pos h4];show (0xa4:UInt8).toNat % 32≠31;decide
    ·rw [if_neg h4]
     refine (kindTag_of k ?_).2
     by_cases hk:k=3∨k=5∨k=6∨k=8
     ·omega
     ·exfalso
      have n0:¬(k=0∨k=1):=by omega
      have n2:k≠2:=by omega
      simp only[FT.bare,if_neg n0,if_neg n2,if_neg hk,if_neg h7,if_neg h4] at h
      cases h
theorem mem_depth {p:FT}:∀{ps:List FT},p∈ps→p.depth≤FT.depthL ps
 | q::r,h=>by
  simp only[FT.depthL]
  rcases List.mem_cons.1 h with rfl | h
  ·omega
  ·have:=mem_depth h;omega
theorem attrOk_len {a:List UInt8} (h:FT.attrOk a=true):a.length≤1000:=by
 simp[FT.attrOk] at h;omega
theorem fits_len {a:List UInt8} (h:FT.fits a=true):a≠[]∧a.length≤1000:=by
 simp[FT.fits] at h
 exact⟨fun e=>by subst e;simp at h,by omega⟩
theorem filter_enc (t:FT):∀(d:Nat) (r:List Fd),t.all=true→t.depth≤d→(filterF t).2.length≤2147483647→Rd.filterR d (filterF t::r)=some (t,r):=by
 induction t using FT.induct
 rename_i k a v f l an ps ih
 intro d r ha hd hl
 obtain⟨d,rfl⟩:∃n,d=n+1:=⟨d-1,by simp only[FT.depth] at hd;omega⟩
 simp only[FT.depth] at hd
 simp only[FT.all,Bool.and_eq_true,FT.allL_all,List.all_eq_true] at ha
 obtain⟨hb,hps⟩:=ha
 simp only[filterF] at hl ⊢
 by_cases h7:k=7
 ·subst h7
  simp[FT.bare] at hb
  obtain⟨⟨⟨hao,rfl⟩,⟨⟨rfl,rfl⟩,rfl⟩⟩,rfl⟩:=hb
  simp only[filterG,if_true] at hl ⊢
  rw[Rd.filterR]
  simp only[if_true]
  rw[tagged_enc 0x87 a r (attrOk_len hao)]
  rfl
 ·by_cases h0:k=0∨k=1∨k=2
  ·have hz:a=[]∧v=[]∧f=[]∧l=[]∧an=[]:=by
    rcases h0 with rfl | rfl | rfl<;>(simp[FT.bare] at hb;simp_all)
   obtain⟨rfl,rfl,rfl,rfl,rfl⟩:=hz
   have hk:=kindTag_of k (by omega)
   simp only[filterG,if_neg h7,if_pos h0] at hl ⊢
   rw[filtersF_map] at hl ⊢
   have hpl:Plain (ps.map filterF):=fun g hg=>by
    obtain⟨p,hp,rfl⟩:=List.mem_map.1 hg
    have:=hps p hp
    refine filterF_plain p ?_
    cases p with | mk=>simp only[FT.all,Bool.and_eq_true] at this;exact this.1
   have hm:=many_enc (p:=Rd.filterR d) (xF:=filterF) ps (fun p hp r=>ih p hp d r (hps p hp) (by have:=mem_depth hp;omega) (Nat.le_trans (enc_mem (List.mem_map_of_mem hp)) hl))
   have hin:=inner_enc (t:=kindTag k) (r:=r) (p:=fun G=>(Rd.manyR (Rd.filterR d) G).map fun p=>(FT.mk (((kindTag k).toNat:Int)-160) [] [] [] [] [] p.1,p.2)) hpl hl (x:=FT.mk k [] [] [] [] [] ps) (by simp only[hm,Option.map_some,hk.1])
   rw[Rd.filterR]
   simp only
   have ht7:kindTag k≠0x87:=by rcases h0 with rfl | rfl | rfl<;>decide
   have ht0:kindTag k=0xa0∨kindTag k=0xa1∨kindTag k=0xa2:=by rcases h0 with rfl | rfl | rfl<;>decide
   rw[if_neg ht7,if_pos ht0]
   exact hin
  ·by_cases h4:k=4
   ·subst h4
    simp[FT.bare] at hb
    obtain⟨⟨⟨⟨⟨⟨hany,hao⟩,rfl⟩,hne⟩,rfl⟩,hf⟩,hl2⟩:=hb
    simp only[filterG,if_neg h7,if_neg h0,if_true] at hl ⊢
    have h1:=enc_cons_le hl
    have h2:=enc_cons_le h1.2
    have hp:=pieces_enc f l an (by omega) (by omega) (fun s hs=>fits_len (hany s hs))
    have hin:=inner_enc (t:=0x30) (r:=[]) (plain_pieces f l an) h2.1 hp
    have ha2:=and_enc (f:=fun (a:List UInt8) (p:List UInt8 × List (List UInt8) × List UInt8)=>FT.mk 4 a [] p.1 p.2.2 p.2.1 []) (text_enc a _ (attrOk_len hao)) hin
    rw[Rd.filterR]
    simp only
    rw[if_neg (by decide),if_neg (by decide),if_pos trivial]
    exact inner_enc (plain_cons (by simp[textF]) (plain_cons (by simp) plain_nil)) hl ha2
   ·have h3:k=3∨k=5∨k=6∨k=8:=by
     by_cases hk:k=3∨k=5∨k=6∨k=8
     ·exact hk
     ·exfalso
      have n0:¬(k=0∨k=1):=by omega
      have n2:k≠2:=by omega
      simp only[FT.bare,if_neg n0,if_neg n2,if_neg hk,if_neg h7,if_neg h4] at hb
      cases hb
    have hk:=kindTag_of k (by omega)
    have hz:(FT.attrOk a=true∧FT.fits v=true)∧f=[]∧l=[]∧an=[]∧ps=[]:=by
     rcases h3 with rfl | rfl | rfl | rfl<;>(simp[FT.bare] at hb;simp_all)
    obtain⟨⟨hao,hv⟩,rfl,rfl,rfl,rfl⟩:=hz
    simp only[filterG,if_neg h7,if_neg h0,if_neg h4] at hl ⊢
    have ha2:=and_enc (f:=fun (a v:List UInt8)=>FT.mk (((kindTag k).toNat:Int)-160) a v [] [] [] []) (text_enc a [textF v] (attrOk_len hao)) (text_enc v [] (fits_len hv).2)
    have hin:=inner_enc (t:=kindTag k) (r:=r) (plain_cons (by simp[textF]) (plain_cons (by simp[textF]) plain_nil)) hl ha2
    rw[hk.1] at hin
    rw[Rd.filterR]
    simp only
    have e1:kindTag k≠0x87∧¬(kindTag k=0xa0∨kindTag k=0xa1∨kindTag k=0xa2)∧kindTag k≠0xa4∧(kindTag k=0xa3∨kindTag k=0xa5∨kindTag k=0xa6∨kindTag k=0xa8):=by
     rcases h3 with rfl | rfl | rfl | rfl<;>decide
    rw[if_neg e1.1,if_neg e1.2.1,if_neg e1.2.2.1,if_pos e1.2.2.2,hk.1]
    exact hin
end Go.Proofs.YtcpjmgfloimfhaaGreat
namespace Go.Proofs.YtcpjmgfloimfhaaGreat
open Go.RowKit
open Wr
set_option linter.unusedVariables false
def flen (F:List Fd):Nat:=(enc F).length
theorem flen_nil:flen []=0:=rfl
theorem flen_cons (f:Fd) (F:List Fd):flen (f::F)=(Ber.fieldOf f.1 f.2).length+flen F:=by unfold flen;rw[enc,List.length_append]
theorem flen_app (F G:List Fd):flen (F++G)=flen F+flen G:=by unfold flen;rw[enc_app,List.length_append]
theorem wide_mono {a b:Nat} (h:a≤b):Ber.wide a≤Ber.wide b:=by unfold Ber.wide;split<;>split<;>(try split)<;>(try split)<;>(try split)<;>(try split)<;>omega
theorem lenOf_len (n:Nat) (h:n≤2147483647):(Ber.lenOf (n:Int)).length=if n<128 then 1 else 1+Ber.wide n:=by
 unfold Ber.lenOf
 rw[if_neg (by omega)]
 by_cases h1:n<128
 ·rw [if_pos (by omega),if_pos h1];rfl
 ·rw [if_neg (by omega),if_neg h1]
  simp[Ber.be_length]
  omega
theorem fieldOf_mono {t t':UInt8} {a b:List UInt8} (h:a.length≤b.length) (hb:b.length≤2147483647):(Ber.fieldOf t a).length≤(Ber.fieldOf t' b).length:=by
 rw[Ber.fieldOf_length,Ber.fieldOf_length,lenOf_len _ (by omega),lenOf_len _ hb]
 have:=wide_mono h
 split<;>split<;>omega
theorem un_less (l:List UInt8):Ber.un l<256 ^ l.length:=by
 have h:∀(l:List UInt8) (n k:Nat),n<256 ^ k→l.foldl (fun n c=>n*256+c.toNat) n<256 ^ (k+l.length):=by
  intro l
  induction l with
  | nil=>intro n k h;simpa using h
  | cons a r ih=>
   intro n k h
   have:=a.toNat_lt
   have h2:=ih (n*256+a.toNat) (k+1) (by rw[Nat.pow_succ];omega)
   rw[List.foldl_cons,List.length_cons]
   rwa [show k+1+r.length=k+(r.length+1) by omega] at h2
 have:=h l 0 0 (by simp)
 unfold Ber.un
 simpa using this
theorem wide_of {n k:Nat} (h:n<256 ^ k) (h1:1≤k):Ber.wide n≤k∨4<k:=by
 rcases Nat.lt_or_ge 4 k with h4 | h4
 ·exact .inr h4
 ·left
  have:k=1∨k=2∨k=3∨k=4:=by omega
  unfold Ber.wide
  rcases this with rfl | rfl | rfl | rfl<;>(split<;>(try split)<;>(try split)<;>omega)
theorem cutLen_short (r:List UInt8) (h:(Ber.cutLen r).2.2=0) (hn:(Ber.cutLen r).1≤2147483647):(Ber.lenOf ((Ber.cutLen r).1:Int)).length≤(Ber.cutLen r).2.1∧(Ber.cutLen r).2.1≤r.length:=by
 cases r with
 | nil=>simp[Ber.cutLen] at h
 | cons f r=>
  have hf:=f.toNat_lt
  rw[Ber.cutLen] at h hn ⊢
  by_cases h1:f.toNat<128
  ·rw [if_pos h1]
   simp only
   rw[lenOf_len _ (by omega),if_pos h1]
   simp
  ·rw [if_neg h1] at h hn ⊢
   by_cases h2:f.toNat-128<1∨4<f.toNat-128
   ·rw [if_pos h2] at h;simp at h
   ·rw [if_neg h2] at h hn ⊢
    by_cases h3:r.length<f.toNat-128
    ·rw [if_pos h3] at h;simp at h
    ·rw [if_neg h3] at hn ⊢
     simp only at hn ⊢
     have hu:=un_less (r.take (f.toNat-128))
     rw[List.length_take,Nat.min_eq_left (by omega)] at hu
     have hw:=wide_of hu (by omega)
     rw[lenOf_len _ hn,List.length_cons]
     split<;>omega
theorem takeOf_short (rem:List UInt8) (hne:rem≠[]) (h:(Ber.takeOf rem).2.2.2=0) (hl:rem.length≤2147483647):
  (Ber.fieldOf (UInt8.ofNat (Ber.takeOf rem).1) (Ber.takeOf rem).2.1).length+(Ber.takeOf rem).2.2.1.length≤rem.length:=by
 cases rem with
 | nil=>exact absurd rfl hne
 | cons t r=>
  rw[Ber.fieldOf_length]
  rw[Ber.takeOf] at h ⊢
  by_cases h1:t.toNat % 32=31
  ·rw [if_pos h1] at h;simp at h
  ·rw [if_neg h1] at h ⊢
   by_cases h2:(Ber.cutLen r).2.2≠0
   ·rw [if_pos h2] at h;exact absurd h h2
   ·rw [if_neg h2] at h ⊢
    have h2:(Ber.cutLen r).2.2=0:=by simpa using h2
    by_cases h3:(Ber.cutRest r).length<(Ber.cutLen r).1
    ·rw [if_pos h3] at h;simp at h
    ·rw [if_neg h3] at h ⊢
     simp only[List.length_cons] at hl
     have hrl:=Ber.cutRest_le r
     have hk:=cutLen_short r h2 (by omega)
     have hr:(Ber.cutRest r).length=r.length-(Ber.cutLen r).2.1:=by rw[Ber.cutRest,if_pos h2,List.length_drop]
     simp only[List.length_take,List.length_drop,List.length_cons]
     rw[Nat.min_eq_left (by omega)]
     omega
theorem listGo_short:∀(n:Nat) (T:List UInt8) (L:List (List UInt8)) (rem:List UInt8),T.length=L.length→rem.length≤2147483647→rem.length≤n→(Ber.listGo n T L rem).2.2=0→
  flen ((Ber.listGo n T L rem).1.zip (Ber.listGo n T L rem).2.1)≤flen (T.zip L)+rem.length
 | 0,T,L,rem,hT,hl,hn,h=>by simp[Ber.listGo]
 | n+1,T,L,rem,hT,hl,hn,h=>by
  rw[Ber.listGo] at h ⊢
  by_cases hr:rem=[]
  ·rw [if_pos hr];simp
  ·rw [if_neg hr] at h ⊢
   by_cases hc:(Ber.takeOf rem).2.2.2≠0
   ·rw [if_pos hc] at h;exact absurd h hc
   ·rw [if_neg hc] at h ⊢
    have h1:=takeOf_short rem hr (by simpa using hc) hl
    have h2:=(Ber.takeOf_less rem hr).1
    have:=listGo_short n (T++[UInt8.ofNat (Ber.takeOf rem).1]) (L++[(Ber.takeOf rem).2.1]) (Ber.takeOf rem).2.2.1 (by simp[hT]) (by omega) (by omega) h
    rw[List.zip_append hT,flen_app] at this
    simp only[List.zip_cons_cons,List.zip_nil_left,flen_cons,flen_nil] at this
    omega
theorem fields_short {c:List UInt8} {F:List Fd} (h:Rd.fieldsOf c=some F) (hl:c.length≤2147483647):flen F≤c.length:=by
 unfold Rd.fieldsOf at h
 split at h
 ·rename_i h0
  have:=listGo_short c.length [] [] c rfl hl (Nat.le_refl _) h0
  simp only[Option.some.injEq] at h
  rw[h] at this
  simpa[flen_nil] using this
 ·cases h
def Good {α:Type} (p:Rdr α) (ok:α→Prop) (xs:α→List Fd):Prop:=∀F x G,flen F≤16384→p F=some (x,G)→ok x∧flen (xs x)+flen G≤flen F
theorem take_some {t:UInt8} {F G:List Fd} {c:List UInt8} (h:Rd.takeR t F=some (c,G)):F=(t,c)::G:=by
 cases F with
 | nil=>cases h
 | cons f r=>
  obtain⟨t',x⟩:=f
  by_cases ht:t'=t
  ·rw [show Rd.takeR t ((t',x)::r)=some (x,r) by simp[Rd.takeR,ht]] at h
   cases h;rw[ht]
  ·rw [show Rd.takeR t ((t',x)::r)=none by simp[Rd.takeR,ht]] at h
   cases h
theorem flen_content {t:UInt8} {c:List UInt8} {r:List Fd}:c.length≤flen ((t,c)::r):=by rw[flen_cons,Ber.fieldOf_length];simp only;omega
theorem tagged_good (t:UInt8):Good (Rd.taggedR t) (fun s=>s.length≤1000) (fun s=>[(t,s)]):=fun F x G hl h=>by
 unfold Rd.taggedR at h
 cases ht:Rd.takeR t F with
 | none=>rw[ht] at h;cases h
 | some q=>
  obtain⟨c,r⟩:=q
  rw[ht] at h
  obtain rfl:=take_some ht
  simp only at h
  split at h
  ·rename_i hc
   cases h
   refine⟨hc,?_⟩
   rw[flen_cons,flen_cons,flen_nil]
   omega
  ·cases h
theorem text_good:Good Rd.textR (fun s=>s.length≤1000) (fun s=>[textF s]):=tagged_good 4
theorem num_good (t:UInt8) (most:Int):Good (Rd.numR t most) (fun n=>0≤n∧n≤most) (fun n=>[numF t n]):=fun F x G hl h=>by
 unfold Rd.numR at h
 cases ht:Rd.takeR t F with
 | none=>rw[ht] at h;cases h
 | some q=>
  obtain⟨c,r⟩:=q
  rw[ht] at h
  obtain rfl:=take_some ht
  simp only at h
  split at h
  ·rename_i hc
   cases h
   refine⟨hc.2,?_⟩
   have he:Ber.intOfs (Ber.toInt c).1=c:=by
    have h0:=hc.1
    unfold Ber.toInt at h0 ⊢
    split at h0
    ·rename_i hq
     rw[if_pos hq]
     exact (Ber.intOfs_sv c hq.1 hq.2.1).2 hq.2.2
    ·simp at h0
   simp only[flen_cons,flen_nil,numF,he]
   omega
  ·cases h
theorem flag_good:Good Rd.flagR (fun _=>True) (fun b=>[flagF b]):=fun F x G hl h=>by
 unfold Rd.flagR at h
 cases ht:Rd.takeR 1 F with
 | none=>rw[ht] at h;cases h
 | some q=>
  obtain⟨c,r⟩:=q
  rw[ht] at h
  obtain rfl:=take_some ht
  simp only at h
  split at h
  ·rename_i hc
   cases h
   refine⟨trivial,?_⟩
   have h1:c.length=1:=by
    cases c with
    | nil=>simp[Ber.toBool] at hc
    | cons b r=>
     cases r with
     | nil=>rfl
     | cons b2 r=>simp[Ber.toBool] at hc
   simp only[flen_cons,flen_nil,flagF,Ber.fieldOf_length,h1,List.length_singleton]
   omega
  ·cases h
theorem inner_some {α:Type} {t:UInt8} {p:Rdr α} {F G:List Fd} {x:α} (h:Rd.innerR t p F=some (x,G)):∃c H,F=(t,c)::G∧Rd.fieldsOf c=some H∧p H=some (x,[]):=by
 unfold Rd.innerR at h
 cases ht:Rd.takeR t F with
 | none=>rw[ht] at h;cases h
 | some q=>
  obtain⟨c,r⟩:=q
  rw[ht] at h
  obtain rfl:=take_some ht
  simp only[Rd.wholeR] at h
  cases hf:Rd.fieldsOf c with
  | none=>rw[hf] at h;simp at h
  | some H=>
   rw[hf] at h
   simp only at h
   cases hp:p H with
   | none=>rw[hp] at h;simp at h
   | some z=>
    obtain⟨y,K⟩:=z
    rw[hp] at h
    cases K with
    | nil=>
     simp only[Option.map_some,Option.some.injEq,Prod.mk.injEq] at h
     obtain⟨rfl,rfl⟩:=h
     exact⟨c,H,rfl,hf,hp⟩
    | cons k K=>simp at h
theorem inner_good {α:Type} {p:Rdr α} {ok:α→Prop} {xs:α→List Fd} (t:UInt8) (hp:Good p ok xs):Good (Rd.innerR t p) ok (fun x=>[(t,enc (xs x))]):=fun F x G hl h=>by
 obtain⟨c,H,rfl,h1,h2⟩:=inner_some h
 have hc:=flen_content (t:=t) (c:=c) (r:=G)
 have hH:=fields_short h1 (by omega)
 obtain⟨q1,q2⟩:=hp H x [] (by omega) h2
 refine⟨q1,?_⟩
 rw[flen_cons,flen_cons,flen_nil]
 have:=fieldOf_mono (t:=t) (t':=t) (a:=enc (xs x)) (b:=c) (by rw[flen_nil] at q2;show flen (xs x)≤_;omega) (by omega)
 simp only
 omega
theorem and_good {α β γ:Type} {p:Rdr α} {q:Rdr β} {f:α→β→γ} {ok1:α→Prop} {ok2:β→Prop} {ok:γ→Prop} {xs:α→List Fd} {ys:β→List Fd} {zs:γ→List Fd} (hp:Good p ok1 xs) (hq:Good q ok2 ys)
  (ho:∀x y,ok1 x→ok2 y→ok (f x y)) (hz:∀x y,flen (zs (f x y))≤flen (xs x)+flen (ys y)):Good (Rd.andR p q f) ok zs:=fun F x G hl h=>by
 unfold Rd.andR at h
 cases h1:p F with
 | none=>rw[h1] at h;cases h
 | some z=>
  obtain⟨x1,G1⟩:=z
  rw[h1] at h
  simp only at h
  have a1:=hp F x1 G1 hl h1
  cases h2:q G1 with
  | none=>rw[h2] at h;cases h
  | some z=>
   obtain⟨x2,G2⟩:=z
   rw[h2] at h
   cases h
   have a2:=hq G1 x2 _ (by omega) h2
   have:=hz x1 x2
   exact⟨ho _ _ a1.1 a2.1,by omega⟩
theorem manyGo_good {α:Type} {p:Rdr α} {ok:α→Prop} {xF:α→Fd} (hp:Good p ok (fun x=>[xF x])):∀(n:Nat) (F:List Fd) (acc l:List α),flen F≤16384→Rd.manyGo p n F acc=some l→∃r,l=acc++r∧(∀x∈r,ok x)∧flen (r.map xF)≤flen F
 | n,[],acc,l,hl,h=>by
  cases n<;>(simp only[Rd.manyGo,Option.some.injEq] at h;exact⟨[],by simp[h],by simp,by simp[flen_nil]⟩)
 | 0,f::F,acc,l,hl,h=>by simp[Rd.manyGo] at h
 | n+1,f::F,acc,l,hl,h=>by
  rw[Rd.manyGo] at h
  cases h1:p (f::F) with
  | none=>rw[h1] at h;cases h
  | some z=>
   obtain⟨x,G⟩:=z
   rw[h1] at h
   simp only at h
   have a:=hp _ x G hl h1
   obtain⟨r,e,h2,h3⟩:=manyGo_good hp n G _ l (by omega) h
   refine⟨x::r,by rw[e];simp,fun y hy=>?_,?_⟩
   ·rcases List.mem_cons.1 hy with rfl | hy
    ·exact a.1
    ·exact h2 y hy
   ·rw [List.map_cons,flen_cons]
    have h4:=a.2
    simp only[flen_cons,flen_nil] at h4
    simp only[flen_cons]
    omega
theorem many_good {α:Type} {p:Rdr α} {ok:α→Prop} {xF:α→Fd} (hp:Good p ok (fun x=>[xF x])):Good (Rd.manyR p) (fun l=>∀x∈l,ok x) (fun l=>l.map xF):=fun F l G hl h=>by
 unfold Rd.manyR at h
 cases h1:Rd.manyGo p F.length F [] with
 | none=>rw[h1] at h;cases h
 | some r=>
  rw[h1] at h
  simp only[Option.map_some,Option.some.injEq,Prod.mk.injEq] at h
  obtain⟨rfl,rfl⟩:=h
  obtain⟨r',e,h2,h3⟩:=manyGo_good hp _ F [] r hl h1
  rw[List.nil_append] at e
  subst e
  exact⟨h2,by rw[flen_nil];omega⟩
theorem list_good {α:Type} {p:Rdr α} {ok:α→Prop} {xF:α→Fd} (t:UInt8) (hp:Good p ok (fun x=>[xF x])):Good (Rd.listR t p) (fun l=>∀x∈l,ok x) (fun l=>[(t,enc (l.map xF))]):=inner_good t (many_good hp)
theorem some_good {α:Type} {p:Rdr α} {ok:α→Prop} {xF:α→Fd} (t:UInt8) (hp:Good p ok (fun x=>[xF x])):Good (Rd.someR t p) (fun l=>l≠[]∧∀x∈l,ok x) (fun l=>[(t,enc (l.map xF))]):=fun F l G hl h=>by
 unfold Rd.someR at h
 cases h1:Rd.listR t p F with
 | none=>rw[h1] at h;cases h
 | some q=>
  obtain⟨r,K⟩:=q
  rw[h1] at h
  cases r with
  | nil=>cases h
  | cons x r=>
   cases h
   have:=list_good t hp F (x::r) _ hl h1
   exact⟨⟨by simp,this.1⟩,this.2⟩
theorem attr_good:Good Rd.attrR okA (fun a=>[attrF a]):=
 inner_good 0x30 (and_good (ok:=okA) (zs:=fun a=>[textF a.1,(0x31,enc (a.2.map textF))]) text_good (list_good 0x31 text_good) (fun x y h1 h2=>⟨h1,h2⟩) (fun x y=>by simp only[flen_cons,flen_nil];omega))
theorem change_good:Good Rd.changeR okH (fun a=>[changeF a]):=
 inner_good 0x30 (and_good (ok:=okH) (zs:=fun c=>[numF 0x0a c.1,attrF c.2]) (num_good 0x0a 3) attr_good (fun x y h1 h2=>⟨h1.1,h1.2,h2⟩) (fun x y=>by simp only[flen_cons,flen_nil];omega))
theorem crit_good:Good Rd.critR (fun _=>True) (fun b=>if b then [flagF true] else []):=fun F x G hl h=>by
 unfold Rd.critR at h
 split at h
 ·have:=flag_good F x G hl h
  refine⟨trivial,?_⟩
  cases x with
  | true=>exact this.2
  | false=>have:=this.2;simp only[flen_cons,flen_nil,Bool.false_eq_true,if_false] at this ⊢;omega
 ·cases h
  exact⟨trivial,by simp[flen_nil]⟩
theorem value_good:Good Rd.valueR (fun v=>v.2.length≤1000∧(v.1=false→v.2=[])) (fun v=>if v.1 then [textF v.2] else []):=fun F x G hl h=>by
 unfold Rd.valueR at h
 split at h
 ·cases h
  exact⟨⟨by simp,fun _=>rfl⟩,by simp[flen_nil]⟩
 ·cases ht:Rd.textR F with
  | none=>rw[ht] at h;cases h
  | some q=>
   obtain⟨s,r⟩:=q
   rw[ht] at h
   cases h
   have:=text_good F s _ hl ht
   exact⟨⟨this.1,fun h=>by cases h⟩,this.2⟩
theorem control_good:Good Rd.controlR okC (fun c=>[controlF c]):=by
 have h1:Good (Rd.andR Rd.textR Rd.critR Prod.mk) (fun a=>a.1.length≤1000) (fun a=>textF a.1::(if a.2 then [flagF true] else [])):=
  and_good text_good crit_good (fun x y h1 h2=>h1) (fun x y=>by simp only[flen_cons,flen_nil];omega)
 exact inner_good 0x30 (and_good (ok:=okC) (zs:=fun c=>textF c.oid::(critF c++valF c)) h1 value_good (fun x y h1 h2=>⟨h1,h2.1,h2.2⟩) (fun x y=>by simp only[flen_cons,flen_app,critF,valF];omega))
end Go.Proofs.YtcpjmgfloimfhaaGreat
namespace Go.Proofs.YtcpjmgfloimfhaaGreat
open Go.RowKit
open Wr
set_option linter.unusedVariables false
theorem piece_good (t:UInt8):Good (Rd.pieceR t) (fun s=>s≠[]∧s.length≤1000) (fun s=>[(t,s)]):=fun F x G hl h=>by
 unfold Rd.pieceR at h
 cases ht:Rd.taggedR t F with
 | none=>rw[ht] at h;cases h
 | some q=>
  obtain⟨s,r⟩:=q
  rw[ht] at h
  cases s with
  | nil=>cases h
  | cons y s=>
   cases h
   have:=tagged_good t F _ _ hl ht
   exact⟨⟨by simp,this.1⟩,this.2⟩
theorem opt_good (t:UInt8):Good (Rd.optR t) (fun s=>s.length≤1000) (optF t):=fun F x G hl h=>by
 unfold Rd.optR at h
 split at h
 ·have a:=piece_good t F x G hl h
  refine⟨a.1.2,?_⟩
  unfold optF
  rw[if_neg a.1.1]
  exact a.2
 ·cases h
  exact⟨by simp,by simp[optF,flen_nil]⟩
theorem anyGo_good:∀(n:Nat) (F:List Fd) (acc l:List (List UInt8)) (G:List Fd),flen F≤16384→Rd.anyGo n F acc=some (l,G)→∃r,l=acc++r∧flen (r.map anyF)+flen G≤flen F
 | 0,F,acc,l,G,hl,h=>by
  unfold Rd.anyGo at h
  split at h
  ·cases h
  ·cases h;exact⟨[],by simp,by simp[flen_nil]⟩
 | n+1,F,acc,l,G,hl,h=>by
  rw[Rd.anyGo] at h
  split at h
  ·cases h1:Rd.pieceR 0x81 F with
   | none=>rw[h1] at h;cases h
   | some z=>
    obtain⟨x,K⟩:=z
    rw[h1] at h
    simp only at h
    have a:=piece_good 0x81 _ x K hl h1
    obtain⟨r,e,h3⟩:=anyGo_good n K _ l G (by omega) h
    refine⟨x::r,by rw[e];simp,?_⟩
    have h4:=a.2
    rw[List.map_cons,flen_cons]
    simp only[flen_cons,flen_nil,anyF] at h4 ⊢
    omega
  ·cases h;exact⟨[],by simp,by simp[flen_nil]⟩
theorem any_good:Good Rd.anyR (fun _=>True) (fun l=>l.map anyF):=fun F x G hl h=>by
 obtain⟨r,e,h1⟩:=anyGo_good _ F [] x G hl h
 rw[List.nil_append] at e
 subst e
 exact⟨trivial,h1⟩
theorem pieces_good:Good Rd.piecesR (fun _=>True) (fun p=>optF 0x80 p.1++(p.2.1.map anyF++optF 0x82 p.2.2)):=
 and_good (xs:=fun (a:List UInt8 × List (List UInt8))=>optF 0x80 a.1++a.2.map anyF) (and_good (opt_good 0x80) any_good (ok:=fun _=>True) (zs:=fun (a:List UInt8 × List (List UInt8))=>optF 0x80 a.1++a.2.map anyF) (fun _ _ _ _=>trivial) (fun x y=>by simp only[flen_app];omega)) (opt_good 0x82) (fun _ _ _ _=>trivial)
  (fun x y=>by simp only[flen_app];omega)
def g4:FT→List Fd | .mk k a v f l an ps=>[textF a,(0x30,enc (optF 0x80 f++(an.map anyF++optF 0x82 l)))]
def g3:FT→List Fd | .mk k a v f l an ps=>[textF a,textF v]
theorem fieldOf_tag (t t':UInt8) (c:List UInt8):(Ber.fieldOf t c).length=(Ber.fieldOf t' c).length:=by rw[Ber.fieldOf_length,Ber.fieldOf_length]
theorem filter_good:∀d,Good (Rd.filterR d) (fun _=>True) (fun t=>[filterF t])
 | 0=>fun F x G hl h=>by cases h
 | d+1=>fun F x G hl h=>by
  have ih:=filter_good d
  refine⟨trivial,?_⟩
  cases F with
  | nil=>cases h
  | cons f r=>
   obtain⟨t,c⟩:=f
   rw[Rd.filterR] at h
   simp only at h
   by_cases h7:t=0x87
   ·rw [if_pos h7] at h
    cases ht:Rd.taggedR t ((t,c)::r) with
    | none=>rw[ht] at h;cases h
    | some q=>
     obtain⟨s,K⟩:=q
     rw[ht] at h
     cases h
     have a:=tagged_good t _ s _ hl ht
     have e:(filterF (.mk 7 s [] [] [] [] []))=(0x87,s):=by simp[filterF,filterG]
     simp only[flen_cons,flen_nil,e] at a ⊢
     have:=fieldOf_tag t 0x87 s
     omega
   ·rw [if_neg h7] at h
    by_cases h0:t=0xa0∨t=0xa1∨t=0xa2
    ·rw [if_pos h0] at h
     have hg:Good (fun G=>(Rd.manyR (Rd.filterR d) G).map fun p=>(FT.mk ((t.toNat:Int)-160) [] [] [] [] [] p.1,p.2)) (fun x=>∃ps,x=FT.mk ((t.toNat:Int)-160) [] [] [] [] [] ps) (fun x=>x.parts.map filterF):=fun F x G hl h=>by
      replace h:(Rd.manyR (Rd.filterR d) F).map (fun p=>(FT.mk ((t.toNat:Int)-160) [] [] [] [] [] p.1,p.2))=some (x,G):=h
      cases hm:Rd.manyR (Rd.filterR d) F with
      | none=>rw[hm] at h;cases h
      | some q=>
       obtain⟨ps,K⟩:=q
       rw[hm] at h
       cases h
       exact⟨⟨ps,rfl⟩,(many_good ih F ps _ hl hm).2⟩
     have a:=inner_good t hg _ x G hl h
     obtain⟨⟨ps,rfl⟩,a2⟩:=a
     have e:(filterF (FT.mk ((t.toNat:Int)-160) [] [] [] [] [] ps)).2=enc (ps.map filterF):=by
      rcases h0 with rfl | rfl | rfl<;>simp[filterF,filterG,filtersF_map]
     simp only[flen_cons,flen_nil,FT.parts] at a2 ⊢
     rw[e]
     rw[fieldOf_tag _ t]
     omega
    ·rw [if_neg h0] at h
     by_cases h4:t=0xa4
     ·rw [if_pos h4] at h
      have hg:Good (Rd.andR Rd.textR (Rd.innerR 0x30 Rd.piecesR) fun a p=>FT.mk 4 a [] p.1 p.2.2 p.2.1 []) (fun x=>∃(a:List UInt8) (p:List UInt8 × List (List UInt8) × List UInt8),x=FT.mk 4 a [] p.1 p.2.2 p.2.1 []) g4:=
       and_good text_good (inner_good 0x30 pieces_good) (fun x y _ _=>⟨x,y,rfl⟩) (fun x y=>by simp only[g4,flen_cons,flen_nil];omega)
      have a:=inner_good t hg _ x G hl h
      obtain⟨⟨s,p,rfl⟩,a2⟩:=a
      have e:(filterF (FT.mk 4 s [] p.1 p.2.2 p.2.1 [])).2=enc (g4 (FT.mk 4 s [] p.1 p.2.2 p.2.1 [])):=by
       simp[filterF,filterG,g4]
      simp only[flen_cons,flen_nil] at a2 ⊢
      rw[e,fieldOf_tag _ t]
      omega
     ·rw [if_neg h4] at h
      by_cases h3:t=0xa3∨t=0xa5∨t=0xa6∨t=0xa8
      ·rw [if_pos h3] at h
       have hg:Good (Rd.andR Rd.textR Rd.textR fun a v=>FT.mk ((t.toNat:Int)-160) a v [] [] [] []) (fun x=>∃a v,x=FT.mk ((t.toNat:Int)-160) a v [] [] [] []) g3:=
        and_good text_good text_good (fun x y _ _=>⟨x,y,rfl⟩) (fun x y=>by simp only[g3,flen_cons,flen_nil];omega)
       have a:=inner_good t hg _ x G hl h
       obtain⟨⟨s,v,rfl⟩,a2⟩:=a
       have e:(filterF (FT.mk ((t.toNat:Int)-160) s v [] [] [] [])).2=enc (g3 (FT.mk ((t.toNat:Int)-160) s v [] [] [] [])):=by
        rcases h3 with rfl | rfl | rfl | rfl<;>simp[filterF,filterG,g3]
       simp only[flen_cons,flen_nil] at a2 ⊢
       rw[e,fieldOf_tag _ t]
       omega
      ·rw [if_neg h3] at h;cases h
end Go.Proofs.YtcpjmgfloimfhaaGreat
namespace Go.Proofs.YtcpjmgfloimfhaaGreat
open Go.RowKit
open Wr
set_option linter.unusedVariables false
def keptM (m:MT):MT:=
 if m.kind=0 then { id:=m.id,kind:=m.kind,ver:=m.ver,name:=m.name,pw:=m.pw,ctls:=m.ctls }
 else if m.kind=3 then { id:=m.id,kind:=m.kind,name:=m.name,scope:=m.scope,deref:=m.deref,size:=m.size,time:=m.time,tonly:=m.tonly,filt:=m.filt,attrs:=m.attrs,ctls:=m.ctls }
 else if m.kind=6 then { id:=m.id,kind:=m.kind,name:=m.name,chs:=m.chs,ctls:=m.ctls }
 else if m.kind=4∨m.kind=8 then { id:=m.id,kind:=m.kind,name:=m.name,lst:=m.lst,ctls:=m.ctls }
 else if m.kind=10 then { id:=m.id,kind:=m.kind,name:=m.name,ctls:=m.ctls }
 else if m.kind=12 then { id:=m.id,kind:=m.kind,name:=m.name,nrdn:=m.nrdn,delold:=m.delold,hassup:=m.hassup,sup:=if m.hassup then m.sup else [],ctls:=m.ctls }
 else if m.kind=14 then { id:=m.id,kind:=m.kind,name:=m.name,attr:=m.attr,value:=m.value,ctls:=m.ctls }
 else if m.kind=16 then { id:=m.id,kind:=m.kind,target:=m.target,ctls:=m.ctls }
 else if m.kind=1∨m.kind=5∨m.kind=7∨m.kind=9∨m.kind=11∨m.kind=13∨m.kind=15∨m.kind=24 then { id:=m.id,kind:=m.kind,code:=m.code,matched:=m.matched,text:=m.text,refs:=m.refs,ctls:=m.ctls }
 else if m.kind=19 then { id:=m.id,kind:=m.kind,refs:=m.refs,ctls:=m.ctls }
 else { id:=m.id,kind:=m.kind,ctls:=m.ctls }
def knownK (k:Int):Prop:=(0≤k∧k≤16)∨k=19∨k=24
def in31 (n:Int):Prop:=0≤n∧n≤2147483647
structure Bounds (m:MT):Prop where
 ints:in31 m.id∧in31 m.size∧in31 m.time∧in31 m.target∧in31 m.code
 ver:0≤m.ver∧m.ver≤127
 scope:0≤m.scope∧m.scope≤2
 deref:0≤m.deref∧m.deref≤3
 filt:m.kind=3→m.filt.formed=true
 refs0:m.kind=19→m.refs≠[]
 texts:m.name.length≤1000∧m.pw.length≤1000∧m.nrdn.length≤1000∧m.sup.length≤1000∧m.attr.length≤1000∧m.value.length≤1000∧m.matched.length≤1000∧m.text.length≤1000
 attrs:∀s∈m.attrs,s.length≤1000
 refs:∀s∈m.refs,s.length≤1000
 lst:∀a∈m.lst,okA a
 chs:∀c∈m.chs,okH c
 ctls:∀c∈m.ctls,okC c
structure FormedM (m:MT):Prop where
 known:knownK m.kind
 kept:keptM m=m
 ok:Bounds m
theorem then_enc {a b:Rd.MR} {m m1 m2:MT} {F G H:List Fd} (h1:a m F=some (m1,G)) (h2:b m1 G=some (m2,H)):Rd.thenR a b m F=some (m2,H):=by
 simp only[Rd.thenR,h1,h2]
theorem upd_enc {α:Type} {p:Rdr α} {u:MT→α→MT} {m:MT} {x:α} {F G:List Fd} (h:p F=some (x,G)):Rd.updR p u m F=some (u m x,G):=by
 simp only[Rd.updR,h,Option.map_some]
theorem attrF_tag (a:Atr):(attrF a).1.toNat % 32≠31:=by simp[attrF]
theorem changeF_tag (a:Int × Atr):(changeF a).1.toNat % 32≠31:=by simp[changeF]
theorem controlF_tag (a:Ct):(controlF a).1.toNat % 32≠31:=by simp[controlF]
theorem name_enc (m:MT) (s:List UInt8) (r:List Fd) (h:s.length≤1000):Rd.nameR m (textF s::r)=some ({ m with name:=s },r):=upd_enc (u:=fun m x=>{ m with name:=x }) (text_enc s r h)
theorem listA_enc (l:List Atr) (r:List Fd) (h:∀a∈l,okA a) (hl:(enc (l.map attrF)).length≤2147483647):Rd.listR 48 Rd.attrR ((0x30,enc (l.map attrF))::r)=some (l,r):=
 list_enc l r (fun x hx r=>attr_enc x r (h x hx) (Nat.le_trans (enc_mem (List.mem_map_of_mem hx)) hl)) (plain_map attrF_tag) hl
theorem listH_enc (l:List (Int × Atr)) (r:List Fd) (h:∀a∈l,okH a) (hl:(enc (l.map changeF)).length≤2147483647):Rd.listR 48 Rd.changeR ((0x30,enc (l.map changeF))::r)=some (l,r):=
 list_enc l r (fun x hx r=>change_enc x r (h x hx) (Nat.le_trans (enc_mem (List.mem_map_of_mem hx)) hl)) (plain_map changeF_tag) hl
theorem refs_enc (m:MT) (l:List (List UInt8)) (hm:m.refs=[]) (h:∀s∈l,s.length≤1000) (hl:(enc (refsF l)).length≤2147483647):Rd.refsR m (refsF l)=some ({ m with refs:=l },[]):=by
 unfold Rd.refsR refsF at *
 by_cases h0:l=[]
 ·subst h0
  simp only[if_true]
  rw[←hm]
 ·rw [if_neg h0] at hl ⊢
  have h1:=enc_cons_le hl
  rw[if_neg (by simp),some_enc l [] h0 (fun x hx r=>text_enc x r (h x hx)) (plain_map fun x=>by simp[textF]) h1.1]
  rfl
theorem oper_tag (k:Int) (h:knownK k):Rd.kindOf (operTag k)=k∧opV k=((operTag k).toNat:Int)∧(operTag k).toNat % 32≠31:=by
 have hk:k=0∨k=1∨k=2∨k=3∨k=4∨k=5∨k=6∨k=7∨k=8∨k=9∨k=10∨k=11∨k=12∨k=13∨k=14∨k=15∨k=16∨k=19∨k=24:=by
  unfold knownK at h;omega
 rcases hk with rfl | rfl | rfl | rfl | rfl | rfl | rfl | rfl | rfl | rfl | rfl | rfl | rfl | rfl | rfl | rfl | rfl | rfl | rfl<;>decide
theorem kept_zero {m:MT} (h:keptM m=m):(m.kind≠0→m.ver=0∧m.pw=[])∧(m.kind≠3→m.scope=0∧m.deref=0∧m.size=0∧m.time=0∧m.tonly=false∧m.filt=.mk 0 [] [] [] [] [] []∧m.attrs=[])∧
  (m.kind≠6→m.chs=[])∧(¬(m.kind=4∨m.kind=8)→m.lst=[])∧(¬(m.kind=0∨m.kind=3∨m.kind=6∨m.kind=4∨m.kind=8∨m.kind=10∨m.kind=12∨m.kind=14)→m.name=[])∧
  (m.kind≠12→m.nrdn=[]∧m.delold=false∧m.hassup=false∧m.sup=[])∧(m.hassup=false→m.sup=[])∧(m.kind≠14→m.attr=[]∧m.value=[])∧(m.kind≠16→m.target=0)∧
  (¬(m.kind=1∨m.kind=5∨m.kind=7∨m.kind=9∨m.kind=11∨m.kind=13∨m.kind=15∨m.kind=24)→m.code=0∧m.matched=[]∧m.text=[])∧
  (¬(m.kind=1∨m.kind=5∨m.kind=7∨m.kind=9∨m.kind=11∨m.kind=13∨m.kind=15∨m.kind=24∨m.kind=19)→m.refs=[]):=by
 unfold keptM at h
 rw[←h]
 by_cases h0:m.kind=0
 ·simp [h0]
 by_cases h3:m.kind=3
 ·simp [h3]
 by_cases h6:m.kind=6
 ·simp [h6]
 by_cases h4:m.kind=4∨m.kind=8
 ·rcases h4 with h4 | h4<;>simp[h4]
 by_cases h10:m.kind=10
 ·simp [h10]
 by_cases h12:m.kind=12
 ·simp [h12]
  intro a b
  rw[a] at b
  cases b
 by_cases h14:m.kind=14
 ·simp [h14]
 by_cases h16:m.kind=16
 ·simp [h16]
 by_cases h1:m.kind=1∨m.kind=5∨m.kind=7∨m.kind=9∨m.kind=11∨m.kind=13∨m.kind=15∨m.kind=24
 ·rcases h1 with h1 | h1 | h1 | h1 | h1 | h1 | h1 | h1<;>simp[h1]
 by_cases h19:m.kind=19
 ·simp [h19]
 simp[h0,h3,h6,h4,h10,h12,h14,h16,h1,h19]
abbrev ofK (i k:Int):MT:={ id:=i,kind:=k }
theorem formedR_enc (t:FT) (r:List Fd) (h:t.formed=true) (hl:(filterF t).2.length≤2147483647):Rd.formedR (filterF t::r)=some (t,r):=by
 have hf:=h
 simp[FT.formed] at h
 unfold Rd.formedR
 rw[filter_enc t 20 r (by simp[h]) (by omega) hl]
 simp only[hf,if_true]
theorem sup_enc (m m1:MT) (h0:m1.hassup=false∧m1.sup=[]) (h:m.sup.length≤1000) (hs:m.hassup=false→m.sup=[]):Rd.supR m1 (supF m)=some ({ m1 with hassup:=m.hassup,sup:=m.sup },[]):=by
 unfold Rd.supR supF
 cases hh:m.hassup with
 | true=>simp only[if_true];rw[if_neg (by simp),tagged_enc 0x80 _ _ h];rfl
 | false=>
  simp only[Bool.false_eq_true,if_false,if_true]
  rw[hs hh]
  obtain⟨a,b⟩:=h0
  rw[←a,←b]
abbrev noCt (m:MT):MT:={ m with ctls:=[] }
theorem noCt_eq {m x:MT} (h:x=m):noCt x=noCt m:=congrArg noCt h
theorem some_eq {m x:MT} {o:Option (MT × List Fd)} (h:o=some (x,[])) (e:x=m):o=some (m,[]):=by rw[h,e]
theorem contentE_unbind (m:MT) (h:FormedM m) (hk:m.kind=2) (hl:(enc (contentF m)).length≤2147483647):Rd.contentR (ofK m.id 2) (contentF m)=some (noCt m,[]):=by
 have hb:=h.ok
 have hkept:=h.kept
 unfold keptM at hkept
 simp only[hk] at hkept
 have e:Rd.contentR (ofK m.id 2)=Rd.doneR (ofK m.id 2):=rfl
 have ec:contentF m=[]:=by unfold contentF;simp only[hk];rfl
 rw[ec] at hl
 rw[e,ec]
 have hh:=(rfl:Rd.doneR (ofK m.id 2) []=some (ofK m.id 2,[]))
 exact some_eq hh (noCt_eq hkept)
theorem contentE_bind (m:MT) (h:FormedM m) (hk:m.kind=0) (hl:(enc (contentF m)).length≤2147483647):Rd.contentR (ofK m.id 0) (contentF m)=some (noCt m,[]):=by
 have hb:=h.ok
 have hkept:=h.kept
 unfold keptM at hkept
 simp only[hk] at hkept
 have e:Rd.contentR (ofK m.id 0)=Rd.bindR (ofK m.id 0):=rfl
 have ec:contentF m=[numF 2 m.ver,textF m.name,(0x80,m.pw)]:=by unfold contentF;simp only[hk];rfl
 rw[ec] at hl
 rw[e,ec]
 have hh:=then_enc (then_enc (upd_enc (m:=ofK m.id 0) (u:=fun (m:MT) (x:Int)=>({ m with ver:=x }:MT)) (num_enc 2 m.ver 127 [textF m.name,(0x80,m.pw)] hb.ver.1 hb.ver.2 (by omega))) (name_enc _ m.name [(0x80,m.pw)] hb.texts.1)) (upd_enc (u:=fun (m:MT) (x:List UInt8)=>({ m with pw:=x }:MT)) (tagged_enc 0x80 m.pw [] hb.texts.2.1))
 exact some_eq hh (noCt_eq hkept)
theorem contentE_search (m:MT) (h:FormedM m) (hk:m.kind=3) (hl:(enc (contentF m)).length≤2147483647):Rd.contentR (ofK m.id 3) (contentF m)=some (noCt m,[]):=by
 have hb:=h.ok
 have hkept:=h.kept
 unfold keptM at hkept
 simp only[hk] at hkept
 have e:Rd.contentR (ofK m.id 3)=Rd.searchR (ofK m.id 3):=rfl
 have ec:contentF m=[textF m.name,numF 0x0a m.scope,numF 0x0a m.deref,numF 2 m.size,numF 2 m.time,flagF m.tonly,filterF m.filt,(0x30,enc (m.attrs.map textF))]:=by unfold contentF;simp only[hk];rfl
 rw[ec] at hl
 rw[e,ec]
 have hf:=Nat.le_trans (enc_mem (f:=filterF m.filt) (by simp)) hl
 have ha:=Nat.le_trans (enc_mem (f:=(0x30,enc (m.attrs.map textF))) (by simp)) hl
 have hh:=then_enc (then_enc (then_enc (then_enc (then_enc (then_enc (then_enc (name_enc (ofK m.id 3) m.name [numF 0x0a m.scope,numF 0x0a m.deref,numF 2 m.size,numF 2 m.time,flagF m.tonly,filterF m.filt,(0x30,enc (m.attrs.map textF))] hb.texts.1)
  (upd_enc (u:=fun (m:MT) (x:Int)=>({ m with scope:=x }:MT)) (num_enc 0x0a m.scope 2 _ hb.scope.1 hb.scope.2 (by omega))))
  (upd_enc (u:=fun (m:MT) (x:Int)=>({ m with deref:=x }:MT)) (num_enc 0x0a m.deref 3 _ hb.deref.1 hb.deref.2 (by omega))))
  (upd_enc (u:=fun (m:MT) (x:Int)=>({ m with size:=x }:MT)) (num_enc 2 m.size 2147483647 _ hb.ints.2.1.1 hb.ints.2.1.2 (by omega))))
  (upd_enc (u:=fun (m:MT) (x:Int)=>({ m with time:=x }:MT)) (num_enc 2 m.time 2147483647 _ hb.ints.2.2.1.1 hb.ints.2.2.1.2 (by omega))))
  (upd_enc (u:=fun (m:MT) (x:Bool)=>({ m with tonly:=x }:MT)) (flag_enc m.tonly _)))
  (upd_enc (u:=fun (m:MT) (x:FT)=>({ m with filt:=x }:MT)) (formedR_enc m.filt _ (hb.filt hk) hf)))
  (upd_enc (u:=fun (m:MT) (x:List (List UInt8))=>({ m with attrs:=x }:MT)) (texts_enc m.attrs [] hb.attrs ha))
 exact some_eq hh (noCt_eq hkept)
theorem contentE_modify (m:MT) (h:FormedM m) (hk:m.kind=6) (hl:(enc (contentF m)).length≤2147483647):Rd.contentR (ofK m.id 6) (contentF m)=some (noCt m,[]):=by
 have hb:=h.ok
 have hkept:=h.kept
 unfold keptM at hkept
 simp only[hk] at hkept
 have e:Rd.contentR (ofK m.id 6)=Rd.modifyR (ofK m.id 6):=rfl
 have ec:contentF m=[textF m.name,(0x30,enc (m.chs.map changeF))]:=by unfold contentF;simp only[hk];rfl
 rw[ec] at hl
 rw[e,ec]
 have ha:=Nat.le_trans (enc_mem (f:=(0x30,enc (m.chs.map changeF))) (by simp)) hl
 have hh:=then_enc (name_enc (ofK m.id 6) m.name [(0x30,enc (m.chs.map changeF))] hb.texts.1) (upd_enc (u:=fun (m:MT) (x:List (Int × Atr))=>({ m with chs:=x }:MT)) (listH_enc m.chs [] hb.chs ha))
 exact some_eq hh (noCt_eq hkept)
theorem contentE_add (m:MT) (h:FormedM m) (hk:m.kind=8) (hl:(enc (contentF m)).length≤2147483647):Rd.contentR (ofK m.id 8) (contentF m)=some (noCt m,[]):=by
 have hb:=h.ok
 have hkept:=h.kept
 unfold keptM at hkept
 simp only[hk] at hkept
 have e:Rd.contentR (ofK m.id 8)=Rd.addR (ofK m.id 8):=rfl
 have ec:contentF m=[textF m.name,(0x30,enc (m.lst.map attrF))]:=by unfold contentF;simp only[hk];rfl
 rw[ec] at hl
 rw[e,ec]
 have ha:=Nat.le_trans (enc_mem (f:=(0x30,enc (m.lst.map attrF))) (by simp)) hl
 have hh:=then_enc (name_enc (ofK m.id 8) m.name [(0x30,enc (m.lst.map attrF))] hb.texts.1) (upd_enc (u:=fun (m:MT) (x:List Atr)=>({ m with lst:=x }:MT)) (listA_enc m.lst [] hb.lst ha))
 exact some_eq hh (noCt_eq hkept)
theorem contentE_entry (m:MT) (h:FormedM m) (hk:m.kind=4) (hl:(enc (contentF m)).length≤2147483647):Rd.contentR (ofK m.id 4) (contentF m)=some (noCt m,[]):=by
 have hb:=h.ok
 have hkept:=h.kept
 unfold keptM at hkept
 simp only[hk] at hkept
 have e:Rd.contentR (ofK m.id 4)=Rd.addR (ofK m.id 4):=rfl
 have ec:contentF m=[textF m.name,(0x30,enc (m.lst.map attrF))]:=by unfold contentF;simp only[hk];rfl
 rw[ec] at hl
 rw[e,ec]
 have ha:=Nat.le_trans (enc_mem (f:=(0x30,enc (m.lst.map attrF))) (by simp)) hl
 have hh:=then_enc (name_enc (ofK m.id 4) m.name [(0x30,enc (m.lst.map attrF))] hb.texts.1) (upd_enc (u:=fun (m:MT) (x:List Atr)=>({ m with lst:=x }:MT)) (listA_enc m.lst [] hb.lst ha))
 exact some_eq hh (noCt_eq hkept)
theorem contentE_modName (m:MT) (h:FormedM m) (hk:m.kind=12) (hl:(enc (contentF m)).length≤2147483647):Rd.contentR (ofK m.id 12) (contentF m)=some (noCt m,[]):=by
 have hb:=h.ok
 have hkept:=h.kept
 unfold keptM at hkept
 simp only[hk] at hkept
 have e:Rd.contentR (ofK m.id 12)=Rd.modNameR (ofK m.id 12):=rfl
 have ec:contentF m=textF m.name::textF m.nrdn::flagF m.delold::supF m:=by unfold contentF;simp only[hk];rfl
 rw[ec] at hl
 rw[e,ec]
 have hsup:(if m.hassup then m.sup else [])=m.sup:=by
  cases hh:m.hassup with
  | true=>rfl
  | false=>rw[(kept_zero h.kept).2.2.2.2.2.2.1 hh];rfl
 simp only[hsup] at hkept
 have hh:=then_enc (then_enc (then_enc (name_enc (ofK m.id 12) m.name (textF m.nrdn::flagF m.delold::supF m) hb.texts.1)
  (upd_enc (u:=fun (m:MT) (x:List UInt8)=>({ m with nrdn:=x }:MT)) (text_enc m.nrdn _ hb.texts.2.2.1))) (upd_enc (u:=fun (m:MT) (x:Bool)=>({ m with delold:=x }:MT)) (flag_enc m.delold _))) (sup_enc m _ ⟨rfl,rfl⟩ hb.texts.2.2.2.1 (kept_zero h.kept).2.2.2.2.2.2.1)
 exact some_eq hh (noCt_eq hkept)
theorem contentE_compare (m:MT) (h:FormedM m) (hk:m.kind=14) (hl:(enc (contentF m)).length≤2147483647):Rd.contentR (ofK m.id 14) (contentF m)=some (noCt m,[]):=by
 have hb:=h.ok
 have hkept:=h.kept
 unfold keptM at hkept
 simp only[hk] at hkept
 have e:Rd.contentR (ofK m.id 14)=Rd.compareR (ofK m.id 14):=rfl
 have ec:contentF m=[textF m.name,(0x30,enc [textF m.attr,textF m.value])]:=by unfold contentF;simp only[hk];rfl
 rw[ec] at hl
 rw[e,ec]
 have ha:=Nat.le_trans (enc_mem (f:=(0x30,enc [textF m.attr,textF m.value])) (by simp)) hl
 have hh:=then_enc (name_enc (ofK m.id 14) m.name [(0x30,enc [textF m.attr,textF m.value])] hb.texts.1) (upd_enc (u:=fun (m:MT) (x:List UInt8 × List UInt8)=>({ m with attr:=x.1,value:=x.2 }:MT))
  (inner_enc (t:=48) (r:=[]) (plain_cons (by simp[textF]) (plain_cons (by simp[textF]) plain_nil)) ha (and_enc (f:=Prod.mk) (text_enc m.attr [textF m.value] hb.texts.2.2.2.2.1) (text_enc m.value [] hb.texts.2.2.2.2.2.1))))
 exact some_eq hh (noCt_eq hkept)
theorem contentE_result1 (m:MT) (h:FormedM m) (hk:m.kind=1) (hl:(enc (contentF m)).length≤2147483647):Rd.contentR (ofK m.id 1) (contentF m)=some (noCt m,[]):=by
 have hb:=h.ok
 have hkept:=h.kept
 unfold keptM at hkept
 simp only[hk] at hkept
 have e:Rd.contentR (ofK m.id 1)=Rd.resultR (ofK m.id 1):=rfl
 have ec:contentF m=numF 0x0a m.code::textF m.matched::textF m.text::refsF m.refs:=by unfold contentF;simp only[hk];rfl
 rw[ec] at hl
 rw[e,ec]
 have ha:=(enc_cons_le (enc_cons_le (enc_cons_le hl).2).2).2
 have hh:=then_enc (then_enc (then_enc (upd_enc (m:=ofK m.id 1) (u:=fun (m:MT) (x:Int)=>({ m with code:=x }:MT)) (num_enc 0x0a m.code 2147483647 (textF m.matched::textF m.text::refsF m.refs) hb.ints.2.2.2.2.1 hb.ints.2.2.2.2.2 (by omega)))
  (upd_enc (u:=fun (m:MT) (x:List UInt8)=>({ m with matched:=x }:MT)) (text_enc m.matched _ hb.texts.2.2.2.2.2.2.1))) (upd_enc (u:=fun (m:MT) (x:List UInt8)=>({ m with text:=x }:MT)) (text_enc m.text _ hb.texts.2.2.2.2.2.2.2))) (refs_enc _ m.refs rfl hb.refs ha)
 exact some_eq hh (noCt_eq hkept)
theorem contentE_result5 (m:MT) (h:FormedM m) (hk:m.kind=5) (hl:(enc (contentF m)).length≤2147483647):Rd.contentR (ofK m.id 5) (contentF m)=some (noCt m,[]):=by
 have hb:=h.ok
 have hkept:=h.kept
 unfold keptM at hkept
 simp only[hk] at hkept
 have e:Rd.contentR (ofK m.id 5)=Rd.resultR (ofK m.id 5):=rfl
 have ec:contentF m=numF 0x0a m.code::textF m.matched::textF m.text::refsF m.refs:=by unfold contentF;simp only[hk];rfl
 rw[ec] at hl
 rw[e,ec]
 have ha:=(enc_cons_le (enc_cons_le (enc_cons_le hl).2).2).2
 have hh:=then_enc (then_enc (then_enc (upd_enc (m:=ofK m.id 5) (u:=fun (m:MT) (x:Int)=>({ m with code:=x }:MT)) (num_enc 0x0a m.code 2147483647 (textF m.matched::textF m.text::refsF m.refs) hb.ints.2.2.2.2.1 hb.ints.2.2.2.2.2 (by omega)))
  (upd_enc (u:=fun (m:MT) (x:List UInt8)=>({ m with matched:=x }:MT)) (text_enc m.matched _ hb.texts.2.2.2.2.2.2.1))) (upd_enc (u:=fun (m:MT) (x:List UInt8)=>({ m with text:=x }:MT)) (text_enc m.text _ hb.texts.2.2.2.2.2.2.2))) (refs_enc _ m.refs rfl hb.refs ha)
 exact some_eq hh (noCt_eq hkept)
theorem contentE_result7 (m:MT) (h:FormedM m) (hk:m.kind=7) (hl:(enc (contentF m)).length≤2147483647):Rd.contentR (ofK m.id 7) (contentF m)=some (noCt m,[]):=by
 have hb:=h.ok
 have hkept:=h.kept
 unfold keptM at hkept
 simp only[hk] at hkept
 have e:Rd.contentR (ofK m.id 7)=Rd.resultR (ofK m.id 7):=rfl
 have ec:contentF m=numF 0x0a m.code::textF m.matched::textF m.text::refsF m.refs:=by unfold contentF;simp only[hk];rfl
 rw[ec] at hl
 rw[e,ec]
 have ha:=(enc_cons_le (enc_cons_le (enc_cons_le hl).2).2).2
 have hh:=then_enc (then_enc (then_enc (upd_enc (m:=ofK m.id 7) (u:=fun (m:MT) (x:Int)=>({ m with code:=x }:MT)) (num_enc 0x0a m.code 2147483647 (textF m.matched::textF m.text::refsF m.refs) hb.ints.2.2.2.2.1 hb.ints.2.2.2.2.2 (by omega)))
  (upd_enc (u:=fun (m:MT) (x:List UInt8)=>({ m with matched:=x }:MT)) (text_enc m.matched _ hb.texts.2.2.2.2.2.2.1))) (upd_enc (u:=fun (m:MT) (x:List UInt8)=>({ m with text:=x }:MT)) (text_enc m.text _ hb.texts.2.2.2.2.2.2.2))) (refs_enc _ m.refs rfl hb.refs ha)
 exact some_eq hh (noCt_eq hkept)
theorem contentE_result9 (m:MT) (h:FormedM m) (hk:m.kind=9) (hl:(enc (contentF m)).length≤2147483647):Rd.contentR (ofK m.id 9) (contentF m)=some (noCt m,[]):=by
 have hb:=h.ok
 have hkept:=h.kept
 unfold keptM at hkept
 simp only[hk] at hkept
 have e:Rd.contentR (ofK m.id 9)=Rd.resultR (ofK m.id 9):=rfl
 have ec:contentF m=numF 0x0a m.code::textF m.matched::textF m.text::refsF m.refs:=by unfold contentF;simp only[hk];rfl
 rw[ec] at hl
 rw[e,ec]
 have ha:=(enc_cons_le (enc_cons_le (enc_cons_le hl).2).2).2
 have hh:=then_enc (then_enc (then_enc (upd_enc (m:=ofK m.id 9) (u:=fun (m:MT) (x:Int)=>({ m with code:=x }:MT)) (num_enc 0x0a m.code 2147483647 (textF m.matched::textF m.text::refsF m.refs) hb.ints.2.2.2.2.1 hb.ints.2.2.2.2.2 (by omega)))
  (upd_enc (u:=fun (m:MT) (x:List UInt8)=>({ m with matched:=x }:MT)) (text_enc m.matched _ hb.texts.2.2.2.2.2.2.1))) (upd_enc (u:=fun (m:MT) (x:List UInt8)=>({ m with text:=x }:MT)) (text_enc m.text _ hb.texts.2.2.2.2.2.2.2))) (refs_enc _ m.refs rfl hb.refs ha)
 exact some_eq hh (noCt_eq hkept)
theorem contentE_result11 (m:MT) (h:FormedM m) (hk:m.kind=11) (hl:(enc (contentF m)).length≤2147483647):Rd.contentR (ofK m.id 11) (contentF m)=some (noCt m,[]):=by
 have hb:=h.ok
 have hkept:=h.kept
 unfold keptM at hkept
 simp only[hk] at hkept
 have e:Rd.contentR (ofK m.id 11)=Rd.resultR (ofK m.id 11):=rfl
 have ec:contentF m=numF 0x0a m.code::textF m.matched::textF m.text::refsF m.refs:=by unfold contentF;simp only[hk];rfl
 rw[ec] at hl
 rw[e,ec]
 have ha:=(enc_cons_le (enc_cons_le (enc_cons_le hl).2).2).2
 have hh:=then_enc (then_enc (then_enc (upd_enc (m:=ofK m.id 11) (u:=fun (m:MT) (x:Int)=>({ m with code:=x }:MT)) (num_enc 0x0a m.code 2147483647 (textF m.matched::textF m.text::refsF m.refs) hb.ints.2.2.2.2.1 hb.ints.2.2.2.2.2 (by omega)))
  (upd_enc (u:=fun (m:MT) (x:List UInt8)=>({ m with matched:=x }:MT)) (text_enc m.matched _ hb.texts.2.2.2.2.2.2.1))) (upd_enc (u:=fun (m:MT) (x:List UInt8)=>({ m with text:=x }:MT)) (text_enc m.text _ hb.texts.2.2.2.2.2.2.2))) (refs_enc _ m.refs rfl hb.refs ha)
 exact some_eq hh (noCt_eq hkept)
theorem contentE_result13 (m:MT) (h:FormedM m) (hk:m.kind=13) (hl:(enc (contentF m)).length≤2147483647):Rd.contentR (ofK m.id 13) (contentF m)=some (noCt m,[]):=by
 have hb:=h.ok
 have hkept:=h.kept
 unfold keptM at hkept
 simp only[hk] at hkept
 have e:Rd.contentR (ofK m.id 13)=Rd.resultR (ofK m.id 13):=rfl
 have ec:contentF m=numF 0x0a m.code::textF m.matched::textF m.text::refsF m.refs:=by unfold contentF;simp only[hk];rfl
 rw[ec] at hl
 rw[e,ec]
 have ha:=(enc_cons_le (enc_cons_le (enc_cons_le hl).2).2).2
 have hh:=then_enc (then_enc (then_enc (upd_enc (m:=ofK m.id 13) (u:=fun (m:MT) (x:Int)=>({ m with code:=x }:MT)) (num_enc 0x0a m.code 2147483647 (textF m.matched::textF m.text::refsF m.refs) hb.ints.2.2.2.2.1 hb.ints.2.2.2.2.2 (by omega)))
  (upd_enc (u:=fun (m:MT) (x:List UInt8)=>({ m with matched:=x }:MT)) (text_enc m.matched _ hb.texts.2.2.2.2.2.2.1))) (upd_enc (u:=fun (m:MT) (x:List UInt8)=>({ m with text:=x }:MT)) (text_enc m.text _ hb.texts.2.2.2.2.2.2.2))) (refs_enc _ m.refs rfl hb.refs ha)
 exact some_eq hh (noCt_eq hkept)
theorem contentE_result15 (m:MT) (h:FormedM m) (hk:m.kind=15) (hl:(enc (contentF m)).length≤2147483647):Rd.contentR (ofK m.id 15) (contentF m)=some (noCt m,[]):=by
 have hb:=h.ok
 have hkept:=h.kept
 unfold keptM at hkept
 simp only[hk] at hkept
 have e:Rd.contentR (ofK m.id 15)=Rd.resultR (ofK m.id 15):=rfl
 have ec:contentF m=numF 0x0a m.code::textF m.matched::textF m.text::refsF m.refs:=by unfold contentF;simp only[hk];rfl
 rw[ec] at hl
 rw[e,ec]
 have ha:=(enc_cons_le (enc_cons_le (enc_cons_le hl).2).2).2
 have hh:=then_enc (then_enc (then_enc (upd_enc (m:=ofK m.id 15) (u:=fun (m:MT) (x:Int)=>({ m with code:=x }:MT)) (num_enc 0x0a m.code 2147483647 (textF m.matched::textF m.text::refsF m.refs) hb.ints.2.2.2.2.1 hb.ints.2.2.2.2.2 (by omega)))
  (upd_enc (u:=fun (m:MT) (x:List UInt8)=>({ m with matched:=x }:MT)) (text_enc m.matched _ hb.texts.2.2.2.2.2.2.1))) (upd_enc (u:=fun (m:MT) (x:List UInt8)=>({ m with text:=x }:MT)) (text_enc m.text _ hb.texts.2.2.2.2.2.2.2))) (refs_enc _ m.refs rfl hb.refs ha)
 exact some_eq hh (noCt_eq hkept)
theorem contentE_result24 (m:MT) (h:FormedM m) (hk:m.kind=24) (hl:(enc (contentF m)).length≤2147483647):Rd.contentR (ofK m.id 24) (contentF m)=some (noCt m,[]):=by
 have hb:=h.ok
 have hkept:=h.kept
 unfold keptM at hkept
 simp only[hk] at hkept
 have e:Rd.contentR (ofK m.id 24)=Rd.resultR (ofK m.id 24):=rfl
 have ec:contentF m=numF 0x0a m.code::textF m.matched::textF m.text::refsF m.refs:=by unfold contentF;simp only[hk];rfl
 rw[ec] at hl
 rw[e,ec]
 have ha:=(enc_cons_le (enc_cons_le (enc_cons_le hl).2).2).2
 have hh:=then_enc (then_enc (then_enc (upd_enc (m:=ofK m.id 24) (u:=fun (m:MT) (x:Int)=>({ m with code:=x }:MT)) (num_enc 0x0a m.code 2147483647 (textF m.matched::textF m.text::refsF m.refs) hb.ints.2.2.2.2.1 hb.ints.2.2.2.2.2 (by omega)))
  (upd_enc (u:=fun (m:MT) (x:List UInt8)=>({ m with matched:=x }:MT)) (text_enc m.matched _ hb.texts.2.2.2.2.2.2.1))) (upd_enc (u:=fun (m:MT) (x:List UInt8)=>({ m with text:=x }:MT)) (text_enc m.text _ hb.texts.2.2.2.2.2.2.2))) (refs_enc _ m.refs rfl hb.refs ha)
 exact some_eq hh (noCt_eq hkept)
theorem oper_plain (m:MT) (hf:m.kind=3→m.filt.formed=true):Plain (contentF m):=by
 unfold contentF
 have p1:∀s,(textF s).1.toNat % 32≠31:=fun s=>by simp[textF]
 have p3:∀b,(flagF b).1.toNat % 32≠31:=fun s=>by simp[flagF]
 have n2:∀n,(numF 2 n).1.toNat % 32≠31:=fun n=>by simp[numF]
 have n10:∀n,(numF 0x0a n).1.toNat % 32≠31:=fun n=>by simp[numF]
 have l48:∀c,((0x30,c):Fd).1.toNat % 32≠31:=fun c=>by simp
 split
 ·exact plain_nil
 split
 ·exact plain_cons (n2 _) (plain_cons (p1 _) (plain_cons (by simp) plain_nil))
 split
 ·rename_i h3
  refine plain_cons (p1 _) (plain_cons (n10 _) (plain_cons (n10 _) (plain_cons (n2 _) (plain_cons (n2 _) (plain_cons (p3 _) (plain_cons ?_ (plain_cons (l48 _) plain_nil)))))))
  have h:=hf h3
  simp only[FT.formed,Bool.and_eq_true] at h
  refine filterF_plain m.filt ?_
  obtain⟨_,h⟩:=h
  cases hm:m.filt with
  | mk=>
   rw[hm] at h
   simp only[FT.all,Bool.and_eq_true] at h
   exact h.1
 split
 ·exact plain_cons (p1 _) (plain_cons (l48 _) plain_nil)
 split
 ·exact plain_cons (p1 _) (plain_cons (l48 _) plain_nil)
 split
 ·refine plain_app (plain_cons (p1 _) (plain_cons (p1 _) (plain_cons (p3 _) plain_nil))) ?_
  unfold supF
  split
  ·exact plain_cons (by simp) plain_nil
  ·exact plain_nil
 split
 ·exact plain_cons (p1 _) (plain_cons (l48 _) plain_nil)
 split
 ·exact plain_map p1
 ·refine plain_app (plain_cons (n10 _) (plain_cons (p1 _) (plain_cons (p1 _) plain_nil))) ?_
  unfold refsF
  split
  ·exact plain_nil
  ·exact plain_cons (by simp) plain_nil
theorem contentE (m:MT) (h:FormedM m) (hk:m.kind≠10∧m.kind≠16∧m.kind≠19) (hl:(enc (contentF m)).length≤2147483647):Rd.contentR (ofK m.id m.kind) (contentF m)=some (noCt m,[]):=by
 have hn:=h.known
 unfold knownK at hn
 have hc:m.kind=0∨m.kind=1∨m.kind=2∨m.kind=3∨m.kind=4∨m.kind=5∨m.kind=6∨m.kind=7∨m.kind=8∨m.kind=9∨m.kind=11∨m.kind=12∨m.kind=13∨m.kind=14∨m.kind=15∨m.kind=24:=by omega
 rcases hc with k | k | k | k | k | k | k | k | k | k | k | k | k | k | k | k
 ·rw [k];exact contentE_bind m h k hl
 ·rw [k];exact contentE_result1 m h k hl
 ·rw [k];exact contentE_unbind m h k hl
 ·rw [k];exact contentE_search m h k hl
 ·rw [k];exact contentE_entry m h k hl
 ·rw [k];exact contentE_result5 m h k hl
 ·rw [k];exact contentE_modify m h k hl
 ·rw [k];exact contentE_result7 m h k hl
 ·rw [k];exact contentE_add m h k hl
 ·rw [k];exact contentE_result9 m h k hl
 ·rw [k];exact contentE_result11 m h k hl
 ·rw [k];exact contentE_modName m h k hl
 ·rw [k];exact contentE_result13 m h k hl
 ·rw [k];exact contentE_compare m h k hl
 ·rw [k];exact contentE_result15 m h k hl
 ·rw [k];exact contentE_result24 m h k hl
theorem operE (m:MT) (r:List Fd) (h:FormedM m) (hl:(operF m).2.length≤2147483647):Rd.operR (ofK m.id 0) (operF m::r)=some (noCt m,r):=by
 obtain⟨h1,h2,h3⟩:=oper_tag m.kind h.known
 have hb:=h.ok
 have hkept:=h.kept
 unfold keptM at hkept
 unfold operF at hl ⊢
 unfold Rd.operR
 simp only[h1]
 rw[if_pos h2]
 by_cases h10:m.kind=10
 ·rw [if_pos h10]
  simp only[h10] at hkept ⊢
  have hh:=upd_enc (u:=fun (m:MT) (x:List UInt8)=>({ m with name:=x }:MT)) (m:=ofK m.id 10) (tagged_enc (operTag 10) m.name r hb.texts.1)
  exact hh.trans (congrArg (fun x=>some (x,r)) (noCt_eq hkept))
 ·rw [if_neg h10] at hl ⊢
  by_cases h16:m.kind=16
  ·rw [if_pos h16]
   simp only[h16] at hkept ⊢
   have hh:=upd_enc (u:=fun (m:MT) (x:Int)=>({ m with target:=x }:MT)) (m:=ofK m.id 16) (num_enc (operTag 16) m.target 2147483647 r hb.ints.2.2.2.1.1 hb.ints.2.2.2.1.2 (by omega))
   exact hh.trans (congrArg (fun x=>some (x,r)) (noCt_eq hkept))
  ·rw [if_neg h16] at hl ⊢
   by_cases h19:m.kind=19
   ·rw [if_pos h19]
    have hr0:=hb.refs0 h19
    have ec:contentF m=m.refs.map textF:=by unfold contentF;simp only[h19];rfl
    rw[ec] at hl ⊢
    simp only[h19] at hkept ⊢
    have hh:=upd_enc (u:=fun (m:MT) (x:List (List UInt8))=>({ m with refs:=x }:MT)) (m:=ofK m.id 19) (some_enc (t:=operTag 19) m.refs r hr0 (fun x hx r=>text_enc x r (hb.refs x hx)) (plain_map fun x=>by simp[textF]) hl)
    exact hh.trans (congrArg (fun x=>some (x,r)) (noCt_eq hkept))
   ·rw [if_neg h19]
    simp only[if_neg h10,if_neg h16]
    have hh:=inner_enc (t:=operTag m.kind) (r:=r) (oper_plain m hb.filt) hl (contentE m h ⟨h10,h16,h19⟩ hl)
    exact (upd_enc (u:=fun (_:MT) (x:MT)=>x) (m:=ofK m.id m.kind) hh)
theorem messageE (m:MT) (h:FormedM m) (hl:(enc (numF 2 m.id::operF m::ctlsF m.ctls)).length≤2147483647):Rd.messageR (numF 2 m.id::operF m::ctlsF m.ctls)=some (m,[]):=by
 have h1:=(enc_cons_le hl).2
 have h2:=(enc_cons_le h1).1
 have h3:=(enc_cons_le h1).2
 have hc:Rd.ctlsR (noCt m) (ctlsF m.ctls)=some (m,[]):=by
  unfold Rd.ctlsR ctlsF at *
  by_cases h0:m.ctls=[]
  ·rw [if_pos h0,if_pos rfl]
   show some (({ m with ctls:=[] }:MT),([]:List Fd))=some (m,[])
   rw[←h0]
  ·rw [if_neg h0] at h3 ⊢
   have h4:=(enc_cons_le h3).1
   rw[if_neg (by simp),some_enc m.ctls [] h0 (fun x hx r=>control_enc x r (h.ok.ctls x hx) (Nat.le_trans (enc_mem (List.mem_map_of_mem hx)) h4)) (plain_map controlF_tag) h4]
   rfl
 exact then_enc (then_enc (upd_enc (u:=fun (m:MT) (x:Int)=>({ m with id:=x }:MT)) (m:=zeroM) (num_enc 2 m.id 2147483647 _ h.ok.ints.1.1 h.ok.ints.1.2 (by omega))) (operE m _ h h2)) hc
theorem decode_bytes (m:MT) (h:FormedM m) (hl:(bytesW m).length≤16384):Rd.decode (bytesW m)=some m:=by
 unfold Rd.decode
 rw[if_pos hl]
 have h1:(enc (numF 2 m.id::operF m::ctlsF m.ctls)).length≤16384:=by
  have:=enc_mem (F:=[messageF m]) (f:=messageF m) (by simp)
  exact Nat.le_trans this hl
 have hp:Plain (numF 2 m.id::operF m::ctlsF m.ctls):=by
  refine plain_cons (by simp[numF]) (plain_cons (oper_tag m.kind h.known).2.2 ?_)
  unfold ctlsF
  split
  ·exact plain_nil
  ·exact plain_cons (by simp) plain_nil
 have h2:=inner_enc (t:=0x30) (r:=[]) hp (by omega) (messageE m h (by omega))
 unfold Rd.wholeR bytesW
 rw[fields_enc [messageF m] (plain_cons (by simp[messageF]) plain_nil) (by unfold bytesW at hl;omega)]
 simp only
 unfold messageF
 rw[h2]
end Go.Proofs.YtcpjmgfloimfhaaGreat
