/- Configs in memory: servers, their contexts, cuts. By an AI agent. -/
import Derived.Test.YtlfglibcggphjaaGreatDoorEY
import Derived.Test.YtlfglibcggphjaaGreatDoorEX
set_option linter.unusedSimpArgs false
set_option linter.unusedVariables false
namespace Go.Proofs.YtlfglibcggphjaaGreatDoor
open Go Go.RowKit
abbrev CT:=List UInt8 × Int
def cutsV:List CT->List Value
 | []=>[]
 | c::L=>.string (txt c.1)::.int .i64 c.2::cutsV L
theorem zC5:∀L:List CT,(cutsV L).length=L.length*2
 | []=>rfl
 | c::L=>by
  unfold cutsV;simp only[List.length_cons,zC5 L];omega
theorem zHx:∀(L:List CT) (i:Nat) (c:CT),L[i]?=some c->(cutsV L)[i*2]?=some (.string (txt c.1))/\(cutsV L)[i*2+1]?=some (.int .i64 c.2)
 | [],i,c,h=>by simp at h
 | x::L,0,c,h=>by
  simp at h;subst h;exact⟨rfl,rfl⟩
 | x::L,i+1,c,h=>by
  simp at h;have:=zHx L i c h;unfold cutsV;rw[show (i+1)*2=i*2+1+1 by omega,show i*2+1+1+1=(i*2+1)+1+1 by omega];simp only[List.getElem?_cons_succ];exact this
theorem zDl:∀(L:List CT) (c:CT),cutsV (L++[c])=cutsV L++[.string (txt c.1),.int .i64 c.2]
 | [],c=>rfl
 | x::L,c=>by
  have:=zDl L c;rw[List.cons_append];unfold cutsV;rw[this];rfl
abbrev CX:=List UInt8 × List EN × List CT
structure CXsP (w:World) (P:Nat->Prop) (xs:List Value) (L:List CX):Prop where
 len:xs.length=L.length*3
 each:∀(i:Nat) (x:CX),L[i]?=some x->∃A c ys S d,xs[i*3]?=some (.string (txt x.1))/\xs[i*3+1]?=some (.slice A x.2.1.length c)/\xs[i*3+2]?=some (.slice S x.2.2.length d)/\HasP w P 2 A x.2.1.length ys/\ENsP w P ys x.2.1/\HasP w P 2 S x.2.2.length (cutsV x.2.2)
structure SVsP (w:World) (P:Nat->Prop) (xs:List Value) (L:List (List CX)):Prop where
 len:xs.length=L.length
 each:∀(i:Nat) (x:List CX),L[i]?=some x->∃C c ys,xs[i]?=some (.slice C x.length c)/\HasP w P 3 C x.length ys/\CXsP w P ys x
section
variable {w w':World} {P P':Nat->Prop} {xs:List Value}
theorem CXsP.move {L:List CX} (h:CXsP w P xs L) (hc:∀p:Addr,P p.block->w'.cell? p=w.cell? p) (hP:∀b,P b->P' b):CXsP w' P' xs L:=
 ⟨h.len,fun i x hx=>by
  obtain⟨A,c,ys,S,d,h1,h2,h3,h4,h5,h6⟩:=h.each i x hx
  exact⟨A,c,ys,S,d,h1,h2,h3,h4.move hc hP,h5.move hc hP,h6.move hc hP⟩⟩
theorem SVsP.move {L:List (List CX)} (h:SVsP w P xs L) (hc:∀p:Addr,P p.block->w'.cell? p=w.cell? p) (hP:∀b,P b->P' b):SVsP w' P' xs L:=
 ⟨h.len,fun i x hx=>by
  obtain⟨C,c,ys,h1,h2,h3⟩:=h.each i x hx
  exact⟨C,c,ys,h1,h2.move hc hP,h3.move hc hP⟩⟩
theorem HasP.grow {size n:Nat} {A:Option Addr} (h:HasP w (fun b=>b<w.heap.size) size A n xs) (hb:Below w.heap.size w w'):HasP w' (fun b=>b<w'.heap.size) size A n xs:=
 h.move (fun p hp=>hb.cell hp) fun b hb2=>Nat.lt_of_lt_of_le hb2 hb.size
theorem CXsP.grow {L:List CX} (h:CXsP w (fun b=>b<w.heap.size) xs L) (hb:Below w.heap.size w w'):CXsP w' (fun b=>b<w'.heap.size) xs L:=
 h.move (fun p hp=>hb.cell hp) fun b hb2=>Nat.lt_of_lt_of_le hb2 hb.size
theorem SVsP.grow {L:List (List CX)} (h:SVsP w (fun b=>b<w.heap.size) xs L) (hb:Below w.heap.size w w'):SVsP w' (fun b=>b<w'.heap.size) xs L:=
 h.move (fun p hp=>hb.cell hp) fun b hb2=>Nat.lt_of_lt_of_le hb2 hb.size
theorem CXsP.nil:CXsP w P [] []:=⟨rfl,fun i a ha=>by simp at ha⟩
theorem SVsP.nil:SVsP w P [] []:=⟨rfl,fun i a ha=>by simp at ha⟩
theorem CXsP.snoc {L:List CX} (h:CXsP w P xs L) {x:CX} {A:Option Addr} {c:Nat} {ys:List Value} {S:Option Addr} {d:Nat} (h4:HasP w P 2 A x.2.1.length ys) (h5:ENsP w P ys x.2.1) (h6:HasP w P 2 S x.2.2.length (cutsV x.2.2)):
  CXsP w P (xs++[.string (txt x.1),.slice A x.2.1.length c,.slice S x.2.2.length d]) (L++[x]):=by
 have hl:=h.len;refine⟨by simp[h.len];omega,fun i q hq=>?_⟩;by_cases hi:i<L.length
 ·rw [List.getElem?_append_left hi] at hq;obtain⟨A',c',zs,S',d',h1,h2,h3,r⟩:=h.each i q hq;exact⟨A',c',zs,S',d',by rw[List.getElem?_append_left (by omega)];exact h1,by rw[List.getElem?_append_left (by omega)];exact h2,by rw[List.getElem?_append_left (by omega)];exact h3,r⟩
 ·have hi2:i=L.length:=by
   have:=(List.getElem?_eq_some_iff.1 hq).1;simp at this;omega
  subst hi2;simp at hq;subst hq;exact⟨A,c,ys,S,d,by rw[List.getElem?_append_right (by omega),h.len];simp,by rw[List.getElem?_append_right (by omega),h.len];simp,by rw[List.getElem?_append_right (by omega),h.len];simp,h4,h5,h6⟩
theorem SVsP.snoc {L:List (List CX)} (h:SVsP w P xs L) {x:List CX} {C:Option Addr} {c:Nat} {ys:List Value} (h4:HasP w P 3 C x.length ys) (h5:CXsP w P ys x):SVsP w P (xs++[.slice C x.length c]) (L++[x]):=by
 have hl:=h.len;refine⟨by simp[h.len],fun i q hq=>?_⟩;by_cases hi:i<L.length
 ·rw [List.getElem?_append_left hi] at hq;obtain⟨A',c',zs,h1,r⟩:=h.each i q hq;exact⟨A',c',zs,by rw[List.getElem?_append_left (by omega)];exact h1,r⟩
 ·have hi2:i=L.length:=by
   have:=(List.getElem?_eq_some_iff.1 hq).1;simp at this;omega
  subst hi2;simp at hq;subst hq;exact⟨C,c,ys,by rw[List.getElem?_append_right (by omega),h.len];simp,h4,h5⟩
end
structure CxAt (w:World) (B g o:Nat) (x:CX) (A:Option Addr) (c:Nat) (ys:List Value) (S:Option Addr) (d:Nat):Prop where
 c0:w.cell? ⟨g,o,none⟩=some (.string (txt x.1))
 c1:w.cell? ⟨g,o+1,none⟩=some (.slice A x.2.1.length c)
 c2:w.cell? ⟨g,o+2,none⟩=some (.slice S x.2.2.length d)
 ents:HasP w (fun b=>b<B) 2 A x.2.1.length ys/\ENsP w (fun b=>b<B) ys x.2.1
 subs:HasP w (fun b=>b<B) 2 S x.2.2.length (cutsV x.2.2)
theorem HasP.cx {w:World} {B n:Nat} {A:Option Addr} {xs:List Value} {L:List CX} (h:HasP w (fun b=>b<B) 3 A n xs) (hL:CXsP w (fun b=>b<B) xs L) (hne:L≠[]):
  ∃g o,A=some ⟨g,o,none⟩/\g<B/\∀(i:Nat) (x:CX),L[i]?=some x->∃V c ys S d,CxAt w B g (o+i*3) x V c ys S d:=by
 have hp:=List.length_pos_iff.2 hne;have hB:=h.has (B:=B) fun b hb=>hb
 obtain⟨g,o,rfl,hg,hc⟩:=hB.lies (by rw[hL.len];omega);refine⟨g,o,rfl,hg,fun i x hx=>?_⟩;obtain⟨V,c,ys,S,d,h1,h2,h3,h4,h5,h6⟩:=hL.each i x hx;exact⟨V,c,ys,S,d,hc _ _ h1,by have:=hc _ _ h2;rwa [<-Nat.add_assoc] at this,by have:=hc _ _ h3;rwa [<-Nat.add_assoc] at this,⟨h4,h5⟩,h6⟩
theorem HasP.cuts {w:World} {B n:Nat} {A:Option Addr} {L:List CT} (h:HasP w (fun b=>b<B) 2 A n (cutsV L)) (hne:L≠[]):
  ∃g o,A=some ⟨g,o,none⟩/\g<B/\∀(i:Nat) (x:CT),L[i]?=some x->w.cell? ⟨g,o+i*2,none⟩=some (.string (txt x.1))/\w.cell? ⟨g,o+i*2+1,none⟩=some (.int .i64 x.2):=by
 have hp:=List.length_pos_iff.2 hne;have hB:=h.has (B:=B) fun b hb=>hb
 obtain⟨g,o,rfl,hg,hc⟩:=hB.lies (by rw[zC5];omega);refine⟨g,o,rfl,hg,fun i x hx=>?_⟩;obtain⟨h1,h2⟩:=zHx L i x hx;exact⟨hc _ _ h1,by have:=hc _ _ h2;rwa [<-Nat.add_assoc] at this⟩
theorem HasP.cuts_n {w:World} {P:Nat->Prop} {n:Nat} {A:Option Addr} {L:List CT} (h:HasP w P 2 A n (cutsV L)):n=L.length:=by
 have h1:=h.1;have h2:=zC5 L;omega
theorem HasP.cx_n {w:World} {P P':Nat->Prop} {n:Nat} {A:Option Addr} {xs:List Value} {L:List CX} (h:HasP w P 3 A n xs) (hL:CXsP w P' xs L):n=L.length:=by
 have h1:=h.1;have h2:=hL.len;omega
theorem HasP.sv_n {w:World} {P P':Nat->Prop} {n:Nat} {A:Option Addr} {xs:List Value} {L:List (List CX)} (h:HasP w P 1 A n xs) (hL:SVsP w P' xs L):n=L.length:=by
 have h1:=h.1;have h2:=hL.len;omega
theorem HasP.sv {w:World} {B n:Nat} {A:Option Addr} {xs:List Value} {L:List (List CX)} (h:HasP w (fun b=>b<B) 1 A n xs) (hL:SVsP w (fun b=>b<B) xs L) (hne:L≠[]):
  ∃g o,A=some ⟨g,o,none⟩/\g<B/\∀(i:Nat) (x:List CX),L[i]?=some x->∃C c ys,w.cell? ⟨g,o+i,none⟩=some (.slice C x.length c)/\HasP w (fun b=>b<B) 3 C x.length ys/\CXsP w (fun b=>b<B) ys x:=by
 have hp:=List.length_pos_iff.2 hne;have hB:=h.has (B:=B) fun b hb=>hb
 obtain⟨g,o,rfl,hg,hc⟩:=hB.lies (by rw[hL.len];omega);refine⟨g,o,rfl,hg,fun i x hx=>?_⟩;obtain⟨C,c,ys,h1,h2,h3⟩:=hL.each i x hx;exact⟨C,c,ys,hc _ _ h1,h2,h3⟩
structure CfgR (w:World) (A:Option Addr) (n:Nat) (T:Option Addr) (m:Nat) (L:List (List CX)) (Top:List CT):Prop where
 out:∃xs,HasP w (fun b=>b<w.heap.size) 1 A n xs/\SVsP w (fun b=>b<w.heap.size) xs L/\HasP w (fun b=>b<w.heap.size) 2 T m (cutsV Top)
theorem CfgR.grow {w w':World} {A:Option Addr} {n:Nat} {T:Option Addr} {m:Nat} {L:List (List CX)} {Top:List CT} (h:CfgR w A n T m L Top) (hb:Below w.heap.size w w'):CfgR w' A n T m L Top:=by
 obtain⟨xs,h1,h2,h3⟩:=h.out;exact⟨⟨xs,h1.grow hb,h2.grow hb,h3.grow hb⟩⟩
end Go.Proofs.YtlfglibcggphjaaGreatDoor
