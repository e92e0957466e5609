/- Several texts in one: LFields, LInner, LInner2, LElem, HTheirs, LElem2. By an AI agent. -/
import Derived.Test.YtcpjmgfloimfhaaGreatM02
import Derived.Deep.CutRange
import Derived.Deep.CutBlock
set_option linter.unusedSimpArgs false
set_option linter.unusedVariables false
set_option maxRecDepth 100000
set_option maxHeartbeats 64000000
namespace Go.Proofs.YtcpjmgfloimfhaaGreat
open Go.RowKit
set_option linter.unusedVariables false
theorem own_formQ {w:World} {base n:Nat} {e:TypeId} {v:Value} {xs:List Value} (h:w.ownsRow base e 1 v n xs):∃A c,v=.slice A n c∧n≤c∧c≤maxLen∧HasP w (fun b=>base≤b∧b<w.heap.size) 1 A n xs:=by
 obtain⟨A,c,rfl,h1,h2⟩:=own_formP h
 obtain⟨A',c',he,_,h3,_⟩:=Ber.own_form' h
 cases he
 exact⟨A,c,rfl,h1,h3,h2⟩
namespace Rd
theorem listGo_code:∀(f:Nat) (T:List UInt8) (L:List (List UInt8)) (rem:List UInt8),(Ber.listGo f T L rem).2.2≠0→(Ber.listGo f T L rem).1=[]∧(Ber.listGo f T L rem).2.1=[]
 | 0,T,L,rem,h=>absurd rfl h
 | f+1,T,L,rem,h=>by
  rw[Ber.listGo] at h ⊢
  split
  ·rename_i hr;rw[if_pos hr] at h;exact absurd rfl h
  ·rename_i hr
   rw[if_neg hr] at h
   split
   ·exact ⟨rfl,rfl⟩
   ·rename_i hc
    rw[if_neg hc] at h
    exact listGo_code f _ _ _ h
theorem listGo_len:∀(f:Nat) (T:List UInt8) (L:List (List UInt8)) (rem:List UInt8),T.length=L.length→(Ber.listGo f T L rem).1.length=(Ber.listGo f T L rem).2.1.length∧(Ber.listGo f T L rem).1.length≤T.length+rem.length∧∀x∈(Ber.listGo f T L rem).2.1,x∈L∨x.length≤rem.length
 | 0,T,L,rem,h=>⟨h,by simp[Ber.listGo],fun x hx=>.inl hx⟩
 | f+1,T,L,rem,h=>by
  rw[Ber.listGo]
  split
  ·exact ⟨h,by simp,fun x hx=>.inl hx⟩
  ·rename_i hr
   have h1:=(Ber.takeOf_less rem hr).1
   have h2:=Ber.takeOf_le rem
   split
   ·exact ⟨rfl,by simp,fun x hx=>by cases hx⟩
   ·obtain ⟨q1,q2,q3⟩:=listGo_len f (T++[UInt8.ofNat (Ber.takeOf rem).1]) (L++[(Ber.takeOf rem).2.1]) (Ber.takeOf rem).2.2.1 (by simp[h])
    refine⟨q1,by simp at q2;omega,fun x hx=>?_⟩
    rcases q3 x hx with h3 | h3
    ·rcases List.mem_append.1 h3 with h4 | h4
     ·exact .inl h4
     ·simp only[List.mem_singleton] at h4
      subst h4
      right
      omega
    ·right;omega
end Rd
theorem rd_of_kept {w1:World} {tv cv:Value} {T:List UInt8} {xs:List Value} {L:List (List UInt8)} {lo b:Nat} {φ:Bool} (hk:Ber.Kept w1 lo tv cv T xs L) (hl:T.length=L.length) (hn:T.length≤16384) (hs:∀x∈L,x.length≤16384)
  (hlo:lo≤w1.heap.size) (hb:b<lo) (hfc:w1.cell? ⟨b,0,none⟩=some (.bool φ)) (hfz:∀i,w1.frozen? ⟨b,i,none⟩=false):
  RdS (w1.alloc (.cells #[tv,cv,.pointer (some ⟨b,0,none⟩)] 124)) lo w1.heap.size b (T.zip L) φ:=by
 have hz:(T.zip L).length=T.length:=by rw[List.length_zip,hl];omega
 obtain⟨A,c,rfl,h1,h2,h3⟩:=own_formQ hk.tags
 obtain⟨A',c',rfl,h4,h5,h6⟩:=own_formQ hk.outer
 have hf:Fr (fun _=>False) w1 (w1.alloc (.cells #[.slice A T.length c,.slice A' L.length c',.pointer (some ⟨b,0,none⟩)] 124)):=Fr.alloc _ _ _
 have key:∀k,(lo≤k∧k<w1.heap.size)→k<w1.heap.size∧¬False∧(lo≤k∧k<w1.heap.size):=fun k hk=>⟨hk.2,id,hk⟩
 have hbl:b<w1.heap.size:=by omega
 refine⟨by simp,hlo,hb,⟨A,c,A',c',xs,?_,?_,by rw[hz];exact⟨h1,h2,by omega,h5⟩,?_,?_,fun i f hi=>?_⟩,?_,fun i=>World.frozen?_alloc_at _ _ _ _ rfl,(hf.cell (p:=⟨b,0,none⟩) hbl id).trans hfc,fun i=>(hf.frozen (p:=⟨b,i,none⟩) hbl id).trans (hfz i),by omega,fun f hf=>?_⟩
 ·rw [World.cell?_alloc_at (hn:=by simp),hz];rfl
 ·rw [World.cell?_alloc_at (hn:=by simp),hz,hl];rfl
 ·rw [hz,List.map_fst_zip (by omega)]
  exact h3.fr hf key
 ·exact (show ∀k,k=L.length→HasP _ _ 1 A' k xs from fun k hk=>by rw[hk];exact h6.fr hf key) _ (hz.trans hl)
 ·obtain ⟨hi',he⟩:=List.getElem?_eq_some_iff.1 hi
  rw[List.getElem_zip] at he
  subst he
  have hiL:i<L.length:=by rw[hz] at hi';omega
  obtain⟨B,d,e1,hH,_,_,hnew⟩:=hk.els i L[i] (List.getElem?_eq_getElem hiL)
  refine⟨B,d,e1,hnew.2.1,hnew.2.2,?_⟩
  have hHP:HasP w1 (fun k=>lo≤k∧k<w1.heap.size) 1 B L[i].length (bys L[i]):=by
   refine⟨hH.1,?_⟩
   rcases hH.2 with h0 | ⟨ad,rfl,hb',hc'⟩
   ·exact .inl h0
   ·rcases hnew.1 with hn0 | hn1
    ·rw [hn0];exact .inl rfl
    ·exact .inr ⟨ad,rfl,⟨hn1 _ rfl,hb'⟩,hc'⟩
  exact hHP.fr hf key
 ·rw [World.cell?_alloc_at (hn:=by simp)];rfl
 ·exact hs _ (List.of_mem_zip (a:=f.1) (b:=f.2) hf).2
end Go.Proofs.YtcpjmgfloimfhaaGreat
namespace Go.Proofs.YtcpjmgfloimfhaaGreat
open Go.RowKit
set_option linter.unusedVariables false
structure InPost {α:Type} (St:α→World→Prop) (p:Rdr α) (w:World) (X:Nat→Prop) (lo g b:Nat) (F:List Fd) (φ:Bool) (e:Ending) (w':World):Prop where
 out:∃x F',e=.returned (.tuple #[])∧St x w'∧RdS w' lo g b F' (φ||(p F).isNone)∧Fr X w w'∧(φ=false→∀x0 F0,p F=some (x0,F0)→x=x0∧F'=F0)
def own3 (C:Nat→Prop) (g b:Nat):Nat→Prop:=fun k=>k=g∨k=b∨C k
structure FdPost {α:Type} (St:α→World→Prop) (p:Rdr α) (l:List UInt8) (w:World) (X:Nat→Prop) (b:Nat) (φ:Bool) (e:Ending) (w':World):Prop where
 out:∃x,e=.returned (.tuple #[])∧St x w'∧w'.cell? ⟨b,0,none⟩=some (.bool (φ||(Rd.wholeR l p).isNone))∧(∀i,w'.frozen? ⟨b,i,none⟩=false)∧Fr X w w'∧(φ=false→∀x0,Rd.wholeR l p=some x0→x=x0)
def ClosedBy {α:Type} (St:α→World→Prop) (C:Nat→Prop) (p:Rdr α) (w:World) (b:Nat) (gk:Nat) (lb:Array Value):Prop:=
 ∀(W:World) (lo g:Nat) (F:List Fd) (φ:Bool),Fr (fun k=>k=b) w W→w.heap.size≤lo→RdS W lo g b F φ→Calls Tryz.prog gk (#[.pointer (some ⟨g,0,none⟩)]++lb) W (InPost St p W (own3 C g b) lo g b F φ)
theorem whole_of {α:Type} {p:Rdr α} {l:List UInt8} {G:List Fd} (h:Rd.fieldsOf l=some G):Rd.wholeR l p=match p G with | some (x,[])=>some x | _=>none:=by
 unfold Rd.wholeR
 simp only[h]
 cases p G with
 | none=>rfl
 | some q=>obtain⟨x,r⟩:=q;cases r<;>rfl
theorem whole_no {α:Type} {p:Rdr α} {l:List UInt8} (h:Rd.fieldsOf l=none):Rd.wholeR l p=none:=by
 unfold Rd.wholeR;simp only[h]
theorem fields_any {α:Type} (St:α→World→Prop) (C:Nat→Prop) (p:Rdr α) (w:World) (b:Nat) (gk:Nat) (lb:Array Value) (A:Option Addr) (c:Nat) (l:List UInt8) (φ:Bool)
  (eg:∀args w,(callFunc gk args).run Tryz.prog w=.ok (.enter gk args) w) (hcl:ClosedBy St C p w b gk lb)
  (hst:∀x W W',St x W→Fr (fun k=>k=b) W W'→St x W') (hC:∀k,C k→k<w.heap.size∧k≠b)
  (hH:Has w w.heap.size 1 A l.length (bys l)) (hc:l.length≤c) (hm:c≤maxLen) (hl:l.length≤16384)
  (hb:b<w.heap.size) (hfc:w.cell? ⟨b,0,none⟩=some (.bool φ)) (hfz:∀i,w.frozen? ⟨b,i,none⟩=false):
  Calls Tryz.prog 26 #[.slice A l.length c,.pointer (some ⟨b,0,none⟩),.func (.func gk) #[] lb] w (FdPost St p l w (fun k=>k=b∨C k) b φ):=by
 obtain⟨R,hR⟩:∃R,Ber.listGo l.length [] [] l=R:=⟨_,rfl⟩
 have hL:=Ber.list_of w A l.length c l R hH hc hm (Nat.le_refl _) (by omega) (hide hR)
 have hlen:=Rd.listGo_len l.length [] [] l rfl
 have hcode:=Rd.listGo_code l.length [] [] l
 rw[hR] at hlen hcode
 have hfo:Rd.fieldsOf l=if R.2.2=0 then some (R.1.zip R.2.1) else none:=by unfold Rd.fieldsOf;rw[hR]
 obtain⟨Tg,L,E⟩:=R
 simp only at hlen hcode hfo
 obtain⟨h1,h2,h3⟩:=hlen
 simp only[List.length_nil,Nat.zero_add] at h2
 have hs:∀x∈L,x.length≤16384:=fun x hx=>by
  rcases h3 x hx with h | h
  ·cases h
  ·omega
 have HL:=hide hL
 have Hfo:=hide hfo
 have Hcode:=hide hcode
 have Hcl:=hide hcl
 have Hst:=hide hst
 have HC:=hide hC
 have Hs:=hide hs
 have Hb:=hide hb
 have Hfc:=hide hfc
 have Hfz:=hide hfz
 have H12:=hide (And.intro h1 h2)
 have Hll:=hide hl
 clear hL hfo hcode hcl hst hC hs hb hfc hfz h1 h2 h3 hH hR hm hl
 obtain⟨m,hml⟩:∃m,l.length=m:=⟨_,rfl⟩
 rw[hml] at HL hc ⊢
 clear hc
 go_enter Tryz.func26,Tryz.ntmps26
 go_wp2_with (go_at_call 77;fail)
 refine HL.out.mono ?_
 rintro e w1 ⟨tv,cv,xs,rfl,hk,hb1⟩
 simp only at hk
 have hr:=rd_of_kept (b:=b) (φ:=φ) hk H12.out.1 (by have:=H12.out.2;have:=Hll.out;omega) Hs.out hb1.size Hb.out ((hb1.cell (p:=⟨b,0,none⟩) Hb.out).trans Hfc.out) (fun i=>(hb1.frozen (p:=⟨b,i,none⟩) Hb.out).trans (Hfz.out i))
 obtain⟨At,ct,rfl,_⟩:=own_form hk.tags
 obtain⟨Ac,cc,rfl,_⟩:=own_form hk.outer
 obtain⟨w2,hw2⟩:∃w2,w1.alloc (.cells #[.slice At Tg.length ct,.slice Ac L.length cc,.pointer (some ⟨b,0,none⟩)] 124)=w2:=⟨_,rfl⟩
 rw[hw2] at hr
 have hf2:Fr (fun _=>False) w w2:=(Fr.of hb1).trans (by rw[←hw2];exact Fr.alloc _ _ _)
 have Hw2:=hide hw2
 have Hr:=hide hr
 have Hf2:=hide hf2
 have Hb1:=hide hb1
 simp only
 clear hk hb1 hr hf2 hw2 HL hml
 obtain⟨g,hg⟩:∃g,w1.heap.size=g:=⟨_,rfl⟩
 have Hg:=hide hg
 rw[hg] at Hr
 have hlog:Hid (w.heap.size≤g):=hide (by rw[←hg];exact Hb1.out.size)
 clear hg Hb1
 by_cases he:E=0
 ·subst he
  have hF:Rd.fieldsOf l=some (Tg.zip L):=by have:=Hfo.out;rwa [if_pos rfl] at this
  have HF:=hide hF
  clear hF Hfo Hcode Hs H12 Hll Hfc Hfz
  go_upto_region 4 with fail
  rw[Hw2.out,Hg.out]
  have HFR:Fr (fun k=>k=b) w w2:=Hf2.out.mono fun _ _ h=>h.elim
  have RDW:=Hr.out
  have hcl2:=Hcl.out w2 w.heap.size g _ φ HFR (Nat.le_refl _) RDW
  try simp only[List.append_toArray,List.cons_append,List.nil_append] at hcl2
  go_wp2_with (go_at_fn gk;fail)
  refine hcl2.mono ?_
  rintro e w4 hpost
  obtain⟨x,F',rfl,hx,hr4,hf4,hq⟩:=hpost.out
  clear hpost hcl2
  have hs2:=Hf2.out.size
  have hf4':=Hf2.out.mono (Y:=own3 C g b) fun _ _ h=>h.elim
  have hT:=hf4'.trans hf4
  have hF0:Fr (fun k=>k=b∨C k) w w4:=hT.mono fun k hk h=>by rcases h with h | h | h;(have:=hlog.out;omega);exact .inl h;exact .inr h
  have hM:=more_any w4 w.heap.size g b F' _ hr4
  have hFl:=fail_b w4 w.heap.size g b F' _ hr4
  have hwh:=whole_of (p:=p) HF.out
  cases hmb:moreB F' (φ||(p (Tg.zip L)).isNone) with
  | false=>
   rw[hmb] at hM
   clear hFl
   go_wp2_with (go_at_call 79;fail)
   refine hM.mono ?_
   rintro e w5 ⟨rfl,hw5⟩
   obtain rfl:=hw5
   have hfin:(φ||(p (Tg.zip L)).isNone)=(φ||(Rd.wholeR l p).isNone)∧(φ=false→∀x0,Rd.wholeR l p=some x0→x=x0):=by
    rw[hwh]
    cases φ with
    | true=>exact⟨rfl,fun h=>by cases h⟩
    | false=>
     cases hp:p (Tg.zip L) with
     | none=>exact⟨rfl,fun _ x0 h0=>by simp at h0⟩
     | some q=>
      obtain⟨y,G⟩:=q
      obtain⟨rfl,rfl⟩:=hq rfl _ _ hp
      rw[hp] at hmb
      cases F' with
      | nil=>exact⟨rfl,fun _ x0 h0=>by simpa using h0⟩
      | cons f F'=>cases hmb
   rw[hfin.1] at hr4
   have Hr4:=hide hr4
   have Hfin:=hide hfin.2
   have Hx:=hide hx
   have HF0:=hide hF0
   clear hr4 hfin hx hF0 hM hmb hwh hq hf4 hT hf4'
   go_wp2
   go_returns
   exact⟨⟨x,rfl,Hx.out,Hr4.out.fc,Hr4.out.fzb,HF0.out,Hfin.out⟩⟩
  | true=>
   rw[hmb] at hM
   go_wp2_with (go_at_call 79;fail)
   refine hM.mono ?_
   rintro e w5 ⟨rfl,hw5⟩
   obtain rfl:=hw5
   have hfin:(φ||(Rd.wholeR l p).isNone)=true∧(φ=false→∀x0,Rd.wholeR l p=some x0→x=x0):=by
    rw[hwh]
    cases φ with
    | true=>exact⟨rfl,fun h=>by cases h⟩
    | false=>
     cases hp:p (Tg.zip L) with
     | none=>exact⟨rfl,fun _ x0 h0=>by simp at h0⟩
     | some q=>
      obtain⟨y,G⟩:=q
      obtain⟨rfl,rfl⟩:=hq rfl _ _ hp
      rw[hp] at hmb
      cases F' with
      | nil=>cases hmb
      | cons f F'=>exact⟨rfl,fun _ x0 h0=>by simp at h0⟩
   have Hfin:=hide hfin
   have Hx:=hide hx
   have HF0:=hide hF0
   have Hr4:=hide hr4
   have hszW:w.heap.size≤w5.heap.size:=hT.size
   have HszW:=hide hszW
   clear hr4 hfin hx hF0 hM hmb hwh hq hf4 hT hf4' hszW
   go_wp2_with (go_at_call 78;fail)
   refine hFl.mono ?_
   rintro e w6 ⟨rfl,hr6,hf6⟩
   clear hFl
   have hx6:=Hst.out x w5 w6 Hx.out hf6
   have hF6:Fr (fun k=>k=b∨C k) w w6:=HF0.out.trans' hf6 fun k hk h=>.inl h
   go_wp2
   go_returns
   exact⟨⟨x,rfl,hx6,by rw[Hfin.out.1];exact hr6.fc,hr6.fzb,hF6,Hfin.out.2⟩⟩
 ·have z1:(E==0)=false:=beq_false_of_ne he
  have z2:(E !=0)=true:=by unfold bne;rw[z1];rfl
  have hF:Rd.fieldsOf l=none:=by have:=Hfo.out;rwa [if_neg he] at this
  have hz:=Hcode.out he
  obtain⟨rfl,rfl⟩:=hz
  have HF:=hide hF
  clear hF Hfo Hcode Hs H12 Hll Hfc Hfz he
  go_upto_region 3 with fail
  have hw2':=Hw2.out
  simp only[List.length_nil] at hw2'
  rw[hw2',Hg.out]
  clear hw2'
  have hFl2:=fail_any w2 w.heap.size g b _ _ Hr.out
  go_wp2_with (go_at_call 78;fail)
  refine hFl2.mono ?_
  rintro e w3 ⟨rfl,hr3,hf3⟩
  clear hFl2
  have HFR:Fr (fun k=>k=b) w w3:=(Hf2.out.mono (Y:=fun k=>k=b) fun _ _ h=>h.elim).trans' hf3 fun k hk h=>by rcases h with h | h;(have:=hlog.out;omega);exact h
  have hcl2:=Hcl.out w3 w.heap.size g _ true HFR (Nat.le_refl _) hr3
  try simp only[List.append_toArray,List.cons_append,List.nil_append] at hcl2
  have hs3:=HFR.size
  clear hr3 hf3
  go_wp2_with (go_at_fn gk;fail)
  refine hcl2.mono ?_
  rintro e w4 hpost
  obtain⟨x,F',rfl,hx,hr4,hf4,hq⟩:=hpost.out
  clear hpost hcl2
  have hF0:Fr (fun k=>k=b∨C k) w w4:=(HFR.mono (Y:=fun k=>k=b∨C k) fun _ _ h=>.inl h).trans' hf4 fun k hk h=>by rcases h with h | h | h;(have:=hlog.out;omega);exact .inl h;exact .inr h
  rw[Bool.true_or] at hr4
  have hM:=more_any w4 w.heap.size g b F' _ hr4
  have hwh:=whole_no (p:=p) HF.out
  rw[show moreB F' true=false from rfl] at hM
  go_wp2_with (go_at_call 79;fail)
  refine hM.mono ?_
  rintro e w5 ⟨rfl,hw5⟩
  obtain rfl:=hw5
  have Hx:=hide hx
  have HF0:=hide hF0
  have Hr4:=hide hr4
  have Hwh:=hide hwh
  clear hx hF0 hr4 hwh hM hq hf4 HFR
  go_wp2
  go_returns
  exact⟨⟨x,rfl,Hx.out,by rw[Hwh.out];simpa using Hr4.out.fc,Hr4.out.fzb,HF0.out,fun _ x0 h0=>by rw[Hwh.out] at h0;cases h0⟩⟩
end Go.Proofs.YtcpjmgfloimfhaaGreat
namespace Go.Proofs.YtcpjmgfloimfhaaGreat
open Go.RowKit
set_option linter.unusedVariables false
def wayC (p:Addr) (v:Value) (w W:World):Prop:=w.cell? p=some v→W.cell? p=some v
instance wayCway (p:Addr) (v:Value):Way (wayC p v):=⟨fun _=>id,fun h k x=>k (h x)⟩
theorem inner_of {α:Type} {t:UInt8} {p:Rdr α} {F F':List Fd} {x:List UInt8} (h:Rd.takeR t F=some (x,F')):Rd.innerR t p F=(Rd.wholeR x p).map fun y=>(y,F'):=by
 unfold Rd.innerR;simp only[h]
theorem inner_no {α:Type} {t:UInt8} {p:Rdr α} {F:List Fd} (h:Rd.takeR t F=none):Rd.innerR t p F=none:=by
 unfold Rd.innerR;simp only[h]
theorem RdS.refault {w w':World} {lo g b:Nat} {F:List Fd} {φ ψ:Bool} {C:Nat→Prop} (h:RdS w lo g b F φ) (hf:Fr (fun k=>k=b∨C k) w w') (hC:∀k,C k→¬(lo≤k∧k≤g)) (hfc:w'.cell? ⟨b,0,none⟩=some (.bool ψ)) (hfz:∀i,w'.frozen? ⟨b,i,none⟩=false):RdS w' lo g b F ψ:=by
 have hlog:=h.log
 have hblo:=h.blo
 have hlt:=h.lt
 have hg:¬(g=b∨C g):=fun q=>by
  rcases q with q | q
  ·omega
  ·exact hC g q ⟨h.log,Nat.le_refl _⟩
 obtain⟨A,c,A',c',xs,h1,h2,h3,h4,h5,h6⟩:=h.mem
 have key:∀k,(lo≤k∧k<g)→k<w.heap.size∧¬(k=b∨C k)∧(lo≤k∧k<g):=fun k hk=>⟨by omega,fun q=>by
  rcases q with q | q
  ·omega
  ·exact hC k q ⟨hk.1,by omega⟩,hk⟩
 refine⟨Nat.lt_of_lt_of_le h.lt hf.size,h.log,h.blo,⟨A,c,A',c',xs,(hf.cell h.lt hg).trans h1,(hf.cell h.lt hg).trans h2,h3,h4.fr hf key,h5.fr hf key,fun i f hi=>?_⟩,(hf.cell h.lt hg).trans h.c2,fun i=>(hf.frozen h.lt hg).trans (h.fz i),hfc,hfz,h.small⟩
 obtain⟨B,d,q1,q2,q3,q4⟩:=h6 i f hi
 exact⟨B,d,q1,q2,q3,q4.fr hf key⟩
theorem inner_any {α:Type} (St:α→World→Prop) (C:Nat→Prop) (p:Rdr α) (w:World) (lo g b:Nat) (F:List Fd) (φ:Bool) (t:UInt8) (gk:Nat) (lb:Array Value)
  (eg:∀args w,(callFunc gk args).run Tryz.prog w=.ok (.enter gk args) w) (h:RdS w lo g b F φ) (hcl:∀W,Fr (own2 g b) w W→ClosedBy St C p W b gk lb)
  (hst:∀x W W',St x W→Fr (fun k=>k=b) W W'→St x W') (hC:∀k,C k→k<w.heap.size∧k≠b∧¬(lo≤k∧k≤g)):
  Calls Tryz.prog 28 #[.pointer (some ⟨g,0,none⟩),c8 t,.func (.func gk) #[] lb] w (InPost St (Rd.innerR t p) w (own3 C g b) lo g b F φ):=by
 have hd:=h.fr (Fr.drew (fun _=>False) w) id id (fun _ _ _=>id)
 have hfd:Fr (own2 g b) w w.drew:=Fr.drew _ _
 have Hcl:=hide hcl
 have Hst:=hide hst
 have HC:=hide hC
 have Hd:=hide hd
 have Hsz:Hid (w.heap.size=w.drew.heap.size):=hide rfl
 clear hcl hst hC hd h
 go_enter Tryz.func28,Tryz.ntmps28
 go_wp2_with fail
 refine grow_beginZ (wayC ⟨g,2,none⟩ (.pointer (some ⟨b,0,none⟩))) [] (by kernel_rfl) ?_
 generalize w.drew=wd at *
 refine grow_takeP 0 (some 6) (v:=?vi0) rfl rfl (by kernel_rfl) (by kernel_rfl) (by kernel_rfl) (fun _ _ _ h=>h) (by rfl) (fun W=>?yi0) ?_
 case yi0=>
  go_simp<;>with_reducible rfl
 try simp only[Act.put,List.setIfInBounds_toArray,List.set_cons_zero,List.set_cons_succ]
 refine grow_takeP 1 (some 7) (v:=?vi1) rfl rfl (by kernel_rfl) (by kernel_rfl) (by kernel_rfl) (fun _ _ _ h=>h) (by rfl) (fun W=>?yi1) ?_
 case yi1=>
  go_simp<;>with_reducible rfl
 try simp only[Act.put,List.setIfInBounds_toArray,List.set_cons_zero,List.set_cons_succ]
 refine grow_takeP 3 (some 9) (v:=?vi3) rfl rfl (by kernel_rfl) (by kernel_rfl) (by kernel_rfl) (fun _ _ _ h=>h) (by rfl) (fun W=>?yi3) ?_
 case yi3=>
  go_simp<;>with_reducible rfl
 try simp only[Act.put,List.setIfInBounds_toArray,List.set_cons_zero,List.set_cons_succ]
 refine grow_takeP 4 (some 10) (v:=?vi4) rfl rfl (by kernel_rfl) (by kernel_rfl) (by kernel_rfl) (fun _ _ _ h=>h) (by rfl) (fun W=>?yi4) ?_
 case yi4=>
  go_simp<;>with_reducible rfl
 try simp only[Act.put,List.setIfInBounds_toArray,List.set_cons_zero,List.set_cons_succ]
 refine grow_takeP 5 (some 11) (v:=?vi5) rfl rfl (by kernel_rfl) (by kernel_rfl) (by kernel_rfl) (fun _ _ _ h=>h) (by rfl) (fun W=>?yi5) ?_
 case yi5=>
  go_simp<;>with_reducible rfl
 try simp only[Act.put,List.setIfInBounds_toArray,List.set_cons_zero,List.set_cons_succ]
 refine grow_takeZ 6 (some 12) (v:=?vi6) rfl rfl (by kernel_rfl) (by kernel_rfl) (by kernel_rfl) (fun _ _ _ h=>h) (by kernel_rfl) (by rfl) (fun W hW=>?yi6) ?_
 case yi6=>
  have c2W:W.cell? ⟨g,2,none⟩=some (.pointer (some ⟨b,0,none⟩)):=hW Hd.out.c2
  go_simp<;>with_reducible rfl
 try simp only[Act.put,List.setIfInBounds_toArray,List.set_cons_zero,List.set_cons_succ]
 refine grow_takeP 7 (some 13) (v:=?vi7) rfl rfl (by kernel_rfl) (by kernel_rfl) (by kernel_rfl) (fun _ _ _ h=>h) (by rfl) (fun W=>?yi7) ?_
 case yi7=>
  go_simp<;>with_reducible rfl
 try simp only[Act.put,List.setIfInBounds_toArray,List.set_cons_zero,List.set_cons_succ]
 refine grow_onlyZ 2 rfl (by kernel_rfl) (fun K hK=>?_)
 go_simp
 refine (take_any wd lo g b F φ t Hd.out).mono ?_
 rintro e w1 hpost
 obtain⟨A,c,x,F',rfl,hc,hm,hx,hP,hr,hf,hq⟩:=hpost.out
 clear hpost
 refine hK.out _ _ (fun _ _=>hr.c2) ?_
 clear hK K
 try simp only[Act.put,List.setIfInBounds_toArray,List.set_cons_zero,List.set_cons_succ]
 refine grow_onlyZ 8 rfl (by kernel_rfl) (fun K hK=>?_)
 go_simp
 have hcl1:=Hcl.out w1 (hfd.trans hf)
 have hs1:w.heap.size≤w1.heap.size:=(hfd.trans hf).size
 refine (fields_any St C p w1 b gk lb A c x (φ||(Rd.takeR t F).isNone) eg hcl1 Hst.out (fun k hk=>⟨by have:=(HC.out k hk).1;omega,(HC.out k hk).2.1⟩) (hP.has (B:=w1.heap.size) (fun k hk=>by have:=hr.lt;omega)) hc hm hx hr.back hr.fc hr.fzb).mono ?_
 rintro e w2 hpost
 obtain⟨y,rfl,hy,hfc2,hfz2,hf2,hq2⟩:=hpost.out
 clear hpost hcl1
 have hr2:=hr.refault hf2 (fun k hk=>(HC.out k hk).2.2) hfc2 hfz2
 have hF2:Fr (own3 C g b) w w2:=((hfd.trans hf).mono (Y:=own3 C g b) fun _ _ q=>by rcases q with q | q;exact .inl q;exact .inr (.inl q)).trans (hf2.mono fun _ _ q=>by rcases q with q | q;exact .inr (.inl q);exact .inr (.inr q))
 have hfin:((φ||(Rd.takeR t F).isNone)||(Rd.wholeR x p).isNone)=(φ||(Rd.innerR t p F).isNone)∧(φ=false→∀x0 F0,Rd.innerR t p F=some (x0,F0)→y=x0∧F'=F0):=by
  cases φ with
  | true=>exact⟨by simp,fun h=>by cases h⟩
  | false=>
   cases ht:Rd.takeR t F with
   | none=>rw[inner_no ht];exact⟨by simp,fun _ x0 F0 h0=>by simp at h0⟩
   | some q=>
    obtain⟨c0,r0⟩:=q
    obtain⟨rfl,rfl⟩:=hq rfl _ _ ht
    rw[ht] at hq2
    rw[inner_of ht]
    cases hw:Rd.wholeR x p with
    | none=>exact⟨by simp,fun _ x0 F0 h0=>by simp at h0⟩
    | some z=>
     obtain rfl:=hq2 rfl z hw
     exact⟨by simp,fun _ x0 F0 h0=>by simpa using h0⟩
 rw[hfin.1] at hr2
 have Hfin:=hide hfin.2
 have Hr2:=hide hr2
 have HF2:=hide hF2
 have Hy:=hide hy
 clear hfin hr2 hF2 hy hfc2 hfz2 hf2 hq2 hr hq hP hf hc hm hx
 refine hK.out _ _ (fun _ _=>Hr2.out.c2) ?_
 clear hK K
 try simp only[Act.put,List.setIfInBounds_toArray,List.set_cons_zero,List.set_cons_succ]
 refine grow_doneZ (by kernel_rfl) ?_ _
 go_wp2
 go_returns
 exact⟨⟨y,F',rfl,Hy.out,Hr2.out,HF2.out,Hfin.out⟩⟩
end Go.Proofs.YtcpjmgfloimfhaaGreat
namespace Go.Proofs.YtcpjmgfloimfhaaGreat
open Go.RowKit
set_option linter.unusedVariables false
structure Elem (α:Type) where
 size:Nat
 rep:World→(Nat→Prop)→α→List Value→Prop
 len:∀{w:World} {P:Nat→Prop} {x:α} {cs:List Value},rep w P x cs→cs.length=size
 one:∀{w:World} {P:Nat→Prop} {x:α} {cs:List Value},rep w P x cs→∀u∈cs,u.oneCell'=true
 move:∀{w w':World} {P P':Nat→Prop} {x:α} {cs:List Value},(∀p:Addr,P p.block→w'.cell? p=w.cell? p)→(∀b,P b→P' b)→rep w P x cs→rep w' P' x cs
def rowIn {α:Type} (E:Elem α) (w:World) (P:Nat→Prop):List α→List Value→Prop
 | [],xs=>xs=[]
 | p::r,xs=>E.rep w P p (xs.take E.size)∧rowIn E w P r (xs.drop E.size)
section
variable {α:Type} {E:Elem α} {w w':World} {P P':Nat→Prop}
theorem rowIn.len:∀{L:List α} {xs:List Value},rowIn E w P L xs→xs.length=L.length*E.size
 | [],xs,h=>by simp only[rowIn] at h;subst h;simp
 | p::r,xs,h=>by
  simp only[rowIn] at h
  have h1:=E.len h.1
  have h2:=rowIn.len h.2
  simp only[List.length_take,List.length_drop,List.length_cons,Nat.add_mul,Nat.one_mul] at h1 h2 ⊢
  omega
theorem rowIn.move (hc:∀p:Addr,P p.block→w'.cell? p=w.cell? p) (hP:∀b,P b→P' b):∀{L:List α} {xs:List Value},rowIn E w P L xs→rowIn E w' P' L xs
 | [],xs,h=>h
 | p::r,xs,h=>⟨E.move hc hP h.1,rowIn.move hc hP h.2⟩
theorem rowIn.snoc:∀{L:List α} {xs:List Value} {x:α} {cs:List Value},rowIn E w P L xs→E.rep w P x cs→rowIn E w P (L++[x]) (xs++cs)
 | [],xs,x,cs,h,hp=>by
  simp only[rowIn] at h
  subst h
  have:=E.len hp
  simp only[List.nil_append,rowIn]
  exact⟨by rw[List.take_of_length_le (by omega)];exact hp,List.drop_eq_nil_of_le (by omega)⟩
 | q::r,xs,x,cs,h,hp=>by
  have hl:=rowIn.len h
  simp only[List.length_cons,Nat.add_mul,Nat.one_mul] at hl
  simp only[rowIn] at h
  simp only[List.cons_append,rowIn]
  refine⟨by rw[List.take_append_of_le_length (by omega)];exact h.1,?_⟩
  rw[List.drop_append_of_le_length (by omega)]
  exact rowIn.snoc h.2 hp
end
def elT:Elem (List UInt8) where
 size:=1
 rep:=fun _ _ x cs=>cs=[.string (txt x)]
 len:=fun h=>by rw[h];rfl
 one:=fun h u hu=>by subst h;simp only[List.mem_singleton] at hu;subst hu;rfl
 move:=fun _ _ h=>h
def elC:Elem Ct where
 size:=4
 rep:=fun _ _ x cs=>cs=[.string (txt x.oid),.bool x.crit,.bool x.hasv,.string (txt x.value)]
 len:=fun h=>by rw[h];rfl
 one:=fun h u hu=>by subst h;simp only[List.mem_cons,List.not_mem_nil,or_false] at hu;rcases hu with rfl | rfl | rfl | rfl<;>rfl
 move:=fun _ _ h=>h
def elA:Elem Atr where
 size:=2
 rep:=fun w P x cs=>∃A c,cs=[.string (txt x.1),.slice A x.2.length c]∧x.2.length≤20000∧HasP w P 1 A x.2.length (strs x.2)
 len:=fun h=>by obtain⟨A,c,rfl,_⟩:=h;rfl
 one:=fun h u hu=>by obtain⟨A,c,rfl,_⟩:=h;simp only[List.mem_cons,List.not_mem_nil,or_false] at hu;rcases hu with rfl | rfl<;>rfl
 move:=fun hc hP h=>by obtain⟨A,c,e,hl,h⟩:=h;exact⟨A,c,e,hl,h.move hc hP⟩
def elH:Elem (Int × Atr) where
 size:=3
 rep:=fun w P x cs=>∃A c,cs=[.int .i64 x.1,.string (txt x.2.1),.slice A x.2.2.length c]∧x.2.2.length≤20000∧HasP w P 1 A x.2.2.length (strs x.2.2)
 len:=fun h=>by obtain⟨A,c,rfl,_⟩:=h;rfl
 one:=fun h u hu=>by obtain⟨A,c,rfl,_⟩:=h;simp only[List.mem_cons,List.not_mem_nil,or_false] at hu;rcases hu with rfl | rfl | rfl<;>rfl
 move:=fun hc hP h=>by obtain⟨A,c,e,hl,h⟩:=h;exact⟨A,c,e,hl,h.move hc hP⟩
def repE {α:Type} (E:Elem α):World→(Nat→Prop)→α→Value→Prop:=fun w P x v=>∃cs,v=.agg cs.toArray∧E.rep w P x cs
def repL {α:Type} (E:Elem α):World→(Nat→Prop)→List α→Value→Prop:=fun w P L v=>∃A c xs,v=.slice A L.length c∧L.length≤20000∧HasP w P E.size A L.length xs∧rowIn E w P L xs
def Eats {α:Type} (p:Rdr α):Prop:=∀F x G,p F=some (x,G)→G.length<F.length
theorem many_fuel {α:Type} {p:Rdr α} (he:Eats p):∀(n:Nat) (F:List Fd) (acc:List α),F.length≤n→Rd.manyGo p n F acc=Rd.manyGo p F.length F acc
 | n,[],acc,_=>by cases n<;>rfl
 | 0,f::r,acc,h=>by simp at h
 | n+1,f::r,acc,h=>by
  simp only[List.length_cons] at h ⊢
  rw[Rd.manyGo,Rd.manyGo]
  cases hp:p (f::r) with
  | none=>rfl
  | some q=>
   obtain⟨x,G⟩:=q
   have h1:=he _ _ _ hp
   simp only[List.length_cons] at h1
   simp only
   rw[many_fuel he n G _ (by omega),many_fuel he r.length G _ (by omega)]
theorem many_next {α:Type} {p:Rdr α} (he:Eats p) {F G:List Fd} {x:α} (acc:List α) (h:p F=some (x,G)) (hn:F≠[]):Rd.manyGo p F.length F acc=Rd.manyGo p G.length G (acc++[x]):=by
 cases F with
 | nil=>exact absurd rfl hn
 | cons f r=>
  have h1:=he _ _ _ h
  simp only[List.length_cons] at h1 ⊢
  rw[Rd.manyGo,h]
  simp only
  exact many_fuel he _ _ _ (by omega)
theorem many_none {α:Type} {p:Rdr α} {F:List Fd} (acc:List α) (h:p F=none) (hn:F≠[]):Rd.manyGo p F.length F acc=none:=by
 cases F with
 | nil=>exact absurd rfl hn
 | cons f r=>simp only[List.length_cons];rw[Rd.manyGo,h]
structure LstS {α:Type} (E:Elem α) (ety:TypeId) (bl lo2:Nat) (L:List α) (W:World):Prop where
 blo:bl<lo2
 lt:bl<W.heap.size
 fz:∀i,W.frozen? ⟨bl,i,none⟩=false
 row:∃v xs,W.cell? ⟨bl,0,none⟩=some v∧W.ownsRow lo2 ety E.size v L.length xs∧rowIn E W (fun k=>lo2≤k∧k<W.heap.size∧v.ownBlock≠some k) L xs
 len:L.length≤20000
theorem LstS.fr {α:Type} {E:Elem α} {ety:TypeId} {bl lo2:Nat} {L:List α} {W W':World} {X:Nat→Prop} (h:LstS E ety bl lo2 L W) (hf:Fr X W W') (hb:¬X bl) (hx:∀k,lo2≤k→¬X k):LstS E ety bl lo2 L W':=by
 obtain⟨v,xs,h1,h2,h3⟩:=h.row
 have hlt:=h.lt
 refine⟨h.blo,Nat.lt_of_lt_of_le hlt hf.size,fun i=>(hf.frozen (p:=⟨bl,i,none⟩) hlt hb).trans (h.fz i),⟨v,xs,(hf.cell (p:=⟨bl,0,none⟩) hlt hb).trans h1,?_,h3.move (fun p hp=>hf.cell hp.2.1 (hx _ hp.1)) fun k hk=>⟨hk.1,Nat.lt_of_lt_of_le hk.2.1 hf.size,hk.2.2⟩⟩,h.len⟩
 refine⟨h2.1,h2.2.imp id ?_⟩
 rintro ⟨g,cap,cur,hv,hg,hh,rest⟩
 have hglt:g<W.heap.size:=(Array.getElem?_eq_some_iff.1 hh).1
 exact⟨g,cap,cur,hv,hg,(hf.same g hglt (hx _ hg)).trans hh,rest⟩
end Go.Proofs.YtcpjmgfloimfhaaGreat
namespace Go.Proofs.YtcpjmgfloimfhaaGreat
open Go.RowKit
set_option linter.unusedVariables false
mutual
def FT.wee:FT→Prop
 | .mk k a v f l any ps=>any.length≤100000∧ps.length≤100000∧FT.weeL ps
def FT.weeL:List FT→Prop
 | []=>True
 | p::r=>FT.wee p∧FT.weeL r
end
theorem FT.weeL_mem:∀{ps:List FT},FT.weeL ps→∀p∈ps,p.wee
 | [],_,p,hp=>by cases hp
 | q::r,h,p,hp=>by
  simp only[FT.weeL] at h
  rcases List.mem_cons.1 hp with rfl | hp
  ·exact h.1
  ·exact FT.weeL_mem h.2 p hp
mutual
theorem FT.small_nodes:∀(t:FT) (d n:Int),0≤t.small d n→(t.nodes:Int)≤n-t.small d n∧(n≤60→t.wee)
 | .mk k a v f l any ps,d,n,h=>by
  simp only[FT.small] at h ⊢
  split at h
  ·omega
  ·rename_i h1
   split at h
   ·omega
   ·rename_i h2
    rw[if_neg h1,if_neg h2]
    have:=FT.smallL_nodes ps (d+1) (n-1) h
    have hl:=FT.nodesL_len ps
    simp only[FT.nodes,FT.wee]
    exact⟨by omega,fun hn=>⟨by omega,by omega,this.2 (by omega)⟩⟩
theorem FT.smallL_nodes:∀(ps:List FT) (d n:Int),0≤FT.smallL ps d n→(FT.nodesL ps:Int)≤n-FT.smallL ps d n∧(n≤60→FT.weeL ps)
 | [],d,n,h=>by simp[FT.smallL,FT.nodesL,FT.weeL]
 | p::r,d,n,h=>by
  simp only[FT.smallL] at h ⊢
  split at h
  ·omega
  ·rename_i h1
   rw[if_neg h1]
   have h2:=FT.smallL_nodes r d (p.small d n) h
   have h3:=FT.small_nodes p d n (by
    rcases Int.lt_or_le (p.small d n) 0 with h4 | h4
    ·exfalso
     cases r with
     | nil=>simp only[FT.smallL] at h;omega
     | cons q r=>simp only[FT.smallL] at h;rw[if_pos h4] at h;omega
    ·exact h4)
   have h5:=FT.nodes_pos p
   simp only[FT.nodesL,FT.weeL]
   exact⟨by omega,fun hn=>⟨h3.2 hn,h2.2 (by omega)⟩⟩
theorem FT.nodesL_len:∀ps:List FT,ps.length≤FT.nodesL ps
 | []=>by simp[FT.nodesL]
 | p::r=>by have:=FT.nodesL_len r;have:=FT.nodes_pos p;simp only[FT.nodesL,List.length_cons];omega
end
theorem FT.wee_of_small {t:FT} (h:t.small 0 60≥0):t.wee:=(FT.small_nodes t 0 60 h).2 (by omega)
theorem stepA {ops:Array Oper} {o:Oper} {a:Act} {K:Act→World→Prop} {Q:Exit→Act→World→Prop} {E:Prop} (W:World) (t e:TypeId) (z:Value) (size bytes:Nat) (hu:Tryz.prog.underlying t=some (.slice e))
  (hinf:(Tryz.prog.info? e).map (fun i=>(i.zero,i.size,i.bytes))=some (some z,size,bytes)) (hzs:z.cells.size=size) (hsz:0<size) (h32:bytes≤128)
  (d:Option Tmp) (hd:o.dst=d) (hgd:o.guard=none) (s x:Operand) (ho:o.op=.call { callee:=.builtin .append,args:=#[s,x],argTypes:=#[t,t] })
  (base:Nat) (v:Value) (n:Nat) (xs:List Value) (hs:a.eval s=v) (hown:W.ownsRow base e size v n xs)
  (B:Nat) (A:Option Addr) (m c:Nat) (l:List Value) (hx:a.eval x=.slice A m c) (hr:Has W B size A m l) (h1:∀u∈l,u.oneCell'=true)
  (hb:n+m≤1000000) (hbase:base≤W.heap.size)
  (h:∀v' w',w'.ownsRow base e size v' (n+m) (xs++l)→Below base W w'→W.grownBy w' v.ownBlock→(v'.ownBlock=v.ownBlock∨v'.ownBlock=some W.heap.size)→K (a.put d v') w'):
  if Region.wanted o (yielded ops a.tmps)=true then Oper.wp Tryz.prog o a W K Q else E:=by
 subst hd
 obtain⟨i0,hi,hz0,hz1,hz2⟩:=info_parts hinf
 have hbb:(n+m)*bytes≤140737488355328:=Nat.le_trans (Nat.mul_le_mul hb h32) (by omega)
 refine step_app W hgd s x t ho base e i0 z size bytes hu hi hz0 hz1 hz2 hzs hsz v n xs hs hown B A m c l hx hr h1 (by unfold maxLen;omega) hbb hbase ?_
 intro v' w' h1 h2 h3
 exact h v' w' h1 (below_grown hown h2 hbase) h2 h3
theorem own_off {w:World} {base n size:Nat} {e:TypeId} {v:Value} {xs:List Value} (h:w.ownsRow base e size v n xs):∀b,w.heap.size≤b→v.ownBlock≠some b:=fun b hb e=>by
 have:=(h.lt b e).2
 omega
theorem own_one {w:World} {base n size:Nat} {e:TypeId} {v:Value} {xs:List Value} (h:w.ownsRow base e size v n xs):v.oneCell'=true:=by
 obtain⟨A,c,rfl,_⟩:=own_form h
 rfl
theorem nilS (w:World):(w.alloc (.cells #[] 9)).ownsRow w.heap.size 9 1 (.slice (some ⟨w.heap.size,0,none⟩) 0 0) 0 []:=
 own_lit w #[] 9 0 (by unfold maxLen;omega) rfl
structure ConvPost (t:FT) (w:World) (e:Ending) (w':World):Prop where
 out:∃v0 v1 v2 v3 v4 v5 v6,e=.returned (.agg #[v0,v1,v2,v3,v4,v5,v6])∧FInP w' (fun b=>w.heap.size≤b∧b<w'.heap.size) t [v0,v1,v2,v3,v4,v5,v6]∧Below w.heap.size w w'
structure Th1 (w2 wx:World) (h:Nat) (k:Int) (a v f l:ByteArray) (v5:Value) (m:Nat) (L:List (List UInt8)):Prop where
 bel:Below w2.heap.size w2 wx
 le:w2.heap.size≤h
 out:Out7 wx h (.int .i64 k) (.string a) (.string v) (.string f) (.string l) v5 (.slice none 0 0)
 own:wx.ownsRow w2.heap.size 9 1 v5 m (strs L)
 off:v5.ownBlock=none∨v5.ownBlock≠some h
structure ThL (E:TypeId) (wc wx:World) (h:Nat) (k:Int) (a v f l:ByteArray) (v5 v6:Value) (j:Nat) (xs:List Value) (L:List FT):Prop where
 grown:wc.grownBy wx (some h)
 out:Out7 wx h (.int .i64 k) (.string a) (.string v) (.string f) (.string l) v5 v6
 own:wx.ownsRow wc.heap.size E 7 v6 j xs
 parts:FsInP wx (fun b=>wc.heap.size≤b∧b<wx.heap.size∧some b≠v6.ownBlock) L xs
theorem ThL.next {E:TypeId} {wc wr w7 w9:World} {h:Nat} {k:Int} {a v f l:ByteArray} {v5 v6 v9:Value} {j:Nat} {xs ys:List Value} {L:List FT} {p:FT} {C:Obj}
  (hT:ThL E wc wr h k a v f l v5 v6 j xs L) (hltc:h<wc.heap.size) (hb7:Below wr.heap.size wr w7) (hy:FInP w7 (fun b=>wr.heap.size≤b∧b<w7.heap.size) p ys)
  (hown:w9.ownsRow wc.heap.size E 7 v9 (j+1) (xs++ys)) (hg:(w7.alloc C).grownBy w9 v6.ownBlock) (ht:v9.ownBlock=v6.ownBlock∨v9.ownBlock=some (w7.alloc C).heap.size):
  ThL E wc (w9.setCell ⟨h,6,none⟩ v9) h k a v f l v5 v9 (j+1) (xs++ys) (L++[p]):=by
 have hs8:(w7.alloc C).heap.size=w7.heap.size+1:=by simp
 have hs1:=hT.grown.size
 have hs7:=hb7.size
 have hs9:=hg.size
 have ho:=hT.own.lt
 have hgs:=grown_setCell w9 h 6 v9
 have hss:=hgs.size
 have q7:∀b,b<w7.heap.size→some b≠v6.ownBlock→w9.heap[b]?=w7.heap[b]?:=fun b hb hne=>(hg.block b (by omega) hne).trans (heap_alloc_old w7 C hb)
 have q1:∀b,b<wr.heap.size→some b≠v6.ownBlock→w9.heap[b]?=wr.heap[b]?:=fun b hb hne=>(q7 b (by omega) hne).trans (hb7.block b hb)
 have qs:∀b,b<w9.heap.size→b≠h→(w9.setCell ⟨h,6,none⟩ v9).heap[b]?=w9.heap[b]?:=fun b hb hne=>hgs.block b hb (fun e=>hne (Option.some.inj e))
 have hno:∀b,b<wc.heap.size→some b≠v6.ownBlock:=fun b hb e=>by have:=ho b e.symm;omega
 have hn9:v9.ownBlock≠some h:=fun e=>by
  rcases ht with e2 | e2
  ·rw [e2] at e;have:=ho h e;omega
  ·rw [e2] at e;have:=Option.some.inj e;omega
 refine⟨⟨hgs.os.trans (hg.os.trans (hb7.os.trans hT.grown.os)),hgs.tape.trans (hg.tape.trans (hb7.tape.trans hT.grown.tape)),hgs.output.trans (hg.output.trans (hb7.output.trans hT.grown.output)),by omega,fun b hb hne=>?_⟩,?_,?_,?_⟩
 ·have hbh:b≠h:=fun e=>hne (by rw[e])
  exact (qs b (by omega) hbh).trans ((q1 b (by omega) (hno b hb)).trans (hT.grown.block b hb hne))
 ·exact (hT.out.keep (by omega) (q1 h (by omega) (hno h hltc))).set6 v9
 ·exact hown.kept hgs (.inr hn9)
 ·refine FsInP.snoc (FsInP.move ?_ ?_ hT.parts) (FInP.move ?_ ?_ hy)
  ·rintro x ⟨h1,h2,h3⟩
   exact World.cell?_of_block ((qs _ (by omega) (by omega)).trans (q1 _ h2 h3))
  ·rintro b ⟨h1,h2,h3⟩
   refine⟨h1,by omega,?_⟩
   rcases ht with e2 | e2
   ·rw [e2];exact h3
   ·rw [e2];intro e;have:=Option.some.inj e;omega
  ·rintro x ⟨h1,h2⟩
   exact World.cell?_of_block ((qs _ (by omega) (by omega)).trans (q7 _ h2 (fun e=>by have:=ho _ e.symm;omega)))
  ·rintro b ⟨h1,h2⟩
   refine⟨by omega,by omega,?_⟩
   rcases ht with e2 | e2
   ·rw [e2];intro e;have:=ho _ e.symm;omega
   ·rw [e2];intro e;have:=Option.some.inj e;omega
theorem conv_done {E:TypeId} {w w2 wc wr:World} {h b1:Nat} {k:Int} {a v f l:List UInt8} {A D:Option Addr} {m c np d:Nat} {xs:List Value} {any:List (List UInt8)} {ps:List FT}
  (hTh:Th1 w2 wc h k (txt a) (txt v) (txt f) (txt l) (.slice A m c) m any) (hL:ThL E wc wr h k (txt a) (txt v) (txt f) (txt l) (.slice A m c) (.slice D np d) np xs ps)
  (hm:any.length=m) (hn:ps.length=np) (hm5:m≤100000) (hn5:np≤100000) (hb1:w.heap.size≤b1) (hb2:b1<w2.heap.size) (hw:w.heap.size≤w2.heap.size) (hb:Below w.heap.size w wc) (cs:List Value):
  FInP (wr.setCells b1 0 cs) (fun b=>w.heap.size≤b∧b<(wr.setCells b1 0 cs).heap.size) (.mk k a v f l any ps) [.int .i64 k,.string (txt a),.string (txt v),.string (txt f),.string (txt l),.slice A m c,.slice D np d]∧
   Below w.heap.size w (wr.setCells b1 0 cs):=by
 have hgs:=grown_setCells b1 cs 0 wr
 have hs0:=hgs.size
 have hs1:=hL.grown.size
 have hsc:=hTh.bel.size
 have hlt:=hTh.out.lt
 have hle:=hTh.le
 subst hm hn
 obtain⟨A',c',e1,_,hP1⟩:=own_formP hTh.own
 obtain⟨D',d',e2,_,hP2⟩:=own_formP hL.own
 cases e1
 cases e2
 have hoff:=hTh.off
 have hoA:∀b,(Value.slice A any.length c).ownBlock=some b→w2.heap.size≤b∧b<wc.heap.size:=hTh.own.lt
 refine⟨?_,?_⟩
 ·simp only[FInP]
  refine⟨A,c,D,d,xs,rfl,⟨by unfold maxLen;omega,by unfold maxLen;omega⟩,?_,?_,?_⟩
  ·refine ⟨hP1.1,hP1.2.imp id ?_⟩
   rintro ⟨ad,rfl,hb3,hc⟩
   have hne:ad.block≠h:=fun e=>by
    rcases hoff with h0 | h0
    ·cases h0
    ·exact h0 (by rw[←e];rfl)
   refine⟨ad,rfl,⟨by omega,by omega⟩,fun i u hu=>(World.cell?_of_block ?_).trans (hc i u hu)⟩
   rw[block_add]
   exact (hgs.block _ (by omega) (fun e=>by have:=Option.some.inj e;omega)).trans (hL.grown.block _ hb3.2 (fun e=>hne (Option.some.inj e)))
  ·refine hP2.move (fun x hx=>World.cell?_of_block (hgs.block _ hx.2 (fun e=>by have:=Option.some.inj e;omega))) (fun b hx=>⟨by omega,by omega⟩)
  ·refine FsInP.move (fun x hx=>World.cell?_of_block (hgs.block _ hx.2.1 (fun e=>by have:=Option.some.inj e;omega))) (fun b hx=>⟨by omega,by omega⟩) hL.parts
 ·exact hb.trans ((below_of_grown hL.grown (fun q hq=>by have:=Option.some.inj hq;omega) (by omega)).trans (below_of_grown hgs (fun q hq=>by have:=Option.some.inj hq;omega) (by omega)))
theorem Box7.keep {w w':World} {b:Nat} {k:Int} {a v f l:ByteArray} {A D:Option Addr} {m c n d:Nat} (t:Box7 w b k a v f l A m c D n d) (hs:w.heap.size≤w'.heap.size) (hb:w'.heap[b]?=w.heap[b]?):Box7 w' b k a v f l A m c D n d:=
 have q:∀i,w'.cell? ⟨b,i,none⟩=w.cell? ⟨b,i,none⟩:=fun i=>World.cell?_of_block (a:=⟨b,i,none⟩) hb
 ⟨Nat.lt_of_lt_of_le t.lt hs,(q 0).trans t.c0,(q 1).trans t.c1,(q 2).trans t.c2,(q 3).trans t.c3,(q 4).trans t.c4,(q 5).trans t.c5,(q 6).trans t.c6⟩
theorem results_cell1 {fn:Func} {p:Tmp} {ty:TypeId} (h:fn.results=#[.cell p ty]) (tmps:Array Value) {P:Program} (w:World) (b:Nat) (cs:List Value) (d:TypeDesc)
  (hp:tmps.getD p undef=.pointer (some ⟨b,0,none⟩)) (hc:w.rangeAt b 0 cs) (hu:P.underlying ty=some d) (hd:d.isRow=true) (hi:(P.info? ty).map (·.size)=some cs.length):
  (results fn tmps).run P w=.ok (.agg cs.toArray) w:=by
 have hp':tmps[p]?.getD undef=.pointer (some ⟨b,0,none⟩):=by simpa using hp
 simp[results,h,hp',asAddr,run_loadVar_mid w b 0 ty cs d hc hu hd hi]
theorem Out7.range {w:World} {b:Nat} {u0 u1 u2 u3 u4 u5 u6:Value} (h:Out7 w b u0 u1 u2 u3 u4 u5 u6):w.rangeAt b 0 [u0,u1,u2,u3,u4,u5,u6]:=by
 intro j u hu
 rw[Nat.zero_add]
 match j,hu with
 | 0,hu=>cases hu;exact h.c0
 | 1,hu=>cases hu;exact h.c1
 | 2,hu=>cases hu;exact h.c2
 | 3,hu=>cases hu;exact h.c3
 | 4,hu=>cases hu;exact h.c4
 | 5,hu=>cases hu;exact h.c5
 | 6,hu=>cases hu;exact h.c6
theorem theirs7_any (t:FT):t.wee→∀(w:World) (u0 u1 u2 u3 u4 u5 u6:Value),FIn w w.heap.size t [u0,u1,u2,u3,u4,u5,u6]→
  Calls Tryz.prog 23 #[.agg #[u0,u1,u2,u3,u4,u5,u6]] w (ConvPost t w):=by
 induction t using FT.induct
 rename_i k a v f l any ps ih
 intro hwee w u0 u1 u2 u3 u4 u5 u6 hF
 simp only[FIn] at hF
 simp only[FT.wee] at hwee
 obtain⟨A,c,D,dd,xs,hcs,⟨hml,hnl⟩,hA,hD,hP⟩:=hF
 cases hcs
 obtain⟨hwm,hwn,hwl⟩:=hwee
 have hwp:=FT.weeL_mem hwl
 obtain⟨m,hm⟩:∃m,any.length=m:=⟨_,rfl⟩
 obtain⟨np,hnp⟩:∃np,ps.length=np:=⟨_,rfl⟩
 have hnl1:(np:Int)≤9223372036854775807:=by omega
 have hm5:m≤100000:=by omega
 have hn5:np≤100000:=by omega
 have hX:=Box7.new w k (txt a) (txt v) (txt f) (txt l) A any.length c D ps.length dd 25
 have hb0:=below1 w (.cells #[.int .i64 k,.string (txt a),.string (txt v),.string (txt f),.string (txt l),.slice A any.length c,.slice D ps.length dd] 25)
 obtain⟨w1,hw1⟩:∃w1,(w.alloc (.cells #[.int .i64 k,.string (txt a),.string (txt v),.string (txt f),.string (txt l),.slice A any.length c,.slice D ps.length dd] 25))=w1:=⟨_,rfl⟩
 have hsz1:w1.heap.size=w.heap.size+1:=by rw[←hw1];simp
 rw[hw1] at hX hb0
 have hR:=Out7.new (u0:=.int .i64 0) (u1:=.string ⟨#[]⟩) (u2:=.string ⟨#[]⟩) (u3:=.string ⟨#[]⟩) (u4:=.string ⟨#[]⟩) (u5:=.slice none 0 0) (u6:=.slice none 0 0) w1 39
 have hb1:=below1 w1 (.cells #[.int .i64 0,.string ⟨#[]⟩,.string ⟨#[]⟩,.string ⟨#[]⟩,.string ⟨#[]⟩,.slice none 0 0,.slice none 0 0] 39)
 obtain⟨w2,hw2⟩:∃w2,w1.alloc (.cells #[.int .i64 0,.string ⟨#[]⟩,.string ⟨#[]⟩,.string ⟨#[]⟩,.string ⟨#[]⟩,.slice none 0 0,.slice none 0 0] 39)=w2:=⟨_,rfl⟩
 rw[hw2] at hR hb1
 have hsz2:w2.heap.size=w.heap.size+2:=by rw[←hw2];simp[hsz1]
 have hX2:=hX.below hX.lt hb1
 have hb2:=hb0.trans (hb1.mono hb0.size)
 rw[hm,hnp] at hX2 hw1 ⊢
 rw[hsz1] at hR
 have hA2:=hA.below hb2
 rw[hm] at hA2
 have HW1:=hide hw1
 have HW2:=hide hw2
 have HX:=hide hX2
 have HR:=hide hR
 have HB:=hide hb2
 have HA:=hide hA2
 have HA0:=hide hA
 have HD:=hide hD
 have HP:=hide hP
 have Hih:=hide ih
 have Hwp:=hide hwp
 have Hnp:=hide hnp
 have Hm:=hide hm
 have HS1:=hide hsz1
 have HS2:=hide hsz2
 have H1t:=hide (strs_one any)
 clear ih hA hA2 hD hP hm hnp hml hnl hwp hwl hwm hwn hX hX2 hR hb0 hb1 hb2 hw1 hw2 hsz1 hsz2
 generalize hsa:txt a=sa at *
 have Hsa:=hide hsa
 clear hsa
 generalize hsv:txt v=sv at *
 have Hsv:=hide hsv
 clear hsv
 generalize hsf:txt f=sf at *
 have Hsf:=hide hsf
 clear hsf
 generalize hsl:txt l=sl at *
 have Hsl:=hide hsl
 clear hsl
 go_enter Tryz.func23,Tryz.ntmps23
 go_upto_region 1 with fail
 rw[HW1.out]
 rw[HW2.out]
 have HLT:w.heap.size<w2.heap.size:=by rw[HS2.out];omega
 go_cut [3] from 5 to 19 (fun s3 wx=>∃(h:Nat) (v5:Value),s3=.pointer (some ⟨h,0,none⟩)∧Th1 w2 wx h k sa sv sf sl v5 m any)
 case first=>
  clear Hih HD HP Hwp Hnp HA0 Hm HW1 HW2 HB HR HS1 HS2
  refine grow_begin_at w2.heap.size (by kernel_rfl) ?_
  have hdr:Below w2.heap.size w2 w2.drew:=(Below.refl _ _).drew
  have HXd:=hide (HX.out.below HX.out.lt hdr)
  have HBc:=hide hdr
  clear hdr HX
  generalize w2.drew=wd at *
  refine grow_take 0 (some 5) (v:=?va0) rfl rfl (by kernel_rfl) (by kernel_rfl) (by kernel_rfl) (fun _ _ _ h=>h) (by rfl) (fun W hW=>?ya0) ?_
  case ya0=>
   go_simp<;>with_reducible rfl
  simp only[Act.put,List.setIfInBounds_toArray,List.set_cons_zero,List.set_cons_succ]
  refine grow_take 1 (some 6) (v:=?va1) rfl rfl (by kernel_rfl) (by kernel_rfl) (by kernel_rfl) (fun _ _ _ h=>h) (by rfl) (fun W hW=>?ya1) ?_
  case ya1=>
   have h0:=(HXd.out.below HLT hW).c0
   go_simp<;>with_reducible rfl
  simp only[Act.put,List.setIfInBounds_toArray,List.set_cons_zero,List.set_cons_succ]
  refine grow_take 2 (some 7) (v:=?va2) rfl rfl (by kernel_rfl) (by kernel_rfl) (by kernel_rfl) (fun _ _ _ h=>h) (by rfl) (fun W hW=>?ya2) ?_
  case ya2=>
   go_simp<;>with_reducible rfl
  simp only[Act.put,List.setIfInBounds_toArray,List.set_cons_zero,List.set_cons_succ]
  refine grow_take 3 (some 8) (v:=?va3) rfl rfl (by kernel_rfl) (by kernel_rfl) (by kernel_rfl) (fun _ _ _ h=>h) (by rfl) (fun W hW=>?ya3) ?_
  case ya3=>
   have h1:=(HXd.out.below HLT hW).c1
   go_simp<;>with_reducible rfl
  simp only[Act.put,List.setIfInBounds_toArray,List.set_cons_zero,List.set_cons_succ]
  refine grow_take 4 (some 9) (v:=?va4) rfl rfl (by kernel_rfl) (by kernel_rfl) (by kernel_rfl) (fun _ _ _ h=>h) (by rfl) (fun W hW=>?ya4) ?_
  case ya4=>
   go_simp<;>with_reducible rfl
  simp only[Act.put,List.setIfInBounds_toArray,List.set_cons_zero,List.set_cons_succ]
  refine grow_take 5 (some 10) (v:=?va5) rfl rfl (by kernel_rfl) (by kernel_rfl) (by kernel_rfl) (fun _ _ _ h=>h) (by rfl) (fun W hW=>?ya5) ?_
  case ya5=>
   have h2:=(HXd.out.below HLT hW).c2
   go_simp<;>with_reducible rfl
  simp only[Act.put,List.setIfInBounds_toArray,List.set_cons_zero,List.set_cons_succ]
  refine grow_take 6 (some 11) (v:=?va6) rfl rfl (by kernel_rfl) (by kernel_rfl) (by kernel_rfl) (fun _ _ _ h=>h) (by rfl) (fun W hW=>?ya6) ?_
  case ya6=>
   go_simp<;>with_reducible rfl
  simp only[Act.put,List.setIfInBounds_toArray,List.set_cons_zero,List.set_cons_succ]
  refine grow_take 7 (some 12) (v:=?va7) rfl rfl (by kernel_rfl) (by kernel_rfl) (by kernel_rfl) (fun _ _ _ h=>h) (by rfl) (fun W hW=>?ya7) ?_
  case ya7=>
   have h3:=(HXd.out.below HLT hW).c3
   go_simp<;>with_reducible rfl
  simp only[Act.put,List.setIfInBounds_toArray,List.set_cons_zero,List.set_cons_succ]
  refine grow_take 8 (some 13) (v:=?va8) rfl rfl (by kernel_rfl) (by kernel_rfl) (by kernel_rfl) (fun _ _ _ h=>h) (by rfl) (fun W hW=>?ya8) ?_
  case ya8=>
   go_simp<;>with_reducible rfl
  simp only[Act.put,List.setIfInBounds_toArray,List.set_cons_zero,List.set_cons_succ]
  refine grow_take 9 (some 14) (v:=?va9) rfl rfl (by kernel_rfl) (by kernel_rfl) (by kernel_rfl) (fun _ _ _ h=>h) (by rfl) (fun W hW=>?ya9) ?_
  case ya9=>
   have h4:=(HXd.out.below HLT hW).c4
   go_simp<;>with_reducible rfl
  simp only[Act.put,List.setIfInBounds_toArray,List.set_cons_zero,List.set_cons_succ]
  refine grow_take 11 (some 16) (v:=?va11) rfl rfl (by kernel_rfl) (by kernel_rfl) (by kernel_rfl) (fun _ _ _ h=>h) (by rfl) (fun W hW=>?ya11) ?_
  case ya11=>
   go_simp<;>with_reducible rfl
  simp only[Act.put,List.setIfInBounds_toArray,List.set_cons_zero,List.set_cons_succ]
  refine grow_take 12 (some 17) (v:=?va12) rfl rfl (by kernel_rfl) (by kernel_rfl) (by kernel_rfl) (fun _ _ _ h=>h) (by rfl) (fun W hW=>?ya12) ?_
  case ya12=>
   have h5:=(HXd.out.below HLT hW).c5
   go_simp<;>with_reducible rfl
  simp only[Act.put,List.setIfInBounds_toArray,List.set_cons_zero,List.set_cons_succ]
  refine grow_each [10,15] (by kernel_rfl) (by simp) ?_
  refine AllG.cons rfl (fun K hK=>?_) (AllG.cons rfl (fun K hK=>?_) AllG.nil)
  ·go_simp
   have hb3:Below w2.heap.size wd (wd.alloc (.cells #[] 9)):=(Below.refl _ _).alloc HBc.out.size _
   have HOw:=hide (own_base (nilS wd) HBc.out.size)
   replace HBc:=hide (HBc.out.trans hb3)
   refine hK.out _ _ hb3 ?_
   clear hK K hb3
   generalize (Value.slice (some ⟨wd.heap.size,0,none⟩) 0 0)=x10 at *
   generalize wd.alloc (.cells #[] 9)=w10 at *
   try simp only[Act.put,List.setIfInBounds_toArray,List.set_cons_zero,List.set_cons_succ]
   refine grow_each [13,15] (by kernel_rfl) (by simp) ?_
   refine AllG.cons rfl (fun K hK=>?_) (AllG.cons rfl (fun K hK=>?_) AllG.nil)
   ·refine stepA _ 22 9 _ 1 16 Tryz.underlying22 infoS rfl (by omega) (by omega) (some 18) rfl rfl (.tmp 15) (.tmp 17) rfl w2.heap.size _ 0 [] rfl HOw.out _ _ m _ (strs any) rfl (HA.out.below (HBc.out.mono (Nat.le_of_lt HLT))) H1t.out (by omega) HBc.out.size ?_
    intro v13 w13 hown hb3 hg ht
    have HOn:Hid (w13.ownsRow w2.heap.size 9 1 v13 m (strs any)):=hide (by simpa using hown)
    obtain⟨A3,d3,hv3,_,_⟩:=own_form HOn.out
    subst hv3
    replace HBc:=hide (HBc.out.trans hb3)
    refine hK.out _ _ hb3 ?_
    clear hK K hown hb3 hg ht HOw
    try simp only[Act.put,List.setIfInBounds_toArray,List.set_cons_zero,List.set_cons_succ]
    refine grow_take 14 (some 19) (v:=?vac14) rfl rfl (by kernel_rfl) (by kernel_rfl) (by kernel_rfl) (fun _ _ _ h=>h) (by rfl) (fun W hW=>?yac14) ?_
    case yac14=>
     go_simp<;>with_reducible rfl
    simp only[Act.put,List.setIfInBounds_toArray,List.set_cons_zero,List.set_cons_succ]
    refine grow_only 15 rfl (by kernel_rfl) (fun K hK=>?_)
    go_simp
    have hb3:Below w2.heap.size w13 (w13.alloc (.cells #[.int .i64 0,.string ⟨#[]⟩,.string ⟨#[]⟩,.string ⟨#[]⟩,.string ⟨#[]⟩,.slice none 0 0,.slice none 0 0] 39)):=(Below.refl _ _).alloc HBc.out.size _
    have HOt:=hide (Out7.new (u0:=.int .i64 0) (u1:=.string ⟨#[]⟩) (u2:=.string ⟨#[]⟩) (u3:=.string ⟨#[]⟩) (u4:=.string ⟨#[]⟩) (u5:=.slice none 0 0) (u6:=.slice none 0 0) w13 39)
    have HLe:Hid (w2.heap.size≤w13.heap.size):=hide HBc.out.size
    have HOff2:Hid ((Value.slice A3 m d3).ownBlock≠some w13.heap.size):=hide (own_off HOn.out _ (Nat.le_refl _))
    replace HOn:=hide (HOn.out.alloc (.cells #[.int .i64 0,.string ⟨#[]⟩,.string ⟨#[]⟩,.string ⟨#[]⟩,.string ⟨#[]⟩,.slice none 0 0,.slice none 0 0] 39))
    replace HBc:=hide (HBc.out.trans hb3)
    refine hK.out _ _ hb3 ?_
    clear hK K hb3
    generalize w13.alloc (.cells #[.int .i64 0,.string ⟨#[]⟩,.string ⟨#[]⟩,.string ⟨#[]⟩,.string ⟨#[]⟩,.slice none 0 0,.slice none 0 0] 39)=w15 at *
    generalize w13.heap.size=h at *
    try simp only[Act.put,List.setIfInBounds_toArray,List.set_cons_zero,List.set_cons_succ]
    refine grow_only 16 rfl (by kernel_rfl) (fun K hK=>?_)
    have h1c:=own_one HOn.out
    refine step_store _ none rfl rfl 39 (.tmp 3) (.tmp 19) rfl h 0 #[.int .i64 k,.string sa,.string sv,.string sf,.string sl,.slice A3 m d3,.slice none 0 0] rfl rfl HOt.out.there (by kernel_rfl) (by simp[h1c,Value.oneCell']) ?_
    have hg:=grown_setCells h [.int .i64 k,.string sa,.string sv,.string sf,.string sl,.slice A3 m d3,.slice none 0 0] 0 w15
    have hb3:Below w2.heap.size w15 (w15.setCells h 0 [.int .i64 k,.string sa,.string sv,.string sf,.string sl,.slice A3 m d3,.slice none 0 0]):=below_of_grown hg (fun k hk=>by cases hk;exact HLe.out) HBc.out.size
    have HTh:Th1 w2 (w15.setCells h 0 [.int .i64 k,.string sa,.string sv,.string sf,.string sl,.slice A3 m d3,.slice none 0 0]) h k sa sv sf sl (.slice A3 m d3) m any:=⟨HBc.out.trans hb3,HLe.out,HOt.out.sets,HOn.out.kept hg (.inr HOff2.out),.inr HOff2.out⟩
    refine hK.out _ _ hb3 ?_
    clear hK K hb3 hg h1c
    try simp only[Act.put,List.setIfInBounds_toArray,List.set_cons_zero,List.set_cons_succ]
    refine grow_done (by kernel_rfl) ?_ _
    go_wp2_with fail
    go_meet
    case rel=>exact⟨h,.slice A3 m d3,rfl,HTh⟩
   ·go_simp
    have hb3:Below w2.heap.size w10 (w10.alloc (.cells #[.int .i64 0,.string ⟨#[]⟩,.string ⟨#[]⟩,.string ⟨#[]⟩,.string ⟨#[]⟩,.slice none 0 0,.slice none 0 0] 39)):=(Below.refl _ _).alloc HBc.out.size _
    have HOt:=hide (Out7.new (u0:=.int .i64 0) (u1:=.string ⟨#[]⟩) (u2:=.string ⟨#[]⟩) (u3:=.string ⟨#[]⟩) (u4:=.string ⟨#[]⟩) (u5:=.slice none 0 0) (u6:=.slice none 0 0) w10 39)
    have HLe:Hid (w2.heap.size≤w10.heap.size):=hide HBc.out.size
    have HOff:Hid (x10.ownBlock≠some w10.heap.size):=hide (own_off HOw.out _ (Nat.le_refl _))
    replace HOw:=hide (HOw.out.alloc (.cells #[.int .i64 0,.string ⟨#[]⟩,.string ⟨#[]⟩,.string ⟨#[]⟩,.string ⟨#[]⟩,.slice none 0 0,.slice none 0 0] 39))
    replace HBc:=hide (HBc.out.trans hb3)
    refine hK.out _ _ hb3 ?_
    clear hK K hb3
    generalize w10.alloc (.cells #[.int .i64 0,.string ⟨#[]⟩,.string ⟨#[]⟩,.string ⟨#[]⟩,.string ⟨#[]⟩,.slice none 0 0,.slice none 0 0] 39)=w15 at *
    generalize w10.heap.size=h at *
    try simp only[Act.put,List.setIfInBounds_toArray,List.set_cons_zero,List.set_cons_succ]
    refine grow_only 13 rfl (by kernel_rfl) (fun K hK=>?_)
    refine stepA _ 22 9 _ 1 16 Tryz.underlying22 infoS rfl (by omega) (by omega) (some 18) rfl rfl (.tmp 15) (.tmp 17) rfl w2.heap.size _ 0 [] rfl HOw.out _ _ m _ (strs any) rfl (HA.out.below (HBc.out.mono (Nat.le_of_lt HLT))) H1t.out (by omega) HBc.out.size ?_
    intro v13 w13 hown hb3 hg ht
    have HOn:Hid (w13.ownsRow w2.heap.size 9 1 v13 m (strs any)):=hide (by simpa using hown)
    obtain⟨A3,d3,hv3,_,_⟩:=own_form HOn.out
    subst hv3
    have hlt0:=HOt.out.lt
    have HOff2:Hid ((Value.slice A3 m d3).ownBlock≠some h):=hide (by
     rcases ht with e | e
     ·rw [e];exact HOff.out
     ·rw [e];intro e';have:=Option.some.inj e';omega)
    replace HOt:=hide (HOt.out.keep hb3.size (hg.block h HOt.out.lt (fun e=>HOff.out e.symm)))
    replace HBc:=hide (HBc.out.trans hb3)
    refine hK.out _ _ hb3 ?_
    clear hK K hown hb3 hg ht HOw HOff hlt0
    try simp only[Act.put,List.setIfInBounds_toArray,List.set_cons_zero,List.set_cons_succ]
    refine grow_take 14 (some 19) (v:=?vad14) rfl rfl (by kernel_rfl) (by kernel_rfl) (by kernel_rfl) (fun _ _ _ h=>h) (by rfl) (fun W hW=>?yad14) ?_
    case yad14=>
     go_simp<;>with_reducible rfl
    simp only[Act.put,List.setIfInBounds_toArray,List.set_cons_zero,List.set_cons_succ]
    refine grow_only 16 rfl (by kernel_rfl) (fun K hK=>?_)
    have h1c:=own_one HOn.out
    refine step_store _ none rfl rfl 39 (.tmp 3) (.tmp 19) rfl h 0 #[.int .i64 k,.string sa,.string sv,.string sf,.string sl,.slice A3 m d3,.slice none 0 0] rfl rfl HOt.out.there (by kernel_rfl) (by simp[h1c,Value.oneCell']) ?_
    have hg:=grown_setCells h [.int .i64 k,.string sa,.string sv,.string sf,.string sl,.slice A3 m d3,.slice none 0 0] 0 w13
    have hb3:Below w2.heap.size w13 (w13.setCells h 0 [.int .i64 k,.string sa,.string sv,.string sf,.string sl,.slice A3 m d3,.slice none 0 0]):=below_of_grown hg (fun k hk=>by cases hk;exact HLe.out) HBc.out.size
    have HTh:Th1 w2 (w13.setCells h 0 [.int .i64 k,.string sa,.string sv,.string sf,.string sl,.slice A3 m d3,.slice none 0 0]) h k sa sv sf sl (.slice A3 m d3) m any:=⟨HBc.out.trans hb3,HLe.out,HOt.out.sets,HOn.out.kept hg (.inr HOff2.out),.inr HOff2.out⟩
    refine hK.out _ _ hb3 ?_
    clear hK K hb3 hg h1c
    try simp only[Act.put,List.setIfInBounds_toArray,List.set_cons_zero,List.set_cons_succ]
    refine grow_done (by kernel_rfl) ?_ _
    go_wp2_with fail
    go_meet
    case rel=>exact⟨h,.slice A3 m d3,rfl,HTh⟩
  ·go_simp
   have hb3:Below w2.heap.size wd (wd.alloc (.cells #[.int .i64 0,.string ⟨#[]⟩,.string ⟨#[]⟩,.string ⟨#[]⟩,.string ⟨#[]⟩,.slice none 0 0,.slice none 0 0] 39)):=(Below.refl _ _).alloc HBc.out.size _
   have HOt:=hide (Out7.new (u0:=.int .i64 0) (u1:=.string ⟨#[]⟩) (u2:=.string ⟨#[]⟩) (u3:=.string ⟨#[]⟩) (u4:=.string ⟨#[]⟩) (u5:=.slice none 0 0) (u6:=.slice none 0 0) wd 39)
   have HLe:Hid (w2.heap.size≤wd.heap.size):=hide HBc.out.size
   replace HBc:=hide (HBc.out.trans hb3)
   refine hK.out _ _ hb3 ?_
   clear hK K hb3
   generalize wd.alloc (.cells #[.int .i64 0,.string ⟨#[]⟩,.string ⟨#[]⟩,.string ⟨#[]⟩,.string ⟨#[]⟩,.slice none 0 0,.slice none 0 0] 39)=w15 at *
   generalize wd.heap.size=h at *
   try simp only[Act.put,List.setIfInBounds_toArray,List.set_cons_zero,List.set_cons_succ]
   refine grow_only 10 rfl (by kernel_rfl) (fun K hK=>?_)
   go_simp
   have hb3:Below w2.heap.size w15 (w15.alloc (.cells #[] 9)):=(Below.refl _ _).alloc HBc.out.size _
   have HOw:=hide (own_base (nilS w15) HBc.out.size)
   have HOff:Hid ((Value.slice (some ⟨w15.heap.size,0,none⟩) 0 0).ownBlock≠some h):=hide (fun e=>by have:=HOt.out.lt;simp[Value.ownBlock] at e;omega)
   replace HOt:=hide (HOt.out.below HOt.out.lt (below1 w15 (.cells #[] 9)))
   replace HBc:=hide (HBc.out.trans hb3)
   refine hK.out _ _ hb3 ?_
   clear hK K hb3
   generalize (Value.slice (some ⟨w15.heap.size,0,none⟩) 0 0)=x10 at *
   generalize w15.alloc (.cells #[] 9)=w10 at *
   try simp only[Act.put,List.setIfInBounds_toArray,List.set_cons_zero,List.set_cons_succ]
   refine grow_only 13 rfl (by kernel_rfl) (fun K hK=>?_)
   refine stepA _ 22 9 _ 1 16 Tryz.underlying22 infoS rfl (by omega) (by omega) (some 18) rfl rfl (.tmp 15) (.tmp 17) rfl w2.heap.size _ 0 [] rfl HOw.out _ _ m _ (strs any) rfl (HA.out.below (HBc.out.mono (Nat.le_of_lt HLT))) H1t.out (by omega) HBc.out.size ?_
   intro v13 w13 hown hb3 hg ht
   have HOn:Hid (w13.ownsRow w2.heap.size 9 1 v13 m (strs any)):=hide (by simpa using hown)
   obtain⟨A3,d3,hv3,_,_⟩:=own_form HOn.out
   subst hv3
   have hlt0:=HOt.out.lt
   have HOff2:Hid ((Value.slice A3 m d3).ownBlock≠some h):=hide (by
    rcases ht with e | e
    ·rw [e];exact HOff.out
    ·rw [e];intro e';have:=Option.some.inj e';omega)
   replace HOt:=hide (HOt.out.keep hb3.size (hg.block h HOt.out.lt (fun e=>HOff.out e.symm)))
   replace HBc:=hide (HBc.out.trans hb3)
   refine hK.out _ _ hb3 ?_
   clear hK K hown hb3 hg ht HOw HOff hlt0
   try simp only[Act.put,List.setIfInBounds_toArray,List.set_cons_zero,List.set_cons_succ]
   refine grow_take 14 (some 19) (v:=?vae14) rfl rfl (by kernel_rfl) (by kernel_rfl) (by kernel_rfl) (fun _ _ _ h=>h) (by rfl) (fun W hW=>?yae14) ?_
   case yae14=>
    go_simp<;>with_reducible rfl
   simp only[Act.put,List.setIfInBounds_toArray,List.set_cons_zero,List.set_cons_succ]
   refine grow_only 16 rfl (by kernel_rfl) (fun K hK=>?_)
   have h1c:=own_one HOn.out
   refine step_store _ none rfl rfl 39 (.tmp 3) (.tmp 19) rfl h 0 #[.int .i64 k,.string sa,.string sv,.string sf,.string sl,.slice A3 m d3,.slice none 0 0] rfl rfl HOt.out.there (by kernel_rfl) (by simp[h1c,Value.oneCell']) ?_
   have hg:=grown_setCells h [.int .i64 k,.string sa,.string sv,.string sf,.string sl,.slice A3 m d3,.slice none 0 0] 0 w13
   have hb3:Below w2.heap.size w13 (w13.setCells h 0 [.int .i64 k,.string sa,.string sv,.string sf,.string sl,.slice A3 m d3,.slice none 0 0]):=below_of_grown hg (fun k hk=>by cases hk;exact HLe.out) HBc.out.size
   have HTh:Th1 w2 (w13.setCells h 0 [.int .i64 k,.string sa,.string sv,.string sf,.string sl,.slice A3 m d3,.slice none 0 0]) h k sa sv sf sl (.slice A3 m d3) m any:=⟨HBc.out.trans hb3,HLe.out,HOt.out.sets,HOn.out.kept hg (.inr HOff2.out),.inr HOff2.out⟩
   refine hK.out _ _ hb3 ?_
   clear hK K hb3 hg h1c
   try simp only[Act.put,List.setIfInBounds_toArray,List.set_cons_zero,List.set_cons_succ]
   refine grow_done (by kernel_rfl) ?_ _
   go_wp2_with fail
   go_meet
   case rel=>exact⟨h,.slice A3 m d3,rfl,HTh⟩
 case rest=>
  obtain⟨h,v5,rfl,hTh⟩:=hcut
  obtain⟨A5,d5,hv5,_,_⟩:=own_form hTh.own
  subst hv5
  have hs2:=HS2.out
  have hbc:=hTh.bel
  have hsc:=hbc.size
  have hle:=hTh.le
  have hltc:=hTh.out.lt
  have HXc:=hide (HX.out.below HX.out.lt hbc)
  have HXb:=HX.out
  have HXl:w.heap.size<wc.heap.size:=by omega
  have HRc:=hide (HR.out.below (D:=w2.heap.size) (by omega) hbc)
  have HBc:=hide (HB.out.trans (hbc.mono HB.out.size))
  have HBl:=HB.out.size
  have HTh:=hide hTh
  have Hsc:=hide hsc
  have Hle:=hide hle
  have Hs2:=hide hs2
  have HBl2:=hide HBl
  clear hTh hbc HXb HX HR HB HA HA0 HW1 HW2 HS1 hsc hle hs2 HBl H1t
  obtain⟨_,c0,c1,c2,c3,c4,c5,c6⟩:=HXc.out
  go_wp2
  go_loopg [23] np (fun r s23 wx=>∃(j:Nat) (v6:Value) (ys:List Value),j+r=np∧s23=.int .i64 (j:Int)∧Hid (ThL 39 wc wx h k sa sv sf sl (.slice A5 m d5) v6 j ys (ps.take j)))
  case atStart=>exact⟨0,.slice none 0 0,[],by omega,rfl,hide ⟨World.grownBy.refl wc _,HTh.out.out,World.ownsRow_nil _ _ _ _,by simp[FsInP]⟩⟩
  case round=>
   obtain⟨j,v6,ys,hjg,rfl,hL⟩:=hrel
   clear c0 c1 c2 c3 c4 c5 c6
   have hXr:=hide (HXc.out.keep hL.out.grown.size (hL.out.grown.block w.heap.size HXl (fun e=>by have:=Option.some.inj e;have:=Hle.out;have:=Hs2.out;omega)))
   obtain⟨_,c0,c1,c2,c3,c4,c5,c6⟩:=hXr.out
   cases gk with
   | zero=>
    obtain rfl:j=np:=by omega
    have hjz:¬((j:Int)<(j:Int)):=by omega
    obtain⟨D6,d6,hv6,_,_⟩:=own_form hL.out.own
    subst hv6
    have hRr:=hide (HRc.out.keep hL.out.grown.size (hL.out.grown.block (w.heap.size+1) (by have:=Hsc.out;have:=Hs2.out;omega) (fun e=>by have:=Option.some.inj e;have:=Hle.out;have:=Hs2.out;omega)))
    obtain⟨_,o0,o1,o2,o3,o4,o5,o6,_⟩:=hL.out.out
    have hTh:=HTh.out
    have hLL:=hL.out
    clear HD HP Hih Hwp
    obtain⟨wz,hwz⟩:∃wz,wr.setCells (w.heap.size+1) 0 [.int .i64 k,.string sa,.string sv,.string sf,.string sl,.slice A5 m d5,.slice D6 j d6]=wz:=⟨_,rfl⟩
    have hZ:=hRr.out.sets (v0:=.int .i64 k) (v1:=.string sa) (v2:=.string sv) (v3:=.string sf) (v4:=.string sl) (v5:=.slice A5 m d5) (v6:=.slice D6 j d6)
    rw[hwz] at hZ
    have hst:∀{ops:Array Oper} {rest:List Oper} {op:Oper} {a:Act} {Q:Exit→Act→World→Prop},op.guard=none→op.op=.store 39 (.tmp 2) (.tmp 38)→a.eval (.tmp 2)=.pointer (some ⟨w.heap.size+1,0,none⟩)→a.eval (.tmp 38)=.agg #[.int .i64 k,.string sa,.string sv,.string sf,.string sl,.slice A5 m d5,.slice D6 j d6]→
      wpList Tryz.prog ops Q rest (a.put op.dst undef) wz→wpList Tryz.prog ops Q (op::rest) a wr:=by
     intro ops rest op a Q h1 h2 h3 h4 h5
     rw[←hwz] at h5
     exact wpList_store_mid h1 _ _ _ h2 _ _ _ h3 h4 hRr.out.there (by kernel_rfl) (by simp[Value.oneCell']) h5
    have Hwz:=hide hwz
    have HZ:=hide hZ
    obtain⟨_,z0,z1,z2,z3,z4,z5,z6,_⟩:=hZ
    clear hwz
    go_wp2_with (refine hst rfl rfl rfl rfl ?_)
    refine bodyPost_ret (v:=.agg #[.int .i64 k,.string sa,.string sv,.string sf,.string sl,.slice A5 m d5,.slice D6 j d6]) ?_ rfl ?_
    ·exact results_cell1 rfl _ wz (w.heap.size+1) [.int .i64 k,.string sa,.string sv,.string sf,.string sl,.slice A5 m d5,.slice D6 j d6] _ rfl HZ.out.range Tryz.underlying39 rfl (by kernel_rfl)
    ·have hle:=Hle.out
     have hs2:=Hs2.out
     obtain rfl:=Hsa.out
     obtain rfl:=Hsv.out
     obtain rfl:=Hsf.out
     obtain rfl:=Hsl.out
     have hLp:=hL.out
     rw[List.take_of_length_le (by rw[Hnp.out];exact Nat.le_refl _)] at hLp
     have hd:=conv_done HTh.out hLp Hm.out Hnp.out hm5 hn5 (show w.heap.size≤w.heap.size+1 by omega) (by omega) HBl2.out HBc.out [.int .i64 k,.string (txt a),.string (txt v),.string (txt f),.string (txt l),.slice A5 m d5,.slice D6 j d6]
     rw[Hwz.out] at hd
     exact⟨_,_,_,_,_,_,_,rfl,hd.1,hd.2⟩
   | succ r=>
    have hj:j<np:=by omega
    have hjz:(j:Int)<(np:Int):=by omega
    obtain⟨p,hp⟩:∃p,ps[j]?=some p:=⟨_,List.getElem?_eq_getElem (by rw[Hnp.out];exact hj)⟩
    have hpm:=List.mem_of_getElem? hp
    obtain⟨g,o,hDe,hg,hparts⟩:=HD.out.part HP.out (fun h=>by rw[h] at hp;simp at hp)
    subst hDe
    obtain⟨u0,u1,u2,u3,u4,u5,u6,hpart⟩:=hparts j p hp
    have hLo:=hL.out
    have hgb:Below w.heap.size wc wr:=below_of_grown hLo.grown (fun q hq=>by have:=Option.some.inj hq;have:=Hle.out;have:=Hs2.out;omega) (by omega)
    have hbw:=HBc.out.trans hgb
    have hsw:=hLo.grown.size
    have hdr:∀B,Below B wr wr.drew:=fun B=>(Below.refl _ _).drew
    have HPd:=hide ((hpart.below hbw).below (hdr _))
    have hcall:=Hih.out p hpm (Hwp.out p hpm) wr.drew _ _ _ _ _ _ _ ((HPd.out.fin).upto (Nat.le_trans hbw.size (hdr 0).size))
    have HXd:=hide (hXr.out.below hXr.out.lt (hdr _))
    have HOd:=hide (hLo.out.below hLo.out.lt (hdr _))
    have HLd:Hid (ThL 39 wc wr.drew h k sa sv sf sl (.slice A5 m d5) v6 j ys (ps.take j)):=hide ⟨⟨hLo.grown.os,hLo.grown.tape,hLo.grown.output,hLo.grown.size,hLo.grown.block⟩,HOd.out,own_below hLo.own (hdr _),FsInP.move (w:=wr) (w':=wr.drew) (P':=fun b=>wc.heap.size≤b∧b<wr.drew.heap.size∧some b≠v6.ownBlock) (fun _ _=>rfl) (fun _ h=>h) hLo.parts⟩
    have htk:Hid (ps.take (j+1)=ps.take j++[p]):=hide (by rw[List.take_add_one,hp];rfl)
    have hswd:wc.heap.size≤wr.drew.heap.size:=hsw
    have HWC:Hid (w.heap.size≤wc.heap.size):=hide (by omega)
    clear HD HP Hih Hwp Hnp Hm HTh HRc hp hpm hparts hpart hLo hgb hbw hsw hdr hL hXr HBc HXc HBl2
    clear c0 c1 c2 c3 c4 c5 c6
    go_wp2_with fail
    refine grow_begin_atL wc.heap.size 11 (by kernel_rfl) ?_
    generalize wr.drew=wd at *
    refine grow_takeL 0 (some 26) (v:=?vb0) rfl rfl (by kernel_rfl) (by kernel_rfl) (by kernel_rfl) (fun _ _ _ h=>h) (by kernel_rfl) (by rfl) (fun W hW=>?yb0) ?_
    case yb0=>
     go_simp<;>with_reducible rfl
    simp only[Act.put,List.setIfInBounds_toArray,List.set_cons_zero,List.set_cons_succ]
    refine grow_takeL 1 (some 27) (v:=?vb1) rfl rfl (by kernel_rfl) (by kernel_rfl) (by kernel_rfl) (fun _ _ _ h=>h) (by kernel_rfl) (by rfl) (fun W hW=>?yb1) ?_
    case yb1=>
     have h6:=(HOd.out.below hltc hW).c6
     go_simp<;>with_reducible rfl
    simp only[Act.put,List.setIfInBounds_toArray,List.set_cons_zero,List.set_cons_succ]
    refine grow_takeL 2 (some 28) (v:=?vb2) rfl rfl (by kernel_rfl) (by kernel_rfl) (by kernel_rfl) (fun _ _ _ h=>h) (by kernel_rfl) (by rfl) (fun W hW=>?yb2) ?_
    case yb2=>
     go_simp<;>with_reducible rfl
    simp only[Act.put,List.setIfInBounds_toArray,List.set_cons_zero,List.set_cons_succ]
    refine grow_takeL 3 (some 29) (v:=?vb3) rfl rfl (by kernel_rfl) (by kernel_rfl) (by kernel_rfl) (fun _ _ _ h=>h) (by kernel_rfl) (by rfl) (fun W hW=>?yb3) ?_
    case yb3=>
     have h6:=(HXd.out.below HXl hW).c6
     go_simp<;>with_reducible rfl
    simp only[Act.put,List.setIfInBounds_toArray,List.set_cons_zero,List.set_cons_succ]
    refine grow_takeL 4 (some 30) (v:=?vb4) rfl rfl (by kernel_rfl) (by kernel_rfl) (by kernel_rfl) (fun _ _ _ h=>h) (by kernel_rfl) (by rfl) (fun W hW=>?yb4) ?_
    case yb4=>
     go_simp<;>with_reducible rfl
    simp only[Act.put,List.setIfInBounds_toArray,List.set_cons_zero,List.set_cons_succ]
    refine grow_takeL 5 (some 31) (v:=?vb5) rfl rfl (by kernel_rfl) (by kernel_rfl) (by kernel_rfl) (fun _ _ _ h=>h) (by kernel_rfl) (by rfl) (fun W hW=>?yb5) ?_
    case yb5=>
     go_simp<;>with_reducible rfl
    simp only[Act.put,List.setIfInBounds_toArray,List.set_cons_zero,List.set_cons_succ]
    refine grow_takeL 6 (some 32) (v:=?vb6) rfl rfl (by kernel_rfl) (by kernel_rfl) (by kernel_rfl) (fun _ _ _ h=>h) (by kernel_rfl) (by rfl) (fun W hW=>?yb6) ?_
    case yb6=>
     obtain⟨_,_,e0,e1,e2,e3,e4,e5,e6⟩:=HPd.out.below (hW.mono HWC.out)
     go_simp<;>with_reducible rfl
    simp only[Act.put,List.setIfInBounds_toArray,List.set_cons_zero,List.set_cons_succ]
    refine grow_onlyL 7 rfl (by kernel_rfl) (fun K hK=>?_)
    go_simp
    refine hcall.mono ?_
    rintro e w7 hpost
    obtain⟨y0,y1,y2,y3,y4,y5,y6,rfl,hy,hb7⟩:=hpost.out
    have HY:=hide hy
    have HB7:=hide hb7
    have hOw:=own_below HLd.out.own hb7
    have HOw:=hide hOw
    have hs7:wc.heap.size≤w7.heap.size:=Nat.le_trans hswd hb7.size
    refine hK.out _ _ (fun _=>hb7.mono hswd) ?_
    clear hK K hy hb7 hOw hpost
    try simp only[Act.put,List.setIfInBounds_toArray,List.set_cons_zero,List.set_cons_succ]
    refine grow_onlyL 8 rfl (by kernel_rfl) (fun K hK=>?_)
    go_simp
    have hb8:Below wc.heap.size w7 (w7.alloc (.cells #[y0,y1,y2,y3,y4,y5,y6] 39)):=(Below.refl _ _).alloc hs7 _
    have hlit:=World.ownsRow_lit (e:=39) (size:=7) w7 #[y0,y1,y2,y3,y4,y5,y6] 1 (Nat.le_refl _) (by unfold maxLen;omega) rfl
    have hOw8:=HOw.out.alloc (.cells #[y0,y1,y2,y3,y4,y5,y6] 39)
    have hs8:=Nat.le_trans hs7 hb8.size
    refine hK.out _ _ (fun _=>hb8) ?_
    clear hK K hb8
    try simp only[Act.put,List.setIfInBounds_toArray,List.set_cons_zero,List.set_cons_succ]
    refine grow_onlyL 9 rfl (by kernel_rfl) (fun K hK=>?_)
    refine stepA _ 37 39 _ 7 120 Tryz.underlying37 infoF rfl (by omega) (by omega) (some 35) rfl rfl (.tmp 27) (.tmp 34) rfl wc.heap.size _ j ys rfl hOw8 _ _ 1 1 [y0,y1,y2,y3,y4,y5,y6] rfl (Has.own hlit) HY.out.one (by omega) hs8 ?_
    intro v9 w9 hown9 hb9 hg9 ht9
    have hN:=HLd.out.next hltc HB7.out HY.out hown9 hg9 ht9
    have h1c:=own_one hown9
    obtain⟨A9,d9,hv9,_,_⟩:=own_form hown9
    subst hv9
    have hO9:=hN.out
    have HO9:Hid (Out7 w9 h (.int .i64 k) (.string sa) (.string sv) (.string sf) (.string sl) (.slice A5 m d5) v6):=hide ((HOd.out.below (Nat.lt_of_lt_of_le hltc hswd) HB7.out).keep (Nat.le_trans (by simp) hg9.size) ((hg9.block h (by have:=HB7.out.size;simp;omega) (fun e=>by have:=(HLd.out.own.lt h e.symm).1;omega)).trans (heap_alloc_old w7 _ (by have:=HB7.out.size;omega))))
    have HN:=hide hN
    refine hK.out _ _ (fun _=>hb9) ?_
    clear hK K hown9 hb9 hg9 ht9 hN hO9 hlit hOw8 hs8 HY HB7 HOw h1c
    try simp only[Act.put,List.setIfInBounds_toArray,List.set_cons_zero,List.set_cons_succ]
    refine grow_takeL 10 (some 36) (v:=?vb10) rfl rfl (by kernel_rfl) (by kernel_rfl) (by kernel_rfl) (fun _ _ _ h=>h) (by kernel_rfl) (by rfl) (fun W hW=>?yb10) ?_
    case yb10=>
     go_simp<;>with_reducible rfl
    simp only[Act.put,List.setIfInBounds_toArray,List.set_cons_zero,List.set_cons_succ]
    refine grow_onlyL 11 rfl (by kernel_rfl) (fun K hK=>?_)
    obtain⟨_,_,_,_,_,_,_,o6,ofz⟩:=HO9.out
    have of6:=ofz 6
    go_simp
    refine hK.out _ _ (fun h=>absurd rfl h) ?_
    clear hK K o6 of6 ofz
    try simp only[Act.put,List.setIfInBounds_toArray,List.set_cons_zero,List.set_cons_succ]
    refine grow_doneL (by kernel_rfl) ?_ _
    have hrel2:=HN.out
    rw[←htk.out] at hrel2
    go_wp2
    go_roundg r
    case measure=>omega
    case rel=>exact⟨j+1,_,_,by omega,by go_num,hide hrel2⟩
end Go.Proofs.YtcpjmgfloimfhaaGreat
namespace Go.Proofs.YtcpjmgfloimfhaaGreat
open Go.RowKit
set_option linter.unusedVariables false
theorem own_fr {W W':World} {lo n size:Nat} {e:TypeId} {v:Value} {xs:List Value} {X:Nat→Prop} (h:W.ownsRow lo e size v n xs) (hf:Fr X W W') (hx:∀k,lo≤k→¬X k):W'.ownsRow lo e size v n xs:=by
 refine⟨h.1,h.2.imp id ?_⟩
 rintro ⟨g,cap,cur,hv,hg,hh,rest⟩
 have hglt:g<W.heap.size:=(Array.getElem?_eq_some_iff.1 hh).1
 exact⟨g,cap,cur,hv,hg,(hf.same g hglt (hx _ hg)).trans hh,rest⟩
theorem LstS.low {α:Type} {E:Elem α} {ety:TypeId} {bl lo2 lo3:Nat} {L:List α} {W:World} (h:LstS E ety bl lo3 L W) (h1:lo2≤lo3) (h2:bl<lo2):LstS E ety bl lo2 L W:=by
 obtain⟨v,xs,q1,q2,q3⟩:=h.row
 exact⟨h2,h.lt,h.fz,⟨v,xs,q1,own_base q2 h1,q3.move (fun _ _=>rfl) fun k hk=>⟨Nat.le_trans h1 hk.1,hk.2⟩⟩,h.len⟩
theorem LstS.snoc {α:Type} {E:Elem α} {ety:TypeId} {bl lo:Nat} {L:List α} {w2 w4:World} {v v':Value} {xs cs:List Value} {x:α} {o:Obj} (hbl:bl<lo) (hlo:lo≤w2.heap.size) (hfz:∀i,w2.frozen? ⟨bl,i,none⟩=false) (hcl:w2.cell? ⟨bl,0,none⟩=some v)
  (hown:w2.ownsRow lo ety E.size v L.length xs) (hrow:rowIn E w2 (fun k=>lo≤k∧k<w2.heap.size∧v.ownBlock≠some k) L xs) (hx:E.rep w2 (fun k=>lo≤k∧k<w2.heap.size∧v.ownBlock≠some k) x cs)
  (h4:w4.ownsRow lo ety E.size v' (L.length+1) (xs++cs)) (hg:(w2.alloc o).grownBy w4 v.ownBlock) (ht:v'.ownBlock=v.ownBlock∨v'.ownBlock=some (w2.alloc o).heap.size) (hn:L.length+1≤20000):
  LstS E ety bl lo (L++[x]) (w4.setCell ⟨bl,0,none⟩ v'):=by
 have hf1:Fr (fun k=>v.ownBlock=some k) w2 w4:=(Fr.alloc _ w2 o).trans (Fr.grown hg fun k hk=>hk)
 have hbo:¬(v.ownBlock=some bl):=fun e=>by have:=(hown.lt bl e).1;omega
 have hlt:bl<w2.heap.size:=by omega
 have hlt4:bl<w4.heap.size:=Nat.lt_of_lt_of_le hlt hf1.size
 have hc4:w4.cell? ⟨bl,0,none⟩=some v:=(hf1.cell (p:=⟨bl,0,none⟩) hlt hbo).trans hcl
 have hf2:Fr (fun k=>k=bl) w4 (w4.setCell ⟨bl,0,none⟩ v'):=Fr.setCell _ _ _ rfl
 have key:∀k,(lo≤k∧k<w2.heap.size∧v.ownBlock≠some k)→v'.ownBlock≠some k:=fun k hk e=>by
  rcases ht with h | h
  ·rw [h] at e;exact hk.2.2 e
  ·rw [h] at e;cases e;have:=hk.2.1;simp at this;omega
 have hrow2:=hrow.snoc hx
 refine⟨hbl,Nat.lt_of_lt_of_le hlt4 hf2.size,fun i=>by rw[World.frozen?_setCell];exact (hf1.frozen (p:=⟨bl,i,none⟩) hlt hbo).trans (hfz i),⟨v',xs++cs,World.cell?_setCell_same _ _ _ hc4,?_,?_⟩,by simpa using hn⟩
 ·have:=own_fr h4 hf2 (fun k hk e=>by omega)
  simpa using this
 ·refine rowIn.move (fun p hp=>?_) (fun k hk=>?_) hrow2
  ·rw [hf2.cell (Nat.lt_of_lt_of_le hp.2.1 hf1.size) (by have:=hp.1;omega),hf1.cell hp.2.1 hp.2.2]
  ·exact ⟨hk.1,Nat.lt_of_lt_of_le hk.2.1 (Nat.le_trans hf1.size hf2.size),key k hk⟩
structure Many {α:Type} (p:Rdr α) (F:List Fd) (φ:Bool) (F':List Fd) (φ':Bool) (acc:List α):Prop where
 bad:φ=true→φ'=true
 more:φ=false→φ'=false→Rd.manyGo p F'.length F' acc=Rd.manyGo p F.length F []
 none:φ=false→φ'=true→Rd.manyGo p F.length F []=.none
 len:φ'=false→acc.length+F'.length≤16384
 all:acc.length≤16385
section
variable {α:Type} {p:Rdr α} {F F' G:List Fd} {φ φ':Bool} {acc:List α} {x:α}
theorem Many.start (p:Rdr α) (F:List Fd) (φ:Bool) (h:F.length≤16384):Many p F φ F φ []:=
 ⟨id,fun _ _=>rfl,fun h1 h2=>(by rw[h1] at h2;cases h2),fun _=>by simpa using h,by simp⟩
theorem Many.step (h:Many p F φ F' false acc) (he:Eats p) (hn:F'≠[]) (hq:∀x0 F0,p F'=some (x0,F0)→x=x0∧G=F0):Many p F φ G (p F').isNone (acc++[x])∧(if (p F').isNone then 0 else G.length+1)<F'.length+1:=by
 have h1:=h.len rfl
 have hpos:=List.length_pos_iff.2 hn
 cases hp:p F' with
 | none=>
  refine⟨⟨fun h0=>rfl,fun _ h2=>(by cases h2),fun h0 _=>?_,fun h2=>(by cases h2),by simp;omega⟩,by simp⟩
  rw[←h.more h0 rfl]
  exact many_none _ hp hn
 | some q=>
  obtain⟨y,H⟩:=q
  obtain⟨rfl,rfl⟩:=hq _ _ hp
  have h2:=he _ _ _ hp
  refine⟨⟨fun h0=>?_,fun h0 _=>?_,fun _ h3=>(by cases h3),fun _=>by simp;omega,by simp;omega⟩,by simp;omega⟩
  ·have:=h.bad h0;cases this
  ·rw [←h.more h0 rfl,many_next he acc hp hn]
theorem Many.done (h:Many p F φ F' φ' acc) (hm:moreB F' φ'=false):φ'=(φ||(Rd.manyR p F).isNone)∧(φ=false→∀x0 F0,Rd.manyR p F=some (x0,F0)→acc=x0∧F'=F0):=by
 unfold Rd.manyR
 cases φ with
 | true=>exact⟨by rw[h.bad rfl];rfl,fun h0=>by cases h0⟩
 | false=>
  cases φ' with
  | true=>rw[h.none rfl rfl];exact⟨rfl,fun _ x0 F0 h0=>by cases h0⟩
  | false=>
   cases F' with
   | cons f r=>cases hm
   | nil=>
    rw[←h.more rfl rfl]
    exact⟨rfl,fun _ x0 F0 h0=>by simpa[Rd.manyGo] using h0⟩
end
def wayCC (p:Addr) (v:Value) (q:Addr) (u:Value) (w W:World):Prop:=(w.cell? p=some v→W.cell? p=some v)∧(w.cell? q=some u→W.cell? q=some u)
instance wayCCway (p:Addr) (v:Value) (q:Addr) (u:Value):Way (wayCC p v q u):=⟨fun _=>⟨id,id⟩,fun h k=>⟨fun x=>k.1 (h.1 x),fun x=>k.2 (h.2 x)⟩⟩
end Go.Proofs.YtcpjmgfloimfhaaGreat
