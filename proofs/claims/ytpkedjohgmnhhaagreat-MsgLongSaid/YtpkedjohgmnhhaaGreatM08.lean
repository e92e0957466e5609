/- Several texts in one: LRead2, LFields, LInner, LInner2, LElem. By an AI agent. -/
import Derived.Test.YtpkedjohgmnhhaaGreatM07
set_option maxRecDepth 100000
set_option maxHeartbeats 16000000
set_option linter.unusedSimpArgs false
namespace Go.Proofs.YtpkedjohgmnhhaaGreat
open Go.RowKit
set_option linter.unusedVariables false
theorem test_take {α:Type} {t:UInt8} {F F':List Fd} {φ:Bool} {x:List UInt8} {ok:List UInt8→Option α} {p:Rdr α} (hp:p F=match Rd.takeR t F with | some (c,r)=>(ok c).map fun y=>(y,r) | none=>none)
  (hx:φ=false→∀x0 F0,Rd.takeR t F=some (x0,F0)→x=x0∧F'=F0):
  (ok x=none→(φ||(p F).isNone)=true)∧(∀y,ok x=some y→(φ||(p F).isNone)=(φ||(Rd.takeR t F).isNone)∧(φ=false→∀x0 F0,p F=some (x0,F0)→y=x0∧F'=F0)):=by
 rw[hp]
 cases φ with
 | true=>exact⟨fun _=>rfl,fun y _=>⟨rfl,fun h=>by cases h⟩⟩
 | false=>
  cases ht:Rd.takeR t F with
  | none=>exact⟨fun _=>rfl,fun y _=>⟨rfl,fun _ x0 F0 h0=>by cases h0⟩⟩
  | some q=>
   obtain⟨c,r⟩:=q
   obtain⟨rfl,rfl⟩:=hx rfl _ _ ht
   refine⟨fun h=>?_,fun y h=>?_⟩
   ·simp only[h];rfl
   ·simp only[h]
    exact⟨rfl,fun _ x0 F0 h0=>by simpa using h0⟩
theorem tagged_eq (t:UInt8) (F:List Fd):Rd.taggedR t F=match Rd.takeR t F with | some (c,r)=>(if c.length≤1000 then some c else none).map fun y=>(y,r) | none=>none:=by
 unfold Rd.taggedR
 cases Rd.takeR t F with
 | none=>rfl
 | some q=>obtain⟨c,r⟩:=q;simp only;split<;>rfl
theorem num_eq (t:UInt8) (most:Int) (F:List Fd):Rd.numR t most F=match Rd.takeR t F with | some (c,r)=>(if (Ber.toInt c).2=0∧0≤(Ber.toInt c).1∧(Ber.toInt c).1≤most then some (Ber.toInt c).1 else none).map fun y=>(y,r) | none=>none:=by
 unfold Rd.numR
 cases Rd.takeR t F with
 | none=>rfl
 | some q=>obtain⟨c,r⟩:=q;simp only;split<;>rfl
theorem flag_eq (F:List Fd):Rd.flagR F=match Rd.takeR 1 F with | some (c,r)=>(if (Ber.toBool c).2=0 then some (Ber.toBool c).1 else none).map fun y=>(y,r) | none=>none:=by
 unfold Rd.flagR
 cases Rd.takeR 1 F with
 | none=>rfl
 | some q=>obtain⟨c,r⟩:=q;simp only;split<;>rfl
theorem own_range {lo g b:Nat} (hb:b<lo):∀k,lo≤k→k<g→¬own2 g b k:=fun k h1 h2 h=>by rcases h with h | h<;>omega
theorem tagged_any (w:World) (lo g b:Nat) (F:List Fd) (φ:Bool) (t:UInt8) (h:RdS w lo g b F φ):
  Calls Tryz.prog 128 #[.pointer (some ⟨g,0,none⟩),c8 t] w (RdPost repT (Rd.taggedR t) w (own2 g b) lo g b F φ):=by
 go_enter Tryz.func128,Tryz.ntmps128
 go_wp2_with (go_at_call 80;fail)
 refine (take_any w lo g b F φ t h).mono ?_
 rintro e w1 hpost
 obtain⟨A,c,x,F',rfl,hc,hm,hx,hP,hr,hf,hq⟩:=hpost.out
 clear hpost
 have hTT:=test_take (tagged_eq t F) hq
 have HFl:=hide (fail_any w1 lo g b F' _ hr)
 obtain⟨m,hm2⟩:∃m,x.length=m:=⟨_,rfl⟩
 have hlog:=h.log
 have hblo:=h.blo
 have hlt1:=hr.lt
 rw[hm2] at hx hc hP ⊢
 by_cases hl:1000<m
 ·have z:(1000:Int)<(m:Int):=by omega
  have hno:=hTT.1 (by rw[if_neg (by omega)])
  have Hno:=hide hno
  have HP:=hide hP
  have Hlo:=hide (And.intro hlog hblo)
  have Hlt:=hide hlt1
  clear hTT hno hq hP hlog hblo hm2 hlt1
  go_wp2_with (go_at_call 78;fail)
  refine HFl.out.mono ?_
  rintro e w2 ⟨rfl,hr2,hf2⟩
  have hfT:=hf.trans hf2
  have hP2:=HP.out.fr hf2 (P':=fun k=>k<w2.heap.size) (fun k hk=>⟨by have:=Hlt.out;omega,own_range Hlo.out.2 k hk.1 hk.2,by have:=hr2.lt;omega⟩)
  have htx:=txt8 w2 c (hP2.has (B:=w2.heap.size) (fun _ h=>h))
  clear hP2
  go_wp2
  go_ret
  exact⟨⟨x,_,F',rfl,rfl,by rw[Hno.out];exact hr2,hfT,fun h0 x0 F0 hh=>by have:=Hno.out;rw[h0,hh] at this;cases this⟩⟩
 ·have z:¬((1000:Int)<(m:Int)):=by omega
  have hyes:=hTT.2 x (by rw[if_pos (by omega)])
  have Hyes:=hide hyes
  have htx:=txt8 w1 c (hP.has (B:=w1.heap.size) (fun k hk=>by omega))
  clear hTT hyes hq hP HFl hlog hblo hm2 hlt1
  go_wp2
  go_ret
  exact⟨⟨x,_,F',rfl,rfl,by rw[Hyes.out.1];exact hr,hf,Hyes.out.2⟩⟩
theorem text_any (w:World) (lo g b:Nat) (F:List Fd) (φ:Bool) (h:RdS w lo g b F φ):
  Calls Tryz.prog 130 #[.pointer (some ⟨g,0,none⟩)] w (RdPost repT Rd.textR w (own2 g b) lo g b F φ):=by
 have hT:=tagged_any w lo g b F φ 4 h
 rw[show c8 4=.int .u8 4 from rfl] at hT
 clear h
 go_enter Tryz.func130,Tryz.ntmps130
 go_wp2_with (go_at_call 128;fail)
 refine hT.mono ?_
 rintro e w1 hpost
 obtain⟨x,v,F',rfl,hv,h1,h2,h3⟩:=hpost.out
 clear hpost hT
 unfold repT at hv
 subst hv
 go_wp2
 go_ret
 exact⟨⟨x,_,F',rfl,rfl,h1,h2,h3⟩⟩
theorem number_any (w:World) (lo g b:Nat) (F:List Fd) (φ:Bool) (t:UInt8) (most:Int) (h:RdS w lo g b F φ):
  Calls Tryz.prog 81 #[.pointer (some ⟨g,0,none⟩),c8 t,.int .i64 most] w (RdPost repI (Rd.numR t most) w (own2 g b) lo g b F φ):=by
 go_enter Tryz.func81,Tryz.ntmps81
 go_wp2_with (go_at_call 80;fail)
 refine (take_any w lo g b F φ t h).mono ?_
 rintro e w1 hpost
 obtain⟨A,c,x,F',rfl,hc,hm,hx,hP,hr,hf,hq⟩:=hpost.out
 clear hpost
 have hTT:=test_take (num_eq t most F) hq
 have HFl:=hide (fail_any w1 lo g b F' _ hr)
 have hti:=Ber.toint_any w1 w1.heap.size A x.length c x (hP.has (B:=w1.heap.size) (fun k hk=>by have:=hr.lt;omega)) hc hm
 obtain⟨n,E,hnE⟩:∃n E,Ber.toInt x=(n,E):=⟨_,_,rfl⟩
 rw[hnE] at hti hTT
 simp only at hti hTT
 clear hP hq hc hm hx
 go_wp2_with (go_at_call 127;fail)
 refine hti.mono ?_
 rintro e w9 ⟨rfl,hw9⟩
 obtain rfl:=hw9
 clear hti hnE h
 by_cases ok:E=0∧0≤n∧n≤most
 ·have hyes:=hTT.2 n (by rw[if_pos ok])
  have Hyes:=hide hyes
  obtain⟨rfl,h2,h3⟩:=ok
  have z2:¬(n<0):=by omega
  have z3:¬(most<n):=by omega
  clear hTT hyes HFl
  go_wp2
  go_ret
  exact⟨⟨n,_,F',rfl,rfl,by rw[Hyes.out.1];exact hr,hf,Hyes.out.2⟩⟩
 ·have hno:=hTT.1 (by rw[if_neg ok])
  have Hno:=hide hno
  have fin:∀(w2:World),RdS w2 lo g b F' true→Fr (own2 g b) w w2→RdPost repI (Rd.numR t most) w (own2 g b) lo g b F φ (.returned (.int .i64 n)) w2:=fun w2 q1 q2=>⟨⟨n,_,F',rfl,rfl,by rw[Hno.out];exact q1,q2,fun h0 x0 F0 hh=>by have:=Hno.out;rw[h0,hh] at this;cases this⟩⟩
  have Fin:=hide fin
  clear hTT hno fin
  by_cases k1:E=0
  ·subst k1
   by_cases k2:n<0
   ·clear ok
    go_wp2_with (go_at_call 78;fail)
    refine HFl.out.mono ?_
    rintro e w2 ⟨rfl,hr2,hf2⟩
    have hfT:=hf.trans hf2
    go_wp2
    go_ret
    exact Fin.out _ hr2 hfT
   ·have k3:most<n:=by omega
    clear ok
    go_wp2_with (go_at_call 78;fail)
    refine HFl.out.mono ?_
    rintro e w2 ⟨rfl,hr2,hf2⟩
    have hfT:=hf.trans hf2
    go_wp2
    go_ret
    exact Fin.out _ hr2 hfT
  ·have z1:(E==0)=false:=beq_false_of_ne k1
   have z2:(E !=0)=true:=by unfold bne;rw[z1];rfl
   clear ok
   go_wp2_with (go_at_call 78;fail)
   refine HFl.out.mono ?_
   rintro e w2 ⟨rfl,hr2,hf2⟩
   have hfT:=hf.trans hf2
   go_wp2
   go_ret
   exact Fin.out _ hr2 hfT
theorem flag_any (w:World) (lo g b:Nat) (F:List Fd) (φ:Bool) (h:RdS w lo g b F φ):
  Calls Tryz.prog 135 #[.pointer (some ⟨g,0,none⟩)] w (RdPost repB Rd.flagR w (own2 g b) lo g b F φ):=by
 go_enter Tryz.func135,Tryz.ntmps135
 go_wp2_with (go_at_call 80;fail)
 refine (take_any w lo g b F φ 1 h).mono ?_
 rintro e w1 hpost
 obtain⟨A,c,x,F',rfl,hc,hm,hx,hP,hr,hf,hq⟩:=hpost.out
 clear hpost
 have hTT:=test_take (flag_eq F) hq
 have HFl:=hide (fail_any w1 lo g b F' _ hr)
 have hti:=Ber.tobool_any w1 w1.heap.size A x.length c x (hP.has (B:=w1.heap.size) (fun k hk=>by have:=hr.lt;omega)) hc hm
 obtain⟨n,E,hnE⟩:∃n E,Ber.toBool x=(n,E):=⟨_,_,rfl⟩
 rw[hnE] at hti hTT
 simp only at hti hTT
 clear hP hq hc hm hx
 go_wp2_with (go_at_call 162;fail)
 refine hti.mono ?_
 rintro e w9 ⟨rfl,hw9⟩
 obtain rfl:=hw9
 clear hti hnE h
 by_cases ok:E=0
 ·have hyes:=hTT.2 n (by rw[if_pos ok])
  have Hyes:=hide hyes
  subst ok
  clear hTT hyes HFl
  go_wp2
  go_ret
  exact⟨⟨n,_,F',rfl,rfl,by rw[Hyes.out.1];exact hr,hf,Hyes.out.2⟩⟩
 ·have hno:=hTT.1 (by rw[if_neg ok])
  have Hno:=hide hno
  have z1:(E==0)=false:=beq_false_of_ne ok
  have z2:(E !=0)=true:=by unfold bne;rw[z1];rfl
  clear hTT hno ok
  go_wp2_with (go_at_call 78;fail)
  refine HFl.out.mono ?_
  rintro e w2 ⟨rfl,hr2,hf2⟩
  have hfT:=hf.trans hf2
  go_wp2
  go_ret
  exact⟨⟨n,_,F',rfl,rfl,by rw[Hno.out];exact hr2,hfT,fun h0 x0 F0 hh=>by have:=Hno.out;rw[h0,hh] at this;cases this⟩⟩
end Go.Proofs.YtpkedjohgmnhhaaGreat
namespace Go.Proofs.YtpkedjohgmnhhaaGreat
open Go.RowKit
set_option linter.unusedVariables false
theorem own_formQ {w:World} {base n:Nat} {e:TypeId} {v:Value} {xs:List Value} (h:w.ownsRow base e 1 v n xs):∃A c,v=.slice A n c∧n≤c∧c≤maxLen∧HasP w (fun b=>base≤b∧b<w.heap.size) 1 A n xs:=by
 obtain⟨A,c,rfl,h1,h2⟩:=own_formP h
 obtain⟨A',c',he,_,h3,_⟩:=Ber.own_form' h
 cases he
 exact⟨A,c,rfl,h1,h3,h2⟩
namespace Rd
theorem listGo_code:∀(f:Nat) (T:List UInt8) (L:List (List UInt8)) (rem:List UInt8),(Ber.listGo f T L rem).2.2≠0→(Ber.listGo f T L rem).1=[]∧(Ber.listGo f T L rem).2.1=[]
 | 0,T,L,rem,h=>absurd rfl h
 | f+1,T,L,rem,h=>by
  rw[Ber.listGo] at h ⊢
  split
  ·rename_i hr;rw[if_pos hr] at h;exact absurd rfl h
  ·rename_i hr
   rw[if_neg hr] at h
   split
   ·exact ⟨rfl,rfl⟩
   ·rename_i hc
    rw[if_neg hc] at h
    exact listGo_code f _ _ _ h
theorem listGo_len:∀(f:Nat) (T:List UInt8) (L:List (List UInt8)) (rem:List UInt8),T.length=L.length→(Ber.listGo f T L rem).1.length=(Ber.listGo f T L rem).2.1.length∧(Ber.listGo f T L rem).1.length≤T.length+rem.length∧∀x∈(Ber.listGo f T L rem).2.1,x∈L∨x.length≤rem.length
 | 0,T,L,rem,h=>⟨h,by simp[Ber.listGo],fun x hx=>.inl hx⟩
 | f+1,T,L,rem,h=>by
  rw[Ber.listGo]
  split
  ·exact ⟨h,by simp,fun x hx=>.inl hx⟩
  ·rename_i hr
   have h1:=(Ber.takeOf_less rem hr).1
   have h2:=Ber.takeOf_le rem
   split
   ·exact ⟨rfl,by simp,fun x hx=>by cases hx⟩
   ·obtain ⟨q1,q2,q3⟩:=listGo_len f (T++[UInt8.ofNat (Ber.takeOf rem).1]) (L++[(Ber.takeOf rem).2.1]) (Ber.takeOf rem).2.2.1 (by simp[h])
    refine⟨q1,by simp at q2;omega,fun x hx=>?_⟩
    rcases q3 x hx with h3 | h3
    ·rcases List.mem_append.1 h3 with h4 | h4
     ·exact .inl h4
     ·simp only[List.mem_singleton] at h4
      subst h4
      right
      omega
    ·right;omega
end Rd
theorem rd_of_kept {w1:World} {tv cv:Value} {T:List UInt8} {xs:List Value} {L:List (List UInt8)} {lo b:Nat} {φ:Bool} (hk:Ber.Kept w1 lo tv cv T xs L) (hl:T.length=L.length) (hn:T.length≤16384) (hs:∀x∈L,x.length≤16384)
  (hlo:lo≤w1.heap.size) (hb:b<lo) (hfc:w1.cell? ⟨b,0,none⟩=some (.bool φ)) (hfz:∀i,w1.frozen? ⟨b,i,none⟩=false):
  RdS (w1.alloc (.cells #[tv,cv,.pointer (some ⟨b,0,none⟩)] 124)) lo w1.heap.size b (T.zip L) φ:=by
 have hz:(T.zip L).length=T.length:=by rw[List.length_zip,hl];omega
 obtain⟨A,c,rfl,h1,h2,h3⟩:=own_formQ hk.tags
 obtain⟨A',c',rfl,h4,h5,h6⟩:=own_formQ hk.outer
 have hf:Fr (fun _=>False) w1 (w1.alloc (.cells #[.slice A T.length c,.slice A' L.length c',.pointer (some ⟨b,0,none⟩)] 124)):=Fr.alloc _ _ _
 have key:∀k,(lo≤k∧k<w1.heap.size)→k<w1.heap.size∧¬False∧(lo≤k∧k<w1.heap.size):=fun k hk=>⟨hk.2,id,hk⟩
 have hbl:b<w1.heap.size:=by omega
 refine⟨by simp,hlo,hb,⟨A,c,A',c',xs,?_,?_,by rw[hz];exact⟨h1,h2,by omega,h5⟩,?_,?_,fun i f hi=>?_⟩,?_,fun i=>World.frozen?_alloc_at _ _ _ _ rfl,(hf.cell (p:=⟨b,0,none⟩) hbl id).trans hfc,fun i=>(hf.frozen (p:=⟨b,i,none⟩) hbl id).trans (hfz i),by omega,fun f hf=>?_⟩
 ·rw [World.cell?_alloc_at (hn:=by simp),hz];rfl
 ·rw [World.cell?_alloc_at (hn:=by simp),hz,hl];rfl
 ·rw [hz,List.map_fst_zip (by omega)]
  exact h3.fr hf key
 ·exact (show ∀k,k=L.length→HasP _ _ 1 A' k xs from fun k hk=>by rw[hk];exact h6.fr hf key) _ (hz.trans hl)
 ·obtain ⟨hi',he⟩:=List.getElem?_eq_some_iff.1 hi
  rw[List.getElem_zip] at he
  subst he
  have hiL:i<L.length:=by rw[hz] at hi';omega
  obtain⟨B,d,e1,hH,_,_,hnew⟩:=hk.els i L[i] (List.getElem?_eq_getElem hiL)
  refine⟨B,d,e1,hnew.2.1,hnew.2.2,?_⟩
  have hHP:HasP w1 (fun k=>lo≤k∧k<w1.heap.size) 1 B L[i].length (bys L[i]):=by
   refine⟨hH.1,?_⟩
   rcases hH.2 with h0 | ⟨ad,rfl,hb',hc'⟩
   ·exact .inl h0
   ·rcases hnew.1 with hn0 | hn1
    ·rw [hn0];exact .inl rfl
    ·exact .inr ⟨ad,rfl,⟨hn1 _ rfl,hb'⟩,hc'⟩
  exact hHP.fr hf key
 ·rw [World.cell?_alloc_at (hn:=by simp)];rfl
 ·exact hs _ (List.of_mem_zip (a:=f.1) (b:=f.2) hf).2
end Go.Proofs.YtpkedjohgmnhhaaGreat
namespace Go.Proofs.YtpkedjohgmnhhaaGreat
open Go.RowKit
set_option linter.unusedVariables false
structure InPost {α:Type} (St:α→World→Prop) (p:Rdr α) (w:World) (X:Nat→Prop) (lo g b:Nat) (F:List Fd) (φ:Bool) (e:Ending) (w':World):Prop where
 out:∃x F',e=.returned (.tuple #[])∧St x w'∧RdS w' lo g b F' (φ||(p F).isNone)∧Fr X w w'∧(φ=false→∀x0 F0,p F=some (x0,F0)→x=x0∧F'=F0)
def own3 (C:Nat→Prop) (g b:Nat):Nat→Prop:=fun k=>k=g∨k=b∨C k
structure FdPost {α:Type} (St:α→World→Prop) (p:Rdr α) (l:List UInt8) (w:World) (X:Nat→Prop) (b:Nat) (φ:Bool) (e:Ending) (w':World):Prop where
 out:∃x,e=.returned (.tuple #[])∧St x w'∧w'.cell? ⟨b,0,none⟩=some (.bool (φ||(Rd.wholeR l p).isNone))∧(∀i,w'.frozen? ⟨b,i,none⟩=false)∧Fr X w w'∧(φ=false→∀x0,Rd.wholeR l p=some x0→x=x0)
def ClosedBy {α:Type} (St:α→World→Prop) (C:Nat→Prop) (p:Rdr α) (w:World) (b:Nat) (gk:Nat) (lb:Array Value):Prop:=
 ∀(W:World) (lo g:Nat) (F:List Fd) (φ:Bool),Fr (fun k=>k=b) w W→w.heap.size≤lo→RdS W lo g b F φ→Calls Tryz.prog gk (#[.pointer (some ⟨g,0,none⟩)]++lb) W (InPost St p W (own3 C g b) lo g b F φ)
theorem whole_of {α:Type} {p:Rdr α} {l:List UInt8} {G:List Fd} (h:Rd.fieldsOf l=some G):Rd.wholeR l p=match p G with | some (x,[])=>some x | _=>none:=by
 unfold Rd.wholeR
 simp only[h]
 cases p G with
 | none=>rfl
 | some q=>obtain⟨x,r⟩:=q;cases r<;>rfl
theorem whole_no {α:Type} {p:Rdr α} {l:List UInt8} (h:Rd.fieldsOf l=none):Rd.wholeR l p=none:=by
 unfold Rd.wholeR;simp only[h]
theorem fields_any {α:Type} (St:α→World→Prop) (C:Nat→Prop) (p:Rdr α) (w:World) (b:Nat) (gk:Nat) (lb:Array Value) (A:Option Addr) (c:Nat) (l:List UInt8) (φ:Bool)
  (eg:∀args w,(callFunc gk args).run Tryz.prog w=.ok (.enter gk args) w) (hcl:ClosedBy St C p w b gk lb)
  (hst:∀x W W',St x W→Fr (fun k=>k=b) W W'→St x W') (hC:∀k,C k→k<w.heap.size∧k≠b)
  (hH:Has w w.heap.size 1 A l.length (bys l)) (hc:l.length≤c) (hm:c≤maxLen) (hl:l.length≤16384)
  (hb:b<w.heap.size) (hfc:w.cell? ⟨b,0,none⟩=some (.bool φ)) (hfz:∀i,w.frozen? ⟨b,i,none⟩=false):
  Calls Tryz.prog 26 #[.slice A l.length c,.pointer (some ⟨b,0,none⟩),.func (.func gk) #[] lb] w (FdPost St p l w (fun k=>k=b∨C k) b φ):=by
 obtain⟨R,hR⟩:∃R,Ber.listGo l.length [] [] l=R:=⟨_,rfl⟩
 have hL:=Ber.list_of w A l.length c l R hH hc hm (Nat.le_refl _) (by omega) (hide hR)
 have hlen:=Rd.listGo_len l.length [] [] l rfl
 have hcode:=Rd.listGo_code l.length [] [] l
 rw[hR] at hlen hcode
 have hfo:Rd.fieldsOf l=if R.2.2=0 then some (R.1.zip R.2.1) else none:=by unfold Rd.fieldsOf;rw[hR]
 obtain⟨Tg,L,E⟩:=R
 simp only at hlen hcode hfo
 obtain⟨h1,h2,h3⟩:=hlen
 simp only[List.length_nil,Nat.zero_add] at h2
 have hs:∀x∈L,x.length≤16384:=fun x hx=>by
  rcases h3 x hx with h | h
  ·cases h
  ·omega
 have HL:=hide hL
 have Hfo:=hide hfo
 have Hcode:=hide hcode
 have Hcl:=hide hcl
 have Hst:=hide hst
 have HC:=hide hC
 have Hs:=hide hs
 have Hb:=hide hb
 have Hfc:=hide hfc
 have Hfz:=hide hfz
 have H12:=hide (And.intro h1 h2)
 have Hll:=hide hl
 clear hL hfo hcode hcl hst hC hs hb hfc hfz h1 h2 h3 hH hR hm hl
 obtain⟨m,hml⟩:∃m,l.length=m:=⟨_,rfl⟩
 rw[hml] at HL hc ⊢
 clear hc
 go_enter Tryz.func26,Tryz.ntmps26
 go_wp2_with (go_at_call 77;fail)
 refine HL.out.mono ?_
 rintro e w1 ⟨tv,cv,xs,rfl,hk,hb1⟩
 simp only at hk
 have hr:=rd_of_kept (b:=b) (φ:=φ) hk H12.out.1 (by have:=H12.out.2;have:=Hll.out;omega) Hs.out hb1.size Hb.out ((hb1.cell (p:=⟨b,0,none⟩) Hb.out).trans Hfc.out) (fun i=>(hb1.frozen (p:=⟨b,i,none⟩) Hb.out).trans (Hfz.out i))
 obtain⟨At,ct,rfl,_⟩:=own_form hk.tags
 obtain⟨Ac,cc,rfl,_⟩:=own_form hk.outer
 obtain⟨w2,hw2⟩:∃w2,w1.alloc (.cells #[.slice At Tg.length ct,.slice Ac L.length cc,.pointer (some ⟨b,0,none⟩)] 124)=w2:=⟨_,rfl⟩
 rw[hw2] at hr
 have hf2:Fr (fun _=>False) w w2:=(Fr.of hb1).trans (by rw[←hw2];exact Fr.alloc _ _ _)
 have Hw2:=hide hw2
 have Hr:=hide hr
 have Hf2:=hide hf2
 have Hb1:=hide hb1
 simp only
 clear hk hb1 hr hf2 hw2 HL hml
 obtain⟨g,hg⟩:∃g,w1.heap.size=g:=⟨_,rfl⟩
 have Hg:=hide hg
 rw[hg] at Hr
 have hlog:Hid (w.heap.size≤g):=hide (by rw[←hg];exact Hb1.out.size)
 clear hg Hb1
 by_cases he:E=0
 ·subst he
  have hF:Rd.fieldsOf l=some (Tg.zip L):=by have:=Hfo.out;rwa [if_pos rfl] at this
  have HF:=hide hF
  clear hF Hfo Hcode Hs H12 Hll Hfc Hfz
  go_upto_region 4 with fail
  rw[Hw2.out,Hg.out]
  have HFR:Fr (fun k=>k=b) w w2:=Hf2.out.mono fun _ _ h=>h.elim
  have RDW:=Hr.out
  have hcl2:=Hcl.out w2 w.heap.size g _ φ HFR (Nat.le_refl _) RDW
  try simp only[List.append_toArray,List.cons_append,List.nil_append] at hcl2
  go_wp2_with (go_at_fn gk;fail)
  refine hcl2.mono ?_
  rintro e w4 hpost
  obtain⟨x,F',rfl,hx,hr4,hf4,hq⟩:=hpost.out
  clear hpost hcl2
  have hs2:=Hf2.out.size
  have hf4':=Hf2.out.mono (Y:=own3 C g b) fun _ _ h=>h.elim
  have hT:=hf4'.trans hf4
  have hF0:Fr (fun k=>k=b∨C k) w w4:=hT.mono fun k hk h=>by rcases h with h | h | h;(have:=hlog.out;omega);exact .inl h;exact .inr h
  have hM:=more_any w4 w.heap.size g b F' _ hr4
  have hFl:=fail_b w4 w.heap.size g b F' _ hr4
  have hwh:=whole_of (p:=p) HF.out
  cases hmb:moreB F' (φ||(p (Tg.zip L)).isNone) with
  | false=>
   rw[hmb] at hM
   clear hFl
   go_wp2_with (go_at_call 79;fail)
   refine hM.mono ?_
   rintro e w5 ⟨rfl,hw5⟩
   obtain rfl:=hw5
   have hfin:(φ||(p (Tg.zip L)).isNone)=(φ||(Rd.wholeR l p).isNone)∧(φ=false→∀x0,Rd.wholeR l p=some x0→x=x0):=by
    rw[hwh]
    cases φ with
    | true=>exact⟨rfl,fun h=>by cases h⟩
    | false=>
     cases hp:p (Tg.zip L) with
     | none=>exact⟨rfl,fun _ x0 h0=>by simp at h0⟩
     | some q=>
      obtain⟨y,G⟩:=q
      obtain⟨rfl,rfl⟩:=hq rfl _ _ hp
      rw[hp] at hmb
      cases F' with
      | nil=>exact⟨rfl,fun _ x0 h0=>by simpa using h0⟩
      | cons f F'=>cases hmb
   rw[hfin.1] at hr4
   have Hr4:=hide hr4
   have Hfin:=hide hfin.2
   have Hx:=hide hx
   have HF0:=hide hF0
   clear hr4 hfin hx hF0 hM hmb hwh hq hf4 hT hf4'
   go_wp2
   go_returns
   exact⟨⟨x,rfl,Hx.out,Hr4.out.fc,Hr4.out.fzb,HF0.out,Hfin.out⟩⟩
  | true=>
   rw[hmb] at hM
   go_wp2_with (go_at_call 79;fail)
   refine hM.mono ?_
   rintro e w5 ⟨rfl,hw5⟩
   obtain rfl:=hw5
   have hfin:(φ||(Rd.wholeR l p).isNone)=true∧(φ=false→∀x0,Rd.wholeR l p=some x0→x=x0):=by
    rw[hwh]
    cases φ with
    | true=>exact⟨rfl,fun h=>by cases h⟩
    | false=>
     cases hp:p (Tg.zip L) with
     | none=>exact⟨rfl,fun _ x0 h0=>by simp at h0⟩
     | some q=>
      obtain⟨y,G⟩:=q
      obtain⟨rfl,rfl⟩:=hq rfl _ _ hp
      rw[hp] at hmb
      cases F' with
      | nil=>cases hmb
      | cons f F'=>exact⟨rfl,fun _ x0 h0=>by simp at h0⟩
   have Hfin:=hide hfin
   have Hx:=hide hx
   have HF0:=hide hF0
   have Hr4:=hide hr4
   have hszW:w.heap.size≤w5.heap.size:=hT.size
   have HszW:=hide hszW
   clear hr4 hfin hx hF0 hM hmb hwh hq hf4 hT hf4' hszW
   go_wp2_with (go_at_call 78;fail)
   refine hFl.mono ?_
   rintro e w6 ⟨rfl,hr6,hf6⟩
   clear hFl
   have hx6:=Hst.out x w5 w6 Hx.out hf6
   have hF6:Fr (fun k=>k=b∨C k) w w6:=HF0.out.trans' hf6 fun k hk h=>.inl h
   go_wp2
   go_returns
   exact⟨⟨x,rfl,hx6,by rw[Hfin.out.1];exact hr6.fc,hr6.fzb,hF6,Hfin.out.2⟩⟩
 ·have z1:(E==0)=false:=beq_false_of_ne he
  have z2:(E !=0)=true:=by unfold bne;rw[z1];rfl
  have hF:Rd.fieldsOf l=none:=by have:=Hfo.out;rwa [if_neg he] at this
  have hz:=Hcode.out he
  obtain⟨rfl,rfl⟩:=hz
  have HF:=hide hF
  clear hF Hfo Hcode Hs H12 Hll Hfc Hfz he
  go_upto_region 3 with fail
  have hw2':=Hw2.out
  simp only[List.length_nil] at hw2'
  rw[hw2',Hg.out]
  clear hw2'
  have hFl2:=fail_any w2 w.heap.size g b _ _ Hr.out
  go_wp2_with (go_at_call 78;fail)
  refine hFl2.mono ?_
  rintro e w3 ⟨rfl,hr3,hf3⟩
  clear hFl2
  have HFR:Fr (fun k=>k=b) w w3:=(Hf2.out.mono (Y:=fun k=>k=b) fun _ _ h=>h.elim).trans' hf3 fun k hk h=>by rcases h with h | h;(have:=hlog.out;omega);exact h
  have hcl2:=Hcl.out w3 w.heap.size g _ true HFR (Nat.le_refl _) hr3
  try simp only[List.append_toArray,List.cons_append,List.nil_append] at hcl2
  have hs3:=HFR.size
  clear hr3 hf3
  go_wp2_with (go_at_fn gk;fail)
  refine hcl2.mono ?_
  rintro e w4 hpost
  obtain⟨x,F',rfl,hx,hr4,hf4,hq⟩:=hpost.out
  clear hpost hcl2
  have hF0:Fr (fun k=>k=b∨C k) w w4:=(HFR.mono (Y:=fun k=>k=b∨C k) fun _ _ h=>.inl h).trans' hf4 fun k hk h=>by rcases h with h | h | h;(have:=hlog.out;omega);exact .inl h;exact .inr h
  rw[Bool.true_or] at hr4
  have hM:=more_any w4 w.heap.size g b F' _ hr4
  have hwh:=whole_no (p:=p) HF.out
  rw[show moreB F' true=false from rfl] at hM
  go_wp2_with (go_at_call 79;fail)
  refine hM.mono ?_
  rintro e w5 ⟨rfl,hw5⟩
  obtain rfl:=hw5
  have Hx:=hide hx
  have HF0:=hide hF0
  have Hr4:=hide hr4
  have Hwh:=hide hwh
  clear hx hF0 hr4 hwh hM hq hf4 HFR
  go_wp2
  go_returns
  exact⟨⟨x,rfl,Hx.out,by rw[Hwh.out];simpa using Hr4.out.fc,Hr4.out.fzb,HF0.out,fun _ x0 h0=>by rw[Hwh.out] at h0;cases h0⟩⟩
end Go.Proofs.YtpkedjohgmnhhaaGreat
namespace Go.Proofs.YtpkedjohgmnhhaaGreat
open Go.RowKit
set_option linter.unusedVariables false
def wayC (p:Addr) (v:Value) (w W:World):Prop:=w.cell? p=some v→W.cell? p=some v
instance wayCway (p:Addr) (v:Value):Way (wayC p v):=⟨fun _=>id,fun h k x=>k (h x)⟩
theorem inner_of {α:Type} {t:UInt8} {p:Rdr α} {F F':List Fd} {x:List UInt8} (h:Rd.takeR t F=some (x,F')):Rd.innerR t p F=(Rd.wholeR x p).map fun y=>(y,F'):=by
 unfold Rd.innerR;simp only[h]
theorem inner_no {α:Type} {t:UInt8} {p:Rdr α} {F:List Fd} (h:Rd.takeR t F=none):Rd.innerR t p F=none:=by
 unfold Rd.innerR;simp only[h]
theorem RdS.refault {w w':World} {lo g b:Nat} {F:List Fd} {φ ψ:Bool} {C:Nat→Prop} (h:RdS w lo g b F φ) (hf:Fr (fun k=>k=b∨C k) w w') (hC:∀k,C k→¬(lo≤k∧k≤g)) (hfc:w'.cell? ⟨b,0,none⟩=some (.bool ψ)) (hfz:∀i,w'.frozen? ⟨b,i,none⟩=false):RdS w' lo g b F ψ:=by
 have hlog:=h.log
 have hblo:=h.blo
 have hlt:=h.lt
 have hg:¬(g=b∨C g):=fun q=>by
  rcases q with q | q
  ·omega
  ·exact hC g q ⟨h.log,Nat.le_refl _⟩
 obtain⟨A,c,A',c',xs,h1,h2,h3,h4,h5,h6⟩:=h.mem
 have key:∀k,(lo≤k∧k<g)→k<w.heap.size∧¬(k=b∨C k)∧(lo≤k∧k<g):=fun k hk=>⟨by omega,fun q=>by
  rcases q with q | q
  ·omega
  ·exact hC k q ⟨hk.1,by omega⟩,hk⟩
 refine⟨Nat.lt_of_lt_of_le h.lt hf.size,h.log,h.blo,⟨A,c,A',c',xs,(hf.cell h.lt hg).trans h1,(hf.cell h.lt hg).trans h2,h3,h4.fr hf key,h5.fr hf key,fun i f hi=>?_⟩,(hf.cell h.lt hg).trans h.c2,fun i=>(hf.frozen h.lt hg).trans (h.fz i),hfc,hfz,h.small⟩
 obtain⟨B,d,q1,q2,q3,q4⟩:=h6 i f hi
 exact⟨B,d,q1,q2,q3,q4.fr hf key⟩
theorem inner_any {α:Type} (St:α→World→Prop) (C:Nat→Prop) (p:Rdr α) (w:World) (lo g b:Nat) (F:List Fd) (φ:Bool) (t:UInt8) (gk:Nat) (lb:Array Value)
  (eg:∀args w,(callFunc gk args).run Tryz.prog w=.ok (.enter gk args) w) (h:RdS w lo g b F φ) (hcl:∀W,Fr (own2 g b) w W→ClosedBy St C p W b gk lb)
  (hst:∀x W W',St x W→Fr (fun k=>k=b) W W'→St x W') (hC:∀k,C k→k<w.heap.size∧k≠b∧¬(lo≤k∧k≤g)):
  Calls Tryz.prog 28 #[.pointer (some ⟨g,0,none⟩),c8 t,.func (.func gk) #[] lb] w (InPost St (Rd.innerR t p) w (own3 C g b) lo g b F φ):=by
 have hd:=h.fr (Fr.drew (fun _=>False) w) id id (fun _ _ _=>id)
 have hfd:Fr (own2 g b) w w.drew:=Fr.drew _ _
 have Hcl:=hide hcl
 have Hst:=hide hst
 have HC:=hide hC
 have Hd:=hide hd
 have Hsz:Hid (w.heap.size=w.drew.heap.size):=hide rfl
 clear hcl hst hC hd h
 go_enter Tryz.func28,Tryz.ntmps28
 go_wp2_with fail
 refine grow_beginZ (wayC ⟨g,2,none⟩ (.pointer (some ⟨b,0,none⟩))) [] (by kernel_rfl) ?_
 generalize w.drew=wd at *
 refine grow_takeP 0 (some 6) (v:=?vi0) rfl rfl (by kernel_rfl) (by kernel_rfl) (by kernel_rfl) (fun _ _ _ h=>h) (by rfl) (fun W=>?yi0) ?_
 case yi0=>
  go_simp<;>with_reducible rfl
 try simp only[Act.put,List.setIfInBounds_toArray,List.set_cons_zero,List.set_cons_succ]
 refine grow_takeP 1 (some 7) (v:=?vi1) rfl rfl (by kernel_rfl) (by kernel_rfl) (by kernel_rfl) (fun _ _ _ h=>h) (by rfl) (fun W=>?yi1) ?_
 case yi1=>
  go_simp<;>with_reducible rfl
 try simp only[Act.put,List.setIfInBounds_toArray,List.set_cons_zero,List.set_cons_succ]
 refine grow_takeP 3 (some 9) (v:=?vi3) rfl rfl (by kernel_rfl) (by kernel_rfl) (by kernel_rfl) (fun _ _ _ h=>h) (by rfl) (fun W=>?yi3) ?_
 case yi3=>
  go_simp<;>with_reducible rfl
 try simp only[Act.put,List.setIfInBounds_toArray,List.set_cons_zero,List.set_cons_succ]
 refine grow_takeP 4 (some 10) (v:=?vi4) rfl rfl (by kernel_rfl) (by kernel_rfl) (by kernel_rfl) (fun _ _ _ h=>h) (by rfl) (fun W=>?yi4) ?_
 case yi4=>
  go_simp<;>with_reducible rfl
 try simp only[Act.put,List.setIfInBounds_toArray,List.set_cons_zero,List.set_cons_succ]
 refine grow_takeP 5 (some 11) (v:=?vi5) rfl rfl (by kernel_rfl) (by kernel_rfl) (by kernel_rfl) (fun _ _ _ h=>h) (by rfl) (fun W=>?yi5) ?_
 case yi5=>
  go_simp<;>with_reducible rfl
 try simp only[Act.put,List.setIfInBounds_toArray,List.set_cons_zero,List.set_cons_succ]
 refine grow_takeZ 6 (some 12) (v:=?vi6) rfl rfl (by kernel_rfl) (by kernel_rfl) (by kernel_rfl) (fun _ _ _ h=>h) (by kernel_rfl) (by rfl) (fun W hW=>?yi6) ?_
 case yi6=>
  have c2W:W.cell? ⟨g,2,none⟩=some (.pointer (some ⟨b,0,none⟩)):=hW Hd.out.c2
  go_simp<;>with_reducible rfl
 try simp only[Act.put,List.setIfInBounds_toArray,List.set_cons_zero,List.set_cons_succ]
 refine grow_takeP 7 (some 13) (v:=?vi7) rfl rfl (by kernel_rfl) (by kernel_rfl) (by kernel_rfl) (fun _ _ _ h=>h) (by rfl) (fun W=>?yi7) ?_
 case yi7=>
  go_simp<;>with_reducible rfl
 try simp only[Act.put,List.setIfInBounds_toArray,List.set_cons_zero,List.set_cons_succ]
 refine grow_onlyZ 2 rfl (by kernel_rfl) (fun K hK=>?_)
 go_simp
 refine (take_any wd lo g b F φ t Hd.out).mono ?_
 rintro e w1 hpost
 obtain⟨A,c,x,F',rfl,hc,hm,hx,hP,hr,hf,hq⟩:=hpost.out
 clear hpost
 refine hK.out _ _ (fun _ _=>hr.c2) ?_
 clear hK K
 try simp only[Act.put,List.setIfInBounds_toArray,List.set_cons_zero,List.set_cons_succ]
 refine grow_onlyZ 8 rfl (by kernel_rfl) (fun K hK=>?_)
 go_simp
 have hcl1:=Hcl.out w1 (hfd.trans hf)
 have hs1:w.heap.size≤w1.heap.size:=(hfd.trans hf).size
 refine (fields_any St C p w1 b gk lb A c x (φ||(Rd.takeR t F).isNone) eg hcl1 Hst.out (fun k hk=>⟨by have:=(HC.out k hk).1;omega,(HC.out k hk).2.1⟩) (hP.has (B:=w1.heap.size) (fun k hk=>by have:=hr.lt;omega)) hc hm hx hr.back hr.fc hr.fzb).mono ?_
 rintro e w2 hpost
 obtain⟨y,rfl,hy,hfc2,hfz2,hf2,hq2⟩:=hpost.out
 clear hpost hcl1
 have hr2:=hr.refault hf2 (fun k hk=>(HC.out k hk).2.2) hfc2 hfz2
 have hF2:Fr (own3 C g b) w w2:=((hfd.trans hf).mono (Y:=own3 C g b) fun _ _ q=>by rcases q with q | q;exact .inl q;exact .inr (.inl q)).trans (hf2.mono fun _ _ q=>by rcases q with q | q;exact .inr (.inl q);exact .inr (.inr q))
 have hfin:((φ||(Rd.takeR t F).isNone)||(Rd.wholeR x p).isNone)=(φ||(Rd.innerR t p F).isNone)∧(φ=false→∀x0 F0,Rd.innerR t p F=some (x0,F0)→y=x0∧F'=F0):=by
  cases φ with
  | true=>exact⟨by simp,fun h=>by cases h⟩
  | false=>
   cases ht:Rd.takeR t F with
   | none=>rw[inner_no ht];exact⟨by simp,fun _ x0 F0 h0=>by simp at h0⟩
   | some q=>
    obtain⟨c0,r0⟩:=q
    obtain⟨rfl,rfl⟩:=hq rfl _ _ ht
    rw[ht] at hq2
    rw[inner_of ht]
    cases hw:Rd.wholeR x p with
    | none=>exact⟨by simp,fun _ x0 F0 h0=>by simp at h0⟩
    | some z=>
     obtain rfl:=hq2 rfl z hw
     exact⟨by simp,fun _ x0 F0 h0=>by simpa using h0⟩
 rw[hfin.1] at hr2
 have Hfin:=hide hfin.2
 have Hr2:=hide hr2
 have HF2:=hide hF2
 have Hy:=hide hy
 clear hfin hr2 hF2 hy hfc2 hfz2 hf2 hq2 hr hq hP hf hc hm hx
 refine hK.out _ _ (fun _ _=>Hr2.out.c2) ?_
 clear hK K
 try simp only[Act.put,List.setIfInBounds_toArray,List.set_cons_zero,List.set_cons_succ]
 refine grow_doneZ (by kernel_rfl) ?_ _
 go_wp2
 go_returns
 exact⟨⟨y,F',rfl,Hy.out,Hr2.out,HF2.out,Hfin.out⟩⟩
end Go.Proofs.YtpkedjohgmnhhaaGreat
namespace Go.Proofs.YtpkedjohgmnhhaaGreat
open Go.RowKit
set_option linter.unusedVariables false
structure Elem (α:Type) where
 size:Nat
 rep:World→(Nat→Prop)→α→List Value→Prop
 len:∀{w:World} {P:Nat→Prop} {x:α} {cs:List Value},rep w P x cs→cs.length=size
 one:∀{w:World} {P:Nat→Prop} {x:α} {cs:List Value},rep w P x cs→∀u∈cs,u.oneCell'=true
 move:∀{w w':World} {P P':Nat→Prop} {x:α} {cs:List Value},(∀p:Addr,P p.block→w'.cell? p=w.cell? p)→(∀b,P b→P' b)→rep w P x cs→rep w' P' x cs
def rowIn {α:Type} (E:Elem α) (w:World) (P:Nat→Prop):List α→List Value→Prop
 | [],xs=>xs=[]
 | p::r,xs=>E.rep w P p (xs.take E.size)∧rowIn E w P r (xs.drop E.size)
section
variable {α:Type} {E:Elem α} {w w':World} {P P':Nat→Prop}
theorem rowIn.len:∀{L:List α} {xs:List Value},rowIn E w P L xs→xs.length=L.length*E.size
 | [],xs,h=>by simp only[rowIn] at h;subst h;simp
 | p::r,xs,h=>by
  simp only[rowIn] at h
  have h1:=E.len h.1
  have h2:=rowIn.len h.2
  simp only[List.length_take,List.length_drop,List.length_cons,Nat.add_mul,Nat.one_mul] at h1 h2 ⊢
  omega
theorem rowIn.move (hc:∀p:Addr,P p.block→w'.cell? p=w.cell? p) (hP:∀b,P b→P' b):∀{L:List α} {xs:List Value},rowIn E w P L xs→rowIn E w' P' L xs
 | [],xs,h=>h
 | p::r,xs,h=>⟨E.move hc hP h.1,rowIn.move hc hP h.2⟩
theorem rowIn.snoc:∀{L:List α} {xs:List Value} {x:α} {cs:List Value},rowIn E w P L xs→E.rep w P x cs→rowIn E w P (L++[x]) (xs++cs)
 | [],xs,x,cs,h,hp=>by
  simp only[rowIn] at h
  subst h
  have:=E.len hp
  simp only[List.nil_append,rowIn]
  exact⟨by rw[List.take_of_length_le (by omega)];exact hp,List.drop_eq_nil_of_le (by omega)⟩
 | q::r,xs,x,cs,h,hp=>by
  have hl:=rowIn.len h
  simp only[List.length_cons,Nat.add_mul,Nat.one_mul] at hl
  simp only[rowIn] at h
  simp only[List.cons_append,rowIn]
  refine⟨by rw[List.take_append_of_le_length (by omega)];exact h.1,?_⟩
  rw[List.drop_append_of_le_length (by omega)]
  exact rowIn.snoc h.2 hp
end
def elT:Elem (List UInt8) where
 size:=1
 rep:=fun _ _ x cs=>cs=[.string (txt x)]
 len:=fun h=>by rw[h];rfl
 one:=fun h u hu=>by subst h;simp only[List.mem_singleton] at hu;subst hu;rfl
 move:=fun _ _ h=>h
def elC:Elem Ct where
 size:=4
 rep:=fun _ _ x cs=>cs=[.string (txt x.oid),.bool x.crit,.bool x.hasv,.string (txt x.value)]
 len:=fun h=>by rw[h];rfl
 one:=fun h u hu=>by subst h;simp only[List.mem_cons,List.not_mem_nil,or_false] at hu;rcases hu with rfl | rfl | rfl | rfl<;>rfl
 move:=fun _ _ h=>h
def elA:Elem Atr where
 size:=2
 rep:=fun w P x cs=>∃A c,cs=[.string (txt x.1),.slice A x.2.length c]∧x.2.length≤20000∧HasP w P 1 A x.2.length (strs x.2)
 len:=fun h=>by obtain⟨A,c,rfl,_⟩:=h;rfl
 one:=fun h u hu=>by obtain⟨A,c,rfl,_⟩:=h;simp only[List.mem_cons,List.not_mem_nil,or_false] at hu;rcases hu with rfl | rfl<;>rfl
 move:=fun hc hP h=>by obtain⟨A,c,e,hl,h⟩:=h;exact⟨A,c,e,hl,h.move hc hP⟩
def elH:Elem (Int × Atr) where
 size:=3
 rep:=fun w P x cs=>∃A c,cs=[.int .i64 x.1,.string (txt x.2.1),.slice A x.2.2.length c]∧x.2.2.length≤20000∧HasP w P 1 A x.2.2.length (strs x.2.2)
 len:=fun h=>by obtain⟨A,c,rfl,_⟩:=h;rfl
 one:=fun h u hu=>by obtain⟨A,c,rfl,_⟩:=h;simp only[List.mem_cons,List.not_mem_nil,or_false] at hu;rcases hu with rfl | rfl | rfl<;>rfl
 move:=fun hc hP h=>by obtain⟨A,c,e,hl,h⟩:=h;exact⟨A,c,e,hl,h.move hc hP⟩
def repE {α:Type} (E:Elem α):World→(Nat→Prop)→α→Value→Prop:=fun w P x v=>∃cs,v=.agg cs.toArray∧E.rep w P x cs
def repL {α:Type} (E:Elem α):World→(Nat→Prop)→List α→Value→Prop:=fun w P L v=>∃A c xs,v=.slice A L.length c∧L.length≤20000∧HasP w P E.size A L.length xs∧rowIn E w P L xs
def Eats {α:Type} (p:Rdr α):Prop:=∀F x G,p F=some (x,G)→G.length<F.length
theorem many_fuel {α:Type} {p:Rdr α} (he:Eats p):∀(n:Nat) (F:List Fd) (acc:List α),F.length≤n→Rd.manyGo p n F acc=Rd.manyGo p F.length F acc
 | n,[],acc,_=>by cases n<;>rfl
 | 0,f::r,acc,h=>by simp at h
 | n+1,f::r,acc,h=>by
  simp only[List.length_cons] at h ⊢
  rw[Rd.manyGo,Rd.manyGo]
  cases hp:p (f::r) with
  | none=>rfl
  | some q=>
   obtain⟨x,G⟩:=q
   have h1:=he _ _ _ hp
   simp only[List.length_cons] at h1
   simp only
   rw[many_fuel he n G _ (by omega),many_fuel he r.length G _ (by omega)]
theorem many_next {α:Type} {p:Rdr α} (he:Eats p) {F G:List Fd} {x:α} (acc:List α) (h:p F=some (x,G)) (hn:F≠[]):Rd.manyGo p F.length F acc=Rd.manyGo p G.length G (acc++[x]):=by
 cases F with
 | nil=>exact absurd rfl hn
 | cons f r=>
  have h1:=he _ _ _ h
  simp only[List.length_cons] at h1 ⊢
  rw[Rd.manyGo,h]
  simp only
  exact many_fuel he _ _ _ (by omega)
theorem many_none {α:Type} {p:Rdr α} {F:List Fd} (acc:List α) (h:p F=none) (hn:F≠[]):Rd.manyGo p F.length F acc=none:=by
 cases F with
 | nil=>exact absurd rfl hn
 | cons f r=>simp only[List.length_cons];rw[Rd.manyGo,h]
structure LstS {α:Type} (E:Elem α) (ety:TypeId) (bl lo2:Nat) (L:List α) (W:World):Prop where
 blo:bl<lo2
 lt:bl<W.heap.size
 fz:∀i,W.frozen? ⟨bl,i,none⟩=false
 row:∃v xs,W.cell? ⟨bl,0,none⟩=some v∧W.ownsRow lo2 ety E.size v L.length xs∧rowIn E W (fun k=>lo2≤k∧k<W.heap.size∧v.ownBlock≠some k) L xs
 len:L.length≤20000
theorem LstS.fr {α:Type} {E:Elem α} {ety:TypeId} {bl lo2:Nat} {L:List α} {W W':World} {X:Nat→Prop} (h:LstS E ety bl lo2 L W) (hf:Fr X W W') (hb:¬X bl) (hx:∀k,lo2≤k→¬X k):LstS E ety bl lo2 L W':=by
 obtain⟨v,xs,h1,h2,h3⟩:=h.row
 have hlt:=h.lt
 refine⟨h.blo,Nat.lt_of_lt_of_le hlt hf.size,fun i=>(hf.frozen (p:=⟨bl,i,none⟩) hlt hb).trans (h.fz i),⟨v,xs,(hf.cell (p:=⟨bl,0,none⟩) hlt hb).trans h1,?_,h3.move (fun p hp=>hf.cell hp.2.1 (hx _ hp.1)) fun k hk=>⟨hk.1,Nat.lt_of_lt_of_le hk.2.1 hf.size,hk.2.2⟩⟩,h.len⟩
 refine⟨h2.1,h2.2.imp id ?_⟩
 rintro ⟨g,cap,cur,hv,hg,hh,rest⟩
 have hglt:g<W.heap.size:=(Array.getElem?_eq_some_iff.1 hh).1
 exact⟨g,cap,cur,hv,hg,(hf.same g hglt (hx _ hg)).trans hh,rest⟩
end Go.Proofs.YtpkedjohgmnhhaaGreat
