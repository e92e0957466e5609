/- Several texts in one: BerCutLen, BerCut, BerTake, BerMath, BerHigh, BerInt, BerRefInt. By an AI agent. -/
import Derived.Test.YtpkedjohgmnhhaaGreatSeat
import Derived.Deep.QuietTactic
import Derived.BigQuiet
import Derived.Test.YtpkedjohgmnhhaaGreatWords
set_option maxRecDepth 100000
set_option maxHeartbeats 1600000
namespace Go.Proofs.YtpkedjohgmnhhaaGreat.Ber
open Go.RowKit
def un (l:List UInt8):Nat:=l.foldl (fun n c=>n*256+c.toNat) 0
def cutLen:List UInt8→Nat × Nat × Int
 | []=>(0,0,5)
 | f::r=>if f.toNat<128 then (f.toNat,1,0) else if f.toNat-128<1∨4<f.toNat-128 then (0,0,2) else
   if r.length<f.toNat-128 then (0,0,5) else (un (r.take (f.toNat-128)),1+(f.toNat-128),0)
theorem or_u64 (s y:Nat) (h0:y<256) (h1:s<72057594037927936):bits .or .u64 ((s:Int)*256) (y:Int)=((s*256+y:Nat):Int):=by
 show IntKind.u64.wrap ((BitVec.ofInt 64 ((s:Int)*256)||| BitVec.ofInt 64 (y:Int)).toNat:Int)=_
 have hz:BitVec.ofInt 64 ((s:Int)*256)&&& BitVec.ofInt 64 (y:Int)=0#64:=by
  have e1:BitVec.ofInt 64 ((s:Int)*256)=BitVec.ofInt 64 (s:Int)<<<8:=by
   rw[BitVec.ofInt_mul,BitVec.shiftLeft_eq_mul_twoPow]
   rfl
  rw[e1,BitVec.ofInt_natCast,BitVec.ofInt_natCast]
  apply BitVec.eq_of_getLsbD_eq
  intro i hi
  rw[BitVec.getLsbD_and,BitVec.getLsbD_shiftLeft]
  simp only[BitVec.getLsbD_ofNat]
  by_cases h8:i<8
  ·simp [h8]
  ·have:y.testBit i=false:=Nat.testBit_lt_two_pow (Nat.lt_of_lt_of_le (by omega:y<2 ^ 8) (Nat.pow_le_pow_right (by omega) (by omega)))
   simp[this]
 rw[←BitVec.add_eq_or_of_and_eq_zero _ _ hz,←BitVec.ofInt_add]
 simp only[IntKind.wrap,IntKind.bits,IntKind.signed,BitVec.toNat_ofInt]
 simp
 omega
theorem cutlen_nil (w:World) (A:Option Addr) (c:Nat):
  Calls Tryz.prog 150 #[.slice A 0 c] w fun e w'=>e=.returned (.tuple #[.int .u64 0,.slice none 0 0,.int .i64 5])∧w=w':=by
 go_enter Tryz.func150,Tryz.ntmps150
 go_wp2
 go_ret3
 exact⟨rfl,rfl⟩
theorem cutlen_short (w:World) (g o n c x:Nat) (h1:1≤n) (_hc:n≤c) (_hm:c≤maxLen) (hx:x<128) (c0:w.cell? ⟨g,o,none⟩=some (.int .u8 (x:Int))):
  Calls Tryz.prog 150 #[.slice (some ⟨g,o,none⟩) n c] w fun e w'=>
   e=.returned (.tuple #[.int .u64 x,.slice (if c=1 then some ⟨g,o,none⟩ else some ⟨g,o+1,none⟩) (n-1) (c-1),.int .i64 0])∧Below w.heap.size w w':=by
 unfold maxLen at _hm
 go_enter Tryz.func150,Tryz.ntmps150
 go_wp2
 go_quiet (fail)
 go_wp2
 all_goals go_ret3
 all_goals exact⟨rfl,Below.drewN (Below.refl _ _) _⟩
theorem cutlen_bad (w:World) (g o n c x:Nat) (h1:1≤n) (_hc:n≤c) (_hm:c≤maxLen) (hx:128≤x) (hx2:x=128∨132<x) (hx8:x<256) (c0:w.cell? ⟨g,o,none⟩=some (.int .u8 (x:Int))):
  Calls Tryz.prog 150 #[.slice (some ⟨g,o,none⟩) n c] w fun e w'=>e=.returned (.tuple #[.int .u64 0,.slice none 0 0,.int .i64 2])∧Below w.heap.size w w':=by
 unfold maxLen at _hm
 rcases hx2 with h | h
 ·subst h
  go_enter Tryz.func150,Tryz.ntmps150
  go_wp2
  go_quiet (fail)
  go_wp2
  all_goals go_ret3
  all_goals exact⟨rfl,Below.drewN (Below.refl _ _) _⟩
 ·go_enter Tryz.func150,Tryz.ntmps150
  go_wp2
  go_quiet (fail)
  go_wp2
  all_goals go_ret3
  all_goals exact⟨rfl,Below.drewN (Below.refl _ _) _⟩
theorem cutlen_lacks (w:World) (g o n c k:Nat) (h1:1≤n) (_hc:n≤c) (_hm:c≤maxLen) (hk1:1≤k) (hk4:k≤4) (hn:n-1<k) (c0:w.cell? ⟨g,o,none⟩=some (.int .u8 (128+k:Int))):
  Calls Tryz.prog 150 #[.slice (some ⟨g,o,none⟩) n c] w fun e w'=>e=.returned (.tuple #[.int .u64 0,.slice none 0 0,.int .i64 5])∧Below w.heap.size w w':=by
 unfold maxLen at _hm
 have h2:((n-1:Nat):Int)<(k:Int):=by omega
 go_enter Tryz.func150,Tryz.ntmps150
 go_wp2
 go_quiet (fail)
 go_wp2
 all_goals go_ret3
 all_goals exact⟨rfl,Below.drewN (Below.refl _ _) _⟩
theorem cutlen_wide (w:World) (g o n c k:Nat) (U:Nat→Nat) (v:Nat) (h1:1≤n) (_hc:n≤c) (_hm:c≤maxLen) (hk1:1≤k) (hk4:k≤4) (hn:k≤n-1) (c0:w.cell? ⟨g,o,none⟩=some (.int .u8 (128+k:Int)))
  (HU:Hid (U 0=0)) (HV:Hid (U k=v))
  (HC:Hid (∀j,j<k→∃y:Nat,y<256∧w.cell? ⟨g,o+1+j,none⟩=some (.int .u8 (y:Int))∧U (j+1)=U j*256+y∧U j<16777216)):
  Calls Tryz.prog 150 #[.slice (some ⟨g,o,none⟩) n c] w fun e w'=>
   e=.returned (.tuple #[.int .u64 v,.slice (if c-1=k then some ⟨g,o+1,none⟩ else some ⟨g,o+1+k,none⟩) (n-1-k) (c-1-k),.int .i64 0])∧Below w.heap.size w w':=by
 unfold maxLen at _hm
 have hc1:¬c=1:=by omega
 have ek:128+(k:Int)-128=(k:Int):=by omega
 have h2:(k:Int)≤((n-1:Nat):Int):=by omega
 have h3:k≤c-1:=by omega
 go_enter Tryz.func150,Tryz.ntmps150
 go_wp2
 go_quiet (fail)
 go_wp2
 go_loop [8,41] (fun a i=>∃j:Nat,j≤k∧i=.int .i64 j∧a=.int .u64 (U j)) (fun _ i=>k-(intOf i).toNat)
 case atStart=>exact⟨0,Nat.zero_le _,rfl,by rw[HU.out];rfl⟩
 case round=>
  obtain⟨j,hj,rfl,rfl⟩:=hrel
  by_cases hlt:j<k
  ·obtain ⟨y,hy,hcell,hsv,hs0⟩:=HC.out j hlt
   have HSV:=hide hsv
   clear hsv
   generalize U j=s at *
   go_wp2
   go_round
   case rel=>exact⟨j+1,by omega,by go_num,by rw[HSV.out,or_u64 s y hy (by omega)]⟩
   case measure=>simp[intOf];omega
  ·obtain rfl:j=k:=by omega
   go_wp2
   have hv:=HV.out
   subst hv
   go_quiet (fail)
   go_wp2
   all_goals go_ret3
   all_goals exact⟨rfl,Below.drewN (Below.refl _ _) _⟩
theorem un_snoc (l:List UInt8) (j:Nat) (b:UInt8) (hb:l[j]?=some b):un (l.take (j+1))=un (l.take j)*256+b.toNat:=by
 rw[show l.take (j+1)=l.take j++[b] by rw[List.take_add_one,hb];rfl]
 simp[un,List.foldl_append]
theorem un_range (l:List UInt8):∀k,l.length=k→un l<256 ^ k:=by
 suffices h:∀(l:List UInt8) (n m:Nat),n<256 ^ m→l.foldl (fun n c=>n*256+c.toNat) n<256 ^ (m+l.length) by
  intro k hk
  have:=h l 0 0 (by simp)
  rwa [Nat.zero_add,hk] at this
 intro l
 induction l with
 | nil=>intro n m h;simpa using h
 | cons c r ih=>
  intro n m h
  rw[List.foldl_cons,List.length_cons,show m+(r.length+1)=(m+1)+r.length by omega]
  apply ih
  have hc:=c.toNat_lt
  rw[Nat.pow_succ]
  omega
def cutRest (l:List UInt8):List UInt8:=if (cutLen l).2.2=0 then l.drop (cutLen l).2.1 else []
theorem cutlen_any (w:World) (B:Nat) (A:Option Addr) (n c:Nat) (l:List UInt8) (h:Has w B 1 A n (bys l)) (hB:B≤w.heap.size) (hc:n≤c) (hm:c≤maxLen):
  Calls Tryz.prog 150 #[.slice A n c] w fun e w'=>
   ∃A' c',e=.returned (.tuple #[.int .u64 ((cutLen l).1:Int),.slice A' (cutRest l).length c',.int .i64 (cutLen l).2.2])∧Has w' B 1 A' (cutRest l).length (bys (cutRest l))∧(cutRest l).length≤c'∧c'≤maxLen∧Below w.heap.size w w':=by
 have hn:l.length=n:=by simpa[bys] using h.1
 cases l with
 | nil=>
  simp only[List.length_nil] at hn
  subst hn
  refine (cutlen_nil w A c).mono ?_
  rintro e w' ⟨rfl,rfl⟩
  exact⟨none,0,rfl,Has.nil,Nat.le_refl _,Nat.zero_le _,Below.refl _ _⟩
 | cons f r=>
  obtain⟨g,o,rfl,hg,hcell⟩:=h.lies (by rw[bys_length];simp)
  have hf:=f.toNat_lt
  have c0:=hcell 0 (c8 f) rfl
  simp only[c8,Nat.add_zero] at c0
  simp only[List.length_cons] at hn
  by_cases h1:f.toNat<128
  ·have e1:cutLen (f::r)=(f.toNat,1,0):=by rw[cutLen,if_pos h1]
   have e2:cutRest (f::r)=r:=by rw[cutRest,e1];rfl
   rw[e1,e2]
   refine (cutlen_short w g o n c f.toNat (by omega) hc hm h1 c0).mono ?_
   rintro e w' ⟨rfl,hb⟩
   have hr:r.length=n-1:=by omega
   have hfr:=h.from_ (k:=1) (cap:=c) (by omega) hc
   refine⟨_,c-1,by rw[hr],?_,by omega,by omega,hb⟩
   rw[hr]
   have h2:Has w B 1 (if c=1 then some ⟨g,o,none⟩ else some ⟨g,o+1,none⟩) (n-1) (bys r):=by simpa[bys,Addr.add_lit] using hfr
   exact h2.below (hb.mono hB)
  ·by_cases h2:f.toNat-128<1∨4<f.toNat-128
   ·have e1:cutLen (f::r)=(0,0,2):=by rw[cutLen,if_neg h1,if_pos h2]
    have e2:cutRest (f::r)=[]:=by rw[cutRest,e1];rfl
    rw[e1,e2]
    refine (cutlen_bad w g o n c f.toNat (by omega) hc hm (by omega) (by omega) hf c0).mono ?_
    rintro e w' ⟨rfl,hb⟩
    exact⟨none,0,rfl,Has.nil,Nat.le_refl _,Nat.zero_le _,hb⟩
   ·obtain ⟨k,hk⟩:∃k,f.toNat=128+k:=⟨f.toNat-128,by omega⟩
    have c1:w.cell? ⟨g,o,none⟩=some (.int .u8 (128+k:Int)):=by rw[c0,hk];simp
    by_cases h3:r.length<f.toNat-128
    ·have e1:cutLen (f::r)=(0,0,5):=by rw[cutLen,if_neg h1,if_neg h2,if_pos h3]
     have e2:cutRest (f::r)=[]:=by rw[cutRest,e1];rfl
     rw[e1,e2]
     refine (cutlen_lacks w g o n c k (by omega) hc hm (by omega) (by omega) (by omega) c1).mono ?_
     rintro e w' ⟨rfl,hb⟩
     exact⟨none,0,rfl,Has.nil,Nat.le_refl _,Nat.zero_le _,hb⟩
    ·have e1:cutLen (f::r)=(un (r.take k),1+k,0):=by
      rw[cutLen,if_neg h1,if_neg h2,if_neg h3,show f.toNat-128=k by omega]
     have e2:cutRest (f::r)=r.drop k:=by
      rw[cutRest,e1,if_pos rfl,Nat.add_comm]
      rfl
     rw[e1,e2]
     refine (cutlen_wide w g o n c k (fun j=>un (r.take j)) (un (r.take k)) (by omega) hc hm (by omega) (by omega) (by omega) c1 (hide rfl) (hide rfl) (hide fun j hj=>?_)).mono ?_
     ·have hb:r[j]?=some (r[j]'(by omega)):=List.getElem?_eq_getElem (by omega)
      have hr:=un_range (r.take j) j (by rw[List.length_take];omega)
      have hp:256 ^ j≤256 ^ 3:=Nat.pow_le_pow_right (by omega) (by omega)
      refine⟨(r[j]'(by omega)).toNat,UInt8.toNat_lt _,?_,un_snoc r j _ hb,by omega⟩
      have:=hcell (j+1) (c8 (r[j]'(by omega))) (by rw[bys,List.getElem?_map,List.getElem?_cons_succ,hb];rfl)
      rwa [show o+1+j=o+(j+1) by omega]
     ·rintro e w' ⟨rfl,hb⟩
      have hlen:(r.drop k).length=n-1-k:=by rw[List.length_drop];omega
      have hfr:=h.from_ (k:=1+k) (cap:=c) (by omega) hc
      refine⟨_,c-1-k,by rw[hlen],?_,by omega,by omega,hb⟩
      rw[hlen]
      have h4:Has w B 1 (if c-1=k then some ⟨g,o+1,none⟩ else some ⟨g,o+1+k,none⟩) (n-1-k) (bys (r.drop k)):=by
       by_cases h5:c-1=k
       ·have h6:r.drop k=[]:=List.drop_eq_nil_of_le (by omega)
        rw[h6]
        exact⟨by simp[bys];omega,.inl rfl⟩
       ·rw [if_neg h5]
        rw[if_neg (by omega)] at hfr
        have e3:(bys (f::r)).drop ((1+k)*1)=bys (r.drop k):=by
         rw[Nat.mul_one,bys_drop,Nat.add_comm]
         rfl
        rw[e3] at hfr
        simpa[Addr.add_lit,Nat.add_assoc,Nat.sub_sub] using hfr
      exact h4.below (hb.mono hB)
end Go.Proofs.YtpkedjohgmnhhaaGreat.Ber
namespace Go.Proofs.YtpkedjohgmnhhaaGreat.Ber
open Go.RowKit
def takeOf:List UInt8→Nat × List UInt8 × List UInt8 × Int
 | []=>(0,[],[],5)
 | t::r=>if t.toNat % 32=31 then (0,[],[],2) else if (cutLen r).2.2≠0 then (0,[],[],(cutLen r).2.2) else
   if (cutRest r).length<(cutLen r).1 then (0,[],[],5) else (t.toNat,(cutRest r).take (cutLen r).1,(cutRest r).drop (cutLen r).1,0)
theorem and_31 (x:Nat) (h0:x<256):bits .and .u8 (x:Int) 31=((x % 32:Nat):Int):=by
 have h:∀x:Fin 256,bits .and .u8 ((x.val:Nat):Int) 31=((x.val % 32:Nat):Int):=by decide+kernel
 exact h ⟨x,h0⟩
theorem cut_nil (w:World) (A:Option Addr) (c:Nat):
  Calls Tryz.prog 124 #[.slice A 0 c] w fun e w'=>e=.returned (.tuple #[.int .u8 0,.slice none 0 0,.slice none 0 0,.int .i64 5])∧w=w':=by
 go_enter Tryz.func124,Tryz.ntmps124
 go_wp2
 exact bodyPost_ret (results4 rfl _ _ _) rfl ⟨rfl,rfl⟩
theorem cut_many (w:World) (g o n c x:Nat) (h1:1≤n) (_hc:n≤c) (_hm:c≤maxLen) (hx:(bits .and .u8 (x:Int) 31==31)=true) (c0:w.cell? ⟨g,o,none⟩=some (.int .u8 (x:Int))):
  Calls Tryz.prog 124 #[.slice (some ⟨g,o,none⟩) n c] w fun e w'=>e=.returned (.tuple #[.int .u8 0,.slice none 0 0,.slice none 0 0,.int .i64 2])∧w=w':=by
 unfold maxLen at _hm
 go_enter Tryz.func124,Tryz.ntmps124
 go_wp2
 exact bodyPost_ret (results4 rfl _ _ _) rfl ⟨rfl,rfl⟩
def CL (w:World) (B:Nat) (A:Option Addr) (n c:Nat) (L:Nat) (rest:List UInt8) (err:Int):Prop:=
 Calls Tryz.prog 150 #[.slice A n c] w fun e w'=>
   ∃A' c',e=.returned (.tuple #[.int .u64 (L:Int),.slice A' rest.length c',.int .i64 err])∧Has w' B 1 A' rest.length (bys rest)∧rest.length≤c'∧c'≤maxLen∧Below w.heap.size w w'
theorem cut_err (w:World) (B g o n c x L:Nat) (rest:List UInt8) (err:Int) (h1:1≤n) (_hc:n≤c) (_hm:c≤maxLen) (hx:(bits .and .u8 (x:Int) 31==31)=false) (c0:w.cell? ⟨g,o,none⟩=some (.int .u8 (x:Int)))
  (HL:Hid (∀(A':Option Addr) (c':Nat),(c=1→A'=some ⟨g,o,none⟩)→(¬c=1→A'=some ⟨g,o+1,none⟩)→c'=c-1→CL w B A' (n-1) c' L rest err)) (he:(err !=0)=true):
  Calls Tryz.prog 124 #[.slice (some ⟨g,o,none⟩) n c] w fun e w'=>e=.returned (.tuple #[.int .u8 0,.slice none 0 0,.slice none 0 0,.int .i64 err])∧Below w.heap.size w w':=by
 unfold maxLen at _hm
 by_cases hc1:c=1
 all_goals
  try (subst hc1;obtain rfl:n=1:=by omega)
  go_enter Tryz.func124,Tryz.ntmps124
  go_wp2_with fail
  first
   |(have hcl:=HL.out (some ⟨g,o,none⟩) 0 (fun _=>rfl) (fun h=>by simp at h) rfl
     unfold CL at hcl
     refine hcl.mono ?_)
   |(have hcl:=HL.out (some ⟨g,o+1,none⟩) (c-1) (fun h=>absurd h hc1) (fun _=>rfl) rfl
     unfold CL at hcl
     refine hcl.mono ?_)
  clear hcl
  rintro e w1 ⟨A2,c2,rfl,hH,hc2,hm2,hb⟩
  clear HL
  go_wp2
  exact bodyPost_ret (results4 rfl _ _ _) rfl ⟨rfl,hb⟩
theorem cut_lacks (w:World) (B g o n c x L:Nat) (rest:List UInt8) (err:Int) (h1:1≤n) (_hc:n≤c) (_hm:c≤maxLen) (hx:(bits .and .u8 (x:Int) 31==31)=false) (c0:w.cell? ⟨g,o,none⟩=some (.int .u8 (x:Int)))
  (HL:Hid (∀(A':Option Addr) (c':Nat),(c=1→A'=some ⟨g,o,none⟩)→(¬c=1→A'=some ⟨g,o+1,none⟩)→c'=c-1→CL w B A' (n-1) c' L rest err)) (he:err=0) (hL:rest.length<L):
  Calls Tryz.prog 124 #[.slice (some ⟨g,o,none⟩) n c] w fun e w'=>e=.returned (.tuple #[.int .u8 0,.slice none 0 0,.slice none 0 0,.int .i64 5])∧Below w.heap.size w w':=by
 subst he
 unfold maxLen at _hm
 by_cases hc1:c=1
 all_goals
  try (subst hc1;obtain rfl:n=1:=by omega)
  go_enter Tryz.func124,Tryz.ntmps124
  go_wp2_with fail
  first
   |(have hcl:=HL.out (some ⟨g,o,none⟩) 0 (fun _=>rfl) (fun h=>by simp at h) rfl
     unfold CL at hcl
     refine hcl.mono ?_)
   |(have hcl:=HL.out (some ⟨g,o+1,none⟩) (c-1) (fun h=>absurd h hc1) (fun _=>rfl) rfl
     unfold CL at hcl
     refine hcl.mono ?_)
  clear hcl
  rintro e w1 ⟨A2,c2,rfl,hH,hc2,hm2,hb⟩
  clear HL
  unfold maxLen at hm2
  go_wp2
  exact bodyPost_ret (results4 rfl _ _ _) rfl ⟨rfl,hb⟩
theorem cut_ok (w:World) (B g o n c x L:Nat) (rest:List UInt8) (err:Int) (hgw:g<w.heap.size) (h1:1≤n) (_hc:n≤c) (_hm:c≤maxLen) (hx:(bits .and .u8 (x:Int) 31==31)=false) (c0:w.cell? ⟨g,o,none⟩=some (.int .u8 (x:Int)))
  (HL:Hid (∀(A':Option Addr) (c':Nat),(c=1→A'=some ⟨g,o,none⟩)→(¬c=1→A'=some ⟨g,o+1,none⟩)→c'=c-1→CL w B A' (n-1) c' L rest err)) (he:err=0) (hL:L≤rest.length):
  Calls Tryz.prog 124 #[.slice (some ⟨g,o,none⟩) n c] w fun e w'=>∃A1 c1 A2 c2,e=.returned (.tuple #[.int .u8 (x:Int),.slice A1 L c1,.slice A2 (rest.length-L) c2,.int .i64 0])∧
   Has w' B 1 A1 L (bys (rest.take L))∧L≤c1∧c1≤maxLen∧Has w' B 1 A2 (rest.length-L) (bys (rest.drop L))∧rest.length-L≤c2∧c2≤maxLen∧Below w.heap.size w w':=by
 subst he
 unfold maxLen at _hm
 by_cases hc1:c=1
 all_goals
  try (subst hc1;obtain rfl:n=1:=by omega)
  go_enter Tryz.func124,Tryz.ntmps124
  go_wp2_with fail
  first
   |(have hcl:=HL.out (some ⟨g,o,none⟩) 0 (fun _=>rfl) (fun h=>by simp at h) rfl
     unfold CL at hcl
     refine hcl.mono ?_)
   |(have hcl:=HL.out (some ⟨g,o+1,none⟩) (c-1) (fun h=>absurd h hc1) (fun _=>rfl) rfl
     unfold CL at hcl
     refine hcl.mono ?_)
  clear hcl
  rintro e w1 ⟨A2,c2,rfl,hH,hc2,hm2,hb⟩
  clear HL
  have c1:w1.cell? ⟨g,o,none⟩=some (.int .u8 (x:Int)):=(hb.cell (p:=⟨g,o,none⟩) hgw).trans c0
  unfold maxLen at hm2
  go_wp2
  go_quiet (fail)
  go_wp2
  ·have hcL:c2=L:=by assumption
   subst hcL
   have hL2:c2=rest.length:=by omega
   refine bodyPost_ret (results4 rfl _ _ _) rfl ⟨_,_,_,_,rfl,?_,Nat.le_refl _,hm2,?_,by omega,Nat.zero_le _,Below.drewN hb _⟩
   ·have:=hH.first (k:=c2) (by omega)
    rw[Nat.mul_one,bys_take] at this
    exact this
   ·rw [List.drop_eq_nil_of_le (by omega)]
    exact⟨by simp[bys];omega,.inl rfl⟩
  ·have hcL:¬c2=L:=by assumption
   refine bodyPost_ret (results4 rfl _ _ _) rfl ⟨_,_,_,_,rfl,?_,by omega,hm2,?_,by omega,by unfold maxLen;omega,Below.drewN hb _⟩
   ·have:=hH.first (k:=L) hL
    rw[Nat.mul_one,bys_take] at this
    exact this
   ·have:=hH.from_ (k:=L) (cap:=c2) hL hc2
    rw[if_neg hcL,Nat.mul_one,bys_drop] at this
    exact this
theorem cut_any (w:World) (B:Nat) (A:Option Addr) (n c:Nat) (l:List UInt8) (h:Has w B 1 A n (bys l)) (hB:B≤w.heap.size) (hc:n≤c) (hm:c≤maxLen):
  Calls Tryz.prog 124 #[.slice A n c] w fun e w'=>∃A1 c1 A2 c2,e=.returned (.tuple #[.int .u8 ((takeOf l).1:Int),.slice A1 (takeOf l).2.1.length c1,.slice A2 (takeOf l).2.2.1.length c2,.int .i64 (takeOf l).2.2.2])∧
   Has w' B 1 A1 (takeOf l).2.1.length (bys (takeOf l).2.1)∧(takeOf l).2.1.length≤c1∧c1≤maxLen∧Has w' B 1 A2 (takeOf l).2.2.1.length (bys (takeOf l).2.2.1)∧(takeOf l).2.2.1.length≤c2∧c2≤maxLen∧Below w.heap.size w w':=by
 have hn:l.length=n:=by simpa[bys] using h.1
 have fail_:∀(err:Int) (w':World),takeOf l=(0,[],[],err)→Below w.heap.size w w'→∃A1 c1 A2 c2,Ending.returned (.tuple #[.int .u8 0,.slice none 0 0,.slice none 0 0,.int .i64 err])=
   Ending.returned (.tuple #[.int .u8 ((takeOf l).1:Int),.slice A1 (takeOf l).2.1.length c1,.slice A2 (takeOf l).2.2.1.length c2,.int .i64 (takeOf l).2.2.2])∧
   Has w' B 1 A1 (takeOf l).2.1.length (bys (takeOf l).2.1)∧(takeOf l).2.1.length≤c1∧c1≤maxLen∧Has w' B 1 A2 (takeOf l).2.2.1.length (bys (takeOf l).2.2.1)∧(takeOf l).2.2.1.length≤c2∧c2≤maxLen∧Below w.heap.size w w':=by
  intro err w' ht hb
  rw[ht]
  exact⟨none,0,none,0,rfl,Has.nil,Nat.le_refl _,Nat.zero_le _,Has.nil,Nat.le_refl _,Nat.zero_le _,hb⟩
 cases l with
 | nil=>
  simp only[List.length_nil] at hn
  subst hn
  refine (cut_nil w A c).mono ?_
  rintro e w' ⟨rfl,rfl⟩
  exact fail_ 5 _ rfl (Below.refl _ _)
 | cons t r=>
  obtain⟨g,o,rfl,hg,hcell⟩:=h.lies (by rw[bys_length];simp)
  have ht:=t.toNat_lt
  have c0:=hcell 0 (c8 t) rfl
  simp only[c8,Nat.add_zero] at c0
  simp only[List.length_cons] at hn
  have ha:=and_31 t.toNat ht
  by_cases h1:t.toNat % 32=31
  ·refine (cut_many w g o n c t.toNat (by omega) hc hm (by rw[ha,h1];rfl) c0).mono ?_
   rintro e w' ⟨rfl,rfl⟩
   exact fail_ 2 _ (by rw[takeOf,if_pos h1]) (Below.refl _ _)
  ·have hx:(bits .and .u8 (t.toNat:Int) 31==31)=false:=by
    rw[ha,beq_eq_false_iff_ne]
    omega
   have HL:Hid (∀(A':Option Addr) (c':Nat),(c=1→A'=some ⟨g,o,none⟩)→(¬c=1→A'=some ⟨g,o+1,none⟩)→c'=c-1→CL w B A' (n-1) c' (cutLen r).1 (cutRest r) (cutLen r).2.2):=by
    refine hide fun A' c' e1 e2 e3=>?_
    subst e3
    have hfr:=h.from_ (k:=1) (cap:=c) (by omega) hc
    have hA:Has w B 1 A' (n-1) (bys r):=by
     by_cases hc1:c=1
     ·rw [e1 hc1]
      rw[if_pos hc1] at hfr
      simpa[bys] using hfr
     ·rw [e2 hc1]
      rw[if_neg hc1] at hfr
      simpa[bys,Addr.add_lit] using hfr
    exact cutlen_any w B A' (n-1) (c-1) r hA hB (by omega) (by omega)
   by_cases h2:(cutLen r).2.2=0
   ·by_cases h3:(cutRest r).length<(cutLen r).1
    ·refine (cut_lacks w B g o n c t.toNat _ _ _ (by omega) hc hm hx c0 HL h2 h3).mono ?_
     rintro e w' ⟨rfl,hb⟩
     exact fail_ 5 _ (by rw[takeOf,if_neg h1,if_neg (by simpa using h2),if_pos h3]) hb
    ·have e1:takeOf (t::r)=(t.toNat,(cutRest r).take (cutLen r).1,(cutRest r).drop (cutLen r).1,0):=by
      rw[takeOf,if_neg h1,if_neg (by simpa using h2),if_neg h3]
     rw[e1]
     refine (cut_ok w B g o n c t.toNat _ _ _ (by omega) (by omega) hc hm hx c0 HL h2 (by omega)).mono ?_
     rintro e w' ⟨A1,c1,A2,c2,rfl,q1,q2,q3,q4,q5,q6,q7⟩
     have l1:((cutRest r).take (cutLen r).1).length=(cutLen r).1:=by rw[List.length_take];omega
     have l2:((cutRest r).drop (cutLen r).1).length=(cutRest r).length-(cutLen r).1:=List.length_drop
     simp only[l1,l2]
     exact⟨A1,c1,A2,c2,rfl,q1,q2,q3,q4,q5,q6,q7⟩
   ·refine (cut_err w B g o n c t.toNat _ _ _ (by omega) hc hm hx c0 HL (by rw[bne_iff_ne];exact h2)).mono ?_
    rintro e w' ⟨rfl,hb⟩
    exact fail_ _ _ (by rw[takeOf,if_neg h1,if_pos h2]) hb
end Go.Proofs.YtpkedjohgmnhhaaGreat.Ber
namespace Go.Proofs.YtpkedjohgmnhhaaGreat.Ber
open Go.RowKit
theorem clone_any (w:World) (B:Nat) (A:Option Addr) (n c:Nat) (l:List UInt8) (h:Has w B 1 A n (bys l)) (hB:B≤w.heap.size) (hn:n≤140737488351232):
  Calls Tryz.prog 125 #[.slice A n c] w fun e w'=>∃v,e=.returned v∧w'.ownsRow w.heap.size 5 1 v l.length (bys l)∧Below w.heap.size w w':=by
 have hl:l.length=n:=by simpa[bys] using h.1
 cases A with
 | none=>
  have h0:l=[]:=by
   rcases h.2 with h0 | ⟨ad,h0,_⟩
   ·simpa [bys] using h0
   ·cases h0
  subst h0
  simp only[List.length_nil] at hl
  subst hl
  have hs:=World.ownsRow_nil w w.heap.size 5 1
  have hnil:=nil8 w none 0 c
  clear h
  go_enter Tryz.func125,Tryz.ntmps125
  go_wp2
  go_ret
  exact⟨_,rfl,hs,Below.refl _ _⟩
 | some ad=>
  subst hl
  have hb0:Below w.heap.size w (w.alloc (.cells #[] 5)):=(Below.refl _ _).alloc (Nat.le_refl _) _
  have ho:=none8 w
  have hs:=hb0.size
  have hH:=h.below (hb0.mono hB)
  have hnil:=nil8 w (some ad) l.length c
  clear h
  go_enter Tryz.func125,Tryz.ntmps125
  go_wp2_with (at_builtin;go_must (refine app8 _ rfl (.tmp 5) (.tmp 6) rfl w.heap.size _ 0 [] rfl ho _ _ l.length c l rfl hH (by omega) hs ?_))
  intro v1 w1 hown1 hb1 _
  have hb2:=hb0.trans hb1
  clear ho hH hb0 hb1 hnil
  go_wp2
  go_ret
  exact⟨_,rfl,by simpa using hown1,hb2⟩
theorem cutLen_err (l:List UInt8):(cutLen l).2.2=0∨(cutLen l).2.2=2∨(cutLen l).2.2=5:=by
 cases l with
 | nil=>simp[cutLen]
 | cons f r=>
  rw[cutLen]
  split
  ·simp
  ·split
   ·simp
   ·split<;>simp
theorem takeOf_err (l:List UInt8):(takeOf l).2.2.2=0∨(((takeOf l).2.2.2 !=0)=true∧((takeOf l).1:Int)=0∧(takeOf l).2.1=[]∧(takeOf l).2.2.1=[]):=by
 cases l with
 | nil=>simp[takeOf]
 | cons t r=>
  rw[takeOf]
  split
  ·simp
  ·split
   ·simp_all
   ·split<;>simp
theorem cutRest_le (l:List UInt8):(cutRest l).length≤l.length:=by
 unfold cutRest
 split
 ·rw [List.length_drop];omega
 ·simp
theorem takeOf_le (l:List UInt8):(takeOf l).2.1.length≤l.length∧(takeOf l).2.2.1.length≤l.length:=by
 cases l with
 | nil=>simp[takeOf]
 | cons t r=>
  have:=cutRest_le r
  rw[takeOf,List.length_cons]
  split
  ·simp
  ·split
   ·simp
   ·split
    ·simp
    ·simp only[List.length_take,List.length_drop]
     omega
end Go.Proofs.YtpkedjohgmnhhaaGreat.Ber
namespace Go.Proofs.YtpkedjohgmnhhaaGreat.Ber
open Go.RowKit
def be (k N:Nat):List UInt8:=(List.range k).map fun i=>UInt8.ofNat (N/2 ^ (8*(k-1-i)))
theorem be_length (k N:Nat):(be k N).length=k:=by simp[be]
theorem be_get (k N i:Nat) (h:i<k):(be k N)[i]?=some (UInt8.ofNat (N/2 ^ (8*(k-1-i)))):=by
 simp[be,List.getElem?_range h]
def wide (n:Nat):Nat:=if n<256 then 1 else if n<65536 then 2 else if n<16777216 then 3 else 4
def lenOf (n:Int):List UInt8:=
 if n<0∨2147483647<n then [] else if n<128 then [UInt8.ofNat n.toNat] else UInt8.ofNat (128+wide n.toNat)::be (wide n.toNat) n.toNat
theorem wide_le (n:Nat):1≤wide n∧wide n≤4:=by unfold wide;split<;>(try split)<;>(try split)<;>omega
theorem wide_more (n k:Nat) (hn:n<2147483648) (h1:1≤k) (hk:k<wide n):n/2 ^ (8*k)≠0:=by
 intro h
 rw[Nat.div_eq_zero_iff] at h
 have hp:0<2 ^ (8*k):=Nat.two_pow_pos _
 have hlt:n<2 ^ (8*k):=by omega
 have hw:=wide_le n
 have hc:k=1∨k=2∨k=3:=by omega
 unfold wide at hk
 rcases hc with rfl | rfl | rfl<;>simp at hlt<;>split at hk<;>(try split at hk)<;>(try split at hk)<;>omega
theorem wide_done (n:Nat) (hn:n<2147483648):n/2 ^ (8*wide n)=0:=by
 rw[Nat.div_eq_zero_iff]
 right
 unfold wide
 split
 ·omega
 ·split
  ·omega
  ·split<;>omega
def isize (n:Int):Nat:=
 if -128≤n∧n<128 then 1 else if -32768≤n∧n<32768 then 2 else if -8388608≤n∧n<8388608 then 3 else
 if -2147483648≤n∧n<2147483648 then 4 else if -549755813888≤n∧n<549755813888 then 5 else
 if -140737488355328≤n∧n<140737488355328 then 6 else if -36028797018963968≤n∧n<36028797018963968 then 7 else 8
def intOfs (n:Int):List UInt8:=be (isize n) (IntKind.u64.wrap n).toNat
theorem isize_le (n:Int):1≤isize n∧isize n≤8:=by
 unfold isize
 repeat' split
 all_goals omega
theorem isize_more (n:Int) (k:Nat) (h0: -9223372036854775808≤n) (h1:n≤9223372036854775807) (hk1:1≤k) (hk:k<isize n):n/2 ^ (8*k-1)≠n/9223372036854775808:=by
 have hle:=isize_le n
 have hc:k=1∨k=2∨k=3∨k=4∨k=5∨k=6∨k=7:=by omega
 unfold isize at hk
 rcases hc with rfl | rfl | rfl | rfl | rfl | rfl | rfl<;>simp only[Nat.reduceMul,Nat.reduceSub,Int.reducePow]<;>
  (repeat' (split at hk))<;>omega
theorem isize_done (n:Int) (h0: -9223372036854775808≤n) (h1:n≤9223372036854775807):n/2 ^ (8*isize n-1)=n/9223372036854775808:=by
 unfold isize
 repeat' split
 all_goals simp only[Nat.reduceMul,Nat.reduceSub,Int.reducePow]<;>omega
theorem isize_low (n:Int) (k:Nat) (hk1:1≤k) (hk:k<isize n):n/2 ^ (8*k-1)≠0∧n/2 ^ (8*k-1)≠ -1:=by
 have hle:=isize_le n
 have hc:k=1∨k=2∨k=3∨k=4∨k=5∨k=6∨k=7:=by omega
 unfold isize at hk
 rcases hc with rfl | rfl | rfl | rfl | rfl | rfl | rfl<;>simp only[Nat.reduceMul,Nat.reduceSub,Int.reducePow]<;>
  (repeat' (split at hk))<;>omega
theorem isize_end (n:Int) (h:isize n<8):n/2 ^ (8*isize n-1)=0∨n/2 ^ (8*isize n-1)= -1:=by
 unfold isize at h ⊢
 repeat' split
 all_goals simp only[Nat.reduceMul,Nat.reduceSub,Int.reducePow]<;>simp_all<;>omega
theorem filled (l:List UInt8) (n k:Nat) (b:UInt8) (z:Value) (hl:l.length=n) (hk:k<n) (hb:l[k]?=some b):
  (bys (l.take k)++List.replicate (n-k) z).set k (c8 b)=bys (l.take (k+1))++List.replicate (n-(k+1)) z:=by
 have h1:(bys (l.take k)).length=k:=by simp[bys];omega
 rw[List.set_append_right _ _ (by omega),h1,Nat.sub_self,show n-k=(n-(k+1))+1 by omega,List.replicate_succ,List.set_cons_zero]
 rw[show l.take (k+1)=l.take k++[b] by rw[List.take_add_one,hb];rfl]
 simp[bys]
theorem filled_at (l:List UInt8) (n k:Nat) (z:Value) (hl:l.length=n) (hk:k<n):
  (bys (l.take k)++List.replicate (n-k) z)[k]?=some z:=by
 have h1:(bys (l.take k)).length=k:=by simp[bys];omega
 rw[List.getElem?_append_right (by omega),h1,Nat.sub_self]
 simp[show 0<n-k by omega]
end Go.Proofs.YtpkedjohgmnhhaaGreat.Ber
namespace Go.Proofs.YtpkedjohgmnhhaaGreat.Ber
open Go.RowKit
theorem high_any (N n:Nat) (w:World) (h1:1≤n) (h8:n≤8):
  Calls Tryz.prog 143 #[.int .u64 N,.int .i64 n] w fun e w'=>
   ∃g,e=.returned (.slice (some ⟨g,0,none⟩) n n)∧w'.ownsRow w.heap.size 5 1 (.slice (some ⟨g,0,none⟩) n n) n (bys (be n N))∧Below w.heap.size w w':=by
 obtain⟨i0,hi,hz0,hz1,hz2⟩:=info_parts info8
 go_enter Tryz.func143,Tryz.ntmps143
 go_wp2_with (at_make;refine wpList_make_full _ rfl _ _ 33 rfl w.heap.size 5 i0 _ 1 Tryz.underlying33 hi hz0 hz1 .i64 .i64 _ _ n rfl rfl rfl rfl ?b1 ?b2 (Nat.le_refl _) ?_)
 case b1=>rw[hz2];omega
 case b2=>unfold maxLen;omega
 intro w1 hown hg
 have hb1:Below w.heap.size w w1:=(Below.refl _ _).grown hg (Nat.le_refl _) (by simp)
 rw[toList_madeCells_one] at hown
 clear hg
 go_wp2
 go_loopw [11] (fun i wr=>∃k:Nat,k≤n∧i=.int .i64 k∧wr.ownsRow w.heap.size 5 1 (.slice (some ⟨w.heap.size,0,none⟩) n n) n (bys ((be n N).take k)++List.replicate (n-k) (.int .u8 0))∧Below w.heap.size w wr)
  (fun i _=>n-(intOf i).toNat)
 case atStart=>exact⟨0,Nat.zero_le _,rfl,by simpa[bys] using hown,hb1⟩
 case round=>
  obtain⟨k,hk,rfl,hor,hbr⟩:=hrel
  clear hown
  by_cases hlt:k<n
  ·have hc:=hor.cellAt k (by omega)
   rw[filled_at _ _ _ _ (be_length n N) hlt] at hc
   have hf:=hor.frozenAt k
   have hnew:=hor.stored k (c8 (UInt8.ofNat (N/2 ^ (8*(n-1-k)))))
   rw[filled _ _ _ _ _ (be_length n N) hlt (be_get n N k hlt),c8_shr] at hnew
   have hbn:=hbr.setCell (p:=⟨w.heap.size,k,none⟩) (Nat.le_refl _) (.int .u8 ((N:Int)/2 ^ (8*(n-1-k)) % 256))
   have H1:=hide hnew.1
   have H2:=hide hbn
   clear hnew hbn hor hbr
   go_wp2
   go_roundw
   case rel=>exact⟨k+1,by omega,by go_num,H1.out,H2.out⟩
   case measure=>simp[intOf];omega
  ·have hkn:k=n:=by omega
   subst hkn
   go_wp2
   go_ret
   refine⟨_,rfl,?_,hbr⟩
   rw[List.take_of_length_le (by rw[be_length];exact Nat.le_refl _)] at hor
   simpa using hor
theorem high_int (x:Int) (n:Nat) (w:World) (h1:1≤n) (h8:n≤8) (hx:0≤x):
  Calls Tryz.prog 143 #[.int .u64 x,.int .i64 n] w fun e w'=>
   ∃g,e=.returned (.slice (some ⟨g,0,none⟩) n n)∧w'.ownsRow w.heap.size 5 1 (.slice (some ⟨g,0,none⟩) n n) n (bys (be n x.toNat))∧Below w.heap.size w w':=by
 obtain⟨N,rfl⟩:=Int.eq_ofNat_of_zero_le hx
 rw[Int.toNat_natCast]
 exact high_any N n w h1 h8
end Go.Proofs.YtpkedjohgmnhhaaGreat.Ber
namespace Go.Proofs.YtpkedjohgmnhhaaGreat.Ber
open Go.RowKit
theorem u64_nonneg (n:Int):0≤IntKind.u64.wrap n:=by simp[IntKind.wrap,IntKind.bits,IntKind.signed];omega
theorem int_of (n:Int) (W:Nat) (w:World) (hw1:1≤W) (hw8:W≤8)
  (Hm:Hid (∀k:Nat,1≤k→k<W→(n/2 ^ (8*k-1)!=n/9223372036854775808)=true)) (Hd:Hid ((n/2 ^ (8*W-1)!=n/9223372036854775808)=false)):
  Calls Tryz.prog 99 #[.int .i64 n] w fun e w'=>
   ∃g,e=.returned (.slice (some ⟨g,0,none⟩) W W)∧w'.ownsRow w.heap.size 5 1 (.slice (some ⟨g,0,none⟩) W W) W (bys (be W (IntKind.u64.wrap n).toNat))∧Below w.heap.size w w':=by
 go_enter Tryz.func99,Tryz.ntmps99
 go_wp2
 go_loop [3] (fun s=>∃k:Nat,1≤k∧k≤W∧s=.int .i64 k) (fun s=>W-(intOf s).toNat)
 case atStart=>exact⟨1,Nat.le_refl _,hw1,rfl⟩
 case round=>
  obtain⟨k,hk1,hk,rfl⟩:=hrel
  go_wp2_with fail
  ·have hn:(n/2 ^ (8*k-1)!=n/9223372036854775808)=true:=by assumption
   have hlt:k<W:=by
    rcases Nat.lt_or_ge k W with h | h
    ·exact h
    ·obtain rfl:k=W:=by omega
     rw[Hd.out] at hn
     cases hn
   go_round
   case rel=>exact⟨k+1,by omega,by omega,by go_num⟩
   case measure=>simp[intOf];omega
  ·have hn:(n/2 ^ (8*k-1)!=n/9223372036854775808)=false:=by assumption
   obtain rfl:k=W:=by
    rcases Nat.lt_or_ge k W with h | h
    ·rw [Hm.out k hk1 h] at hn
     cases hn
    ·omega
   clear Hm Hd
   refine (high_int _ k _ hw1 hw8 (u64_nonneg n)).mono ?_
   rintro e w2 ⟨g,rfl,hown2,hb2⟩
   go_wp2
   go_ret
   exact⟨g,rfl,hown2,hb2⟩
theorem int_any (n:Int) (w:World) (h0: -9223372036854775808≤n) (h1:n≤9223372036854775807):
  Calls Tryz.prog 99 #[.int .i64 n] w fun e w'=>
   ∃g,e=.returned (.slice (some ⟨g,0,none⟩) (intOfs n).length (intOfs n).length)∧w'.ownsRow w.heap.size 5 1 (.slice (some ⟨g,0,none⟩) (intOfs n).length (intOfs n).length) (intOfs n).length (bys (intOfs n))∧Below w.heap.size w w':=by
 have hi:=isize_le n
 have:=int_of n (isize n) w hi.1 hi.2 (hide fun k hk1 hk=>bne_iff_ne.2 (isize_more n k h0 h1 hk1 hk)) (hide (bne_eq_false_iff_eq.2 (isize_done n h0 h1)))
 rw[show (intOfs n).length=isize n from be_length _ _]
 exact this
end Go.Proofs.YtpkedjohgmnhhaaGreat.Ber
namespace Go.Proofs.YtpkedjohgmnhhaaGreat.Ber
open Go.RowKit
theorem c8_int (n:Int) (t:Nat) (ht:t≤7):
  c8 (UInt8.ofNat ((IntKind.u64.wrap n).toNat/2 ^ (8*t)))=.int .u8 (n/2 ^ (8*t) % 256):=by
 rw[c8_ofNat]
 congr 1
 have hw:IntKind.u64.wrap n=n % 18446744073709551616:=by simp[IntKind.wrap,IntKind.bits,IntKind.signed]
 have hnn:=u64_nonneg n
 rw[Int.natCast_ediv,Int.toNat_of_nonneg hnn,hw]
 have hc:t=0∨t=1∨t=2∨t=3∨t=4∨t=5∨t=6∨t=7:=by omega
 rcases hc with rfl | rfl | rfl | rfl | rfl | rfl | rfl | rfl<;>simp only[Nat.reduceMul,Nat.reducePow,Int.reducePow]<;>omega
theorem be_snoc (l:List UInt8) (j:Nat) (b:UInt8) (hb:l[j]?=some b):bys (l.take j++[b])=bys (l.take (j+1)):=by
 rw[show l.take (j+1)=l.take j++[b] by rw[List.take_add_one,hb];rfl]
theorem rint_of (n:Int) (W:Nat) (w:World) (hw1:1≤W) (hw8:W≤8)
  (Hm:Hid (∀k:Nat,1≤k→k<W→n/2 ^ (8*k-1)≠0∧n/2 ^ (8*k-1)≠ -1)) (Hd:Hid (W<8→n/2 ^ (8*W-1)=0∨n/2 ^ (8*W-1)= -1)):
  Calls Tryz.prog 117 #[.int .i64 n] w fun e w'=>
   ∃v,e=.returned v∧w'.ownsRow w.heap.size 5 1 v W (bys (be W (IntKind.u64.wrap n).toNat))∧Below w.heap.size w w':=by
 go_enter Tryz.func117,Tryz.ntmps117
 go_wp2
 go_loop [3] (fun s=>∃k:Nat,1≤k∧k≤W∧s=.int .i64 k) (fun s=>W-(intOf s).toNat)
 case atStart=>exact⟨1,Nat.le_refl _,hw1,rfl⟩
 case round=>
  obtain⟨k,hk1,hk,rfl⟩:=hrel
  go_wp2_with fail
  case roundEnd=>
   have hn:(n/2 ^ (8*k-1)!=0)=true∧(n/2 ^ (8*k-1)!= -1)=true:=by assumption
   have hlt:k<W:=by
    rcases Nat.lt_or_ge k W with h | h
    ·exact h
    ·obtain rfl:k=W:=by omega
     rcases Hd.out (by omega) with e | e<;>simp[e] at hn
   go_round
   case rel=>exact⟨k+1,by omega,by omega,by go_num⟩
   case measure=>simp[intOf];omega
  all_goals
   have hkW:k=W:=by
    rcases Nat.lt_or_ge k W with h | h
    ·exfalso
     have hm:=Hm.out k hk1 h
     first
      | exact hm.1 (by assumption)
      |(have h2:(n/2 ^ (8*k-1)!=0)=false∨(n/2 ^ (8*k-1)!= -1)=false:=by assumption
        simp[hm.1,hm.2] at h2)
      | omega
    ·omega
   subst hkW
   clear Hm Hd
   have hb0:Below w.heap.size w w:=Below.refl _ _
   have hn0:=World.ownsRow_nil w w.heap.size 5 1
   go_loopw [4,5] (fun v i wr=>∃j:Nat,j≤k∧i=.int .i64 ((k:Int)-1-j)∧wr.ownsRow w.heap.size 5 1 v j (bys ((be k (IntKind.u64.wrap n).toNat).take j))∧Below w.heap.size w wr)
    (fun _ i _=>(intOf i+1).toNat)
   case atStart=>exact⟨0,Nat.zero_le _,by simp,by simpa[bys] using hn0,hb0⟩
   case round=>
    obtain⟨j,hj,rfl,hor,hbr⟩:=hrel
    clear hn0 hb0
    by_cases hjk:j<k
    ·have hone:=one8 wr (UInt8.ofNat ((IntKind.u64.wrap n).toNat/2 ^ (8*(k-1-j))))
     rw[c8_int n _ (by omega)] at hone
     have hH:=Has.own hone
     have hor1:=hor.alloc (.cells #[.int .u8 (n/2 ^ (8*(k-1-j)) % 256)] 5)
     have hbr1:=hbr.alloc hbr.size (.cells #[.int .u8 (n/2 ^ (8*(k-1-j)) % 256)] 5)
     have hs1:=hbr1.size
     have hbe:=be_get k (IntKind.u64.wrap n).toNat j hjk
     have HBE:=hide hbe
     clear hor hbr hone hbe
     go_wp2_with (at_builtin;go_must (refine app8 _ rfl (.tmp 34) (.tmp 41) rfl w.heap.size _ j _ rfl hor1 _ _ 1 1 _ rfl hH (by omega) hs1 ?_))
     intro v' w3 hown3 hb3 _
     have hb4:=hbr1.trans hb3
     rw[be_snoc _ _ _ HBE.out] at hown3
     clear hor1 hbr1 hs1 hH hb3 HBE
     go_wp2
     go_roundw
     case rel=>exact⟨j+1,by omega,by go_num,hown3,hb4⟩
     case measure=>simp[intOf];omega
    ·obtain rfl:j=k:=by omega
     go_wp2
     go_ret
     rw[List.take_of_length_le (by rw[be_length];exact Nat.le_refl _)] at hor
     exact⟨_,rfl,hor,hbr⟩
theorem rint_any (n:Int) (w:World):
  Calls Tryz.prog 117 #[.int .i64 n] w fun e w'=>
   ∃v,e=.returned v∧w'.ownsRow w.heap.size 5 1 v (intOfs n).length (bys (intOfs n))∧Below w.heap.size w w':=by
 have hi:=isize_le n
 rw[show (intOfs n).length=isize n from be_length _ _]
 exact rint_of n (isize n) w hi.1 hi.2 (hide fun k hk1 hk=>isize_low n k hk1 hk) (hide (isize_end n))
end Go.Proofs.YtpkedjohgmnhhaaGreat.Ber
