/- Several texts in one: BerCutLen, BerCut, BerTake, BerMath, BerHigh, BerInt, BerRefInt, BerIntMath, BerToInt, BerLen, BerField, BerBack. By an AI agent. -/
import Derived.Test.YtcpjmgfloimfhaaGreatSeat
import Derived.Deep.QuietTactic
import Derived.BigQuiet
import Derived.Test.YtcpjmgfloimfhaaGreatWords
set_option linter.unusedSimpArgs false
set_option linter.unusedVariables false
set_option maxRecDepth 100000
set_option maxHeartbeats 1600000
namespace Go.Proofs.YtcpjmgfloimfhaaGreat.Ber
open Go.RowKit
def un (l:List UInt8):Nat:=l.foldl (fun n c=>n*256+c.toNat) 0
def cutLen:List UInt8->Nat × Nat × Int
 | []=>(0,0,5)
 | f::r=>if f.toNat<128 then (f.toNat,1,0) else if f.toNat-128<1\/4<f.toNat-128 then (0,0,2) else
   if r.length<f.toNat-128 then (0,0,5) else (un (r.take (f.toNat-128)),1+(f.toNat-128),0)
theorem or_u64 (s y:Nat) (h0:y<256) (h1:s<72057594037927936):bits .or .u64 ((s:Int)*256) (y:Int)=((s*256+y:Nat):Int):=by
 show IntKind.u64.wrap ((BitVec.ofInt 64 ((s:Int)*256)||| BitVec.ofInt 64 (y:Int)).toNat:Int)=_
 have hz:BitVec.ofInt 64 ((s:Int)*256)&&& BitVec.ofInt 64 (y:Int)=0#64:=by
  have e1:BitVec.ofInt 64 ((s:Int)*256)=BitVec.ofInt 64 (s:Int)<<<8:=by
   rw[BitVec.ofInt_mul,BitVec.shiftLeft_eq_mul_twoPow]
   rfl
  rw[e1,BitVec.ofInt_natCast,BitVec.ofInt_natCast]
  apply BitVec.eq_of_getLsbD_eq
  intro i hi
  rw[BitVec.getLsbD_and,BitVec.getLsbD_shiftLeft]
  simp only[BitVec.getLsbD_ofNat]
  by_cases h8:i<8
  ·simp [h8]
  ·have:y.testBit i=false:=Nat.testBit_lt_two_pow (Nat.lt_of_lt_of_le (by omega:y<2 ^ 8) (Nat.pow_le_pow_right (by omega) (by omega)))
   simp[this]
 rw[<-BitVec.add_eq_or_of_and_eq_zero _ _ hz,<-BitVec.ofInt_add]
 simp only[IntKind.wrap,IntKind.bits,IntKind.signed,BitVec.toNat_ofInt]
 simp
 omega
theorem cutlen_nil (w:World) (A:Option Addr) (c:Nat):
  Calls Tryz.prog 150 #[.slice A 0 c] w fun e w'=>e=.returned (.tuple #[.int .u64 0,.slice none 0 0,.int .i64 5])/\w=w':=by
 go_enter Tryz.func150,Tryz.ntmps150
 go_wp2
 go_ret3
 exact⟨rfl,rfl⟩
theorem cutlen_short (w:World) (g o n c x:Nat) (h1:1<=n) (_hc:n<=c) (_hm:c<=maxLen) (hx:x<128) (c0:w.cell? ⟨g,o,none⟩=some (.int .u8 (x:Int))):
  Calls Tryz.prog 150 #[.slice (some ⟨g,o,none⟩) n c] w fun e w'=>
   e=.returned (.tuple #[.int .u64 x,.slice (if c=1 then some ⟨g,o,none⟩ else some ⟨g,o+1,none⟩) (n-1) (c-1),.int .i64 0])/\Below w.heap.size w w':=by
 unfold maxLen at _hm
 go_enter Tryz.func150,Tryz.ntmps150
 go_wp2
 go_quiet (fail)
 go_wp2
 all_goals go_ret3
 all_goals exact⟨rfl,Below.drewN (Below.refl _ _) _⟩
theorem cutlen_bad (w:World) (g o n c x:Nat) (h1:1<=n) (_hc:n<=c) (_hm:c<=maxLen) (hx:128<=x) (hx2:x=128\/132<x) (hx8:x<256) (c0:w.cell? ⟨g,o,none⟩=some (.int .u8 (x:Int))):
  Calls Tryz.prog 150 #[.slice (some ⟨g,o,none⟩) n c] w fun e w'=>e=.returned (.tuple #[.int .u64 0,.slice none 0 0,.int .i64 2])/\Below w.heap.size w w':=by
 unfold maxLen at _hm
 rcases hx2 with h | h
 ·subst h
  go_enter Tryz.func150,Tryz.ntmps150
  go_wp2
  go_quiet (fail)
  go_wp2
  all_goals go_ret3
  all_goals exact⟨rfl,Below.drewN (Below.refl _ _) _⟩
 ·go_enter Tryz.func150,Tryz.ntmps150
  go_wp2
  go_quiet (fail)
  go_wp2
  all_goals go_ret3
  all_goals exact⟨rfl,Below.drewN (Below.refl _ _) _⟩
theorem cutlen_lacks (w:World) (g o n c k:Nat) (h1:1<=n) (_hc:n<=c) (_hm:c<=maxLen) (hk1:1<=k) (hk4:k<=4) (hn:n-1<k) (c0:w.cell? ⟨g,o,none⟩=some (.int .u8 (128+k:Int))):
  Calls Tryz.prog 150 #[.slice (some ⟨g,o,none⟩) n c] w fun e w'=>e=.returned (.tuple #[.int .u64 0,.slice none 0 0,.int .i64 5])/\Below w.heap.size w w':=by
 unfold maxLen at _hm
 have h2:((n-1:Nat):Int)<(k:Int):=by omega
 go_enter Tryz.func150,Tryz.ntmps150
 go_wp2
 go_quiet (fail)
 go_wp2
 all_goals go_ret3
 all_goals exact⟨rfl,Below.drewN (Below.refl _ _) _⟩
theorem cutlen_wide (w:World) (g o n c k:Nat) (U:Nat->Nat) (v:Nat) (h1:1<=n) (_hc:n<=c) (_hm:c<=maxLen) (hk1:1<=k) (hk4:k<=4) (hn:k<=n-1) (c0:w.cell? ⟨g,o,none⟩=some (.int .u8 (128+k:Int)))
  (HU:Hid (U 0=0)) (HV:Hid (U k=v))
  (HC:Hid (∀j,j<k->∃y:Nat,y<256/\w.cell? ⟨g,o+1+j,none⟩=some (.int .u8 (y:Int))/\U (j+1)=U j*256+y/\U j<16777216)):
  Calls Tryz.prog 150 #[.slice (some ⟨g,o,none⟩) n c] w fun e w'=>
   e=.returned (.tuple #[.int .u64 v,.slice (if c-1=k then some ⟨g,o+1,none⟩ else some ⟨g,o+1+k,none⟩) (n-1-k) (c-1-k),.int .i64 0])/\Below w.heap.size w w':=by
 unfold maxLen at _hm
 have hc1:¬c=1:=by omega
 have ek:128+(k:Int)-128=(k:Int):=by omega
 have h2:(k:Int)<=((n-1:Nat):Int):=by omega
 have h3:k<=c-1:=by omega
 go_enter Tryz.func150,Tryz.ntmps150
 go_wp2
 go_quiet (fail)
 go_wp2
 go_loop [8,41] (fun a i=>∃j:Nat,j<=k/\i=.int .i64 j/\a=.int .u64 (U j)) (fun _ i=>k-(intOf i).toNat)
 case atStart=>exact⟨0,Nat.zero_le _,rfl,by rw[HU.out];rfl⟩
 case round=>
  obtain⟨j,hj,rfl,rfl⟩:=hrel
  by_cases hlt:j<k
  ·obtain ⟨y,hy,hcell,hsv,hs0⟩:=HC.out j hlt
   have HSV:=hide hsv
   clear hsv
   generalize U j=s at *
   go_wp2
   go_round
   case rel=>exact⟨j+1,by omega,by go_num,by rw[HSV.out,or_u64 s y hy (by omega)]⟩
   case measure=>simp[intOf];omega
  ·obtain rfl:j=k:=by omega
   go_wp2
   have hv:=HV.out
   subst hv
   go_quiet (fail)
   go_wp2
   all_goals go_ret3
   all_goals exact⟨rfl,Below.drewN (Below.refl _ _) _⟩
theorem un_snoc (l:List UInt8) (j:Nat) (b:UInt8) (hb:l[j]?=some b):un (l.take (j+1))=un (l.take j)*256+b.toNat:=by
 rw[show l.take (j+1)=l.take j++[b] by rw[List.take_add_one,hb];rfl]
 simp[un,List.foldl_append]
theorem un_range (l:List UInt8):∀k,l.length=k->un l<256 ^ k:=by
 suffices h:∀(l:List UInt8) (n m:Nat),n<256 ^ m->l.foldl (fun n c=>n*256+c.toNat) n<256 ^ (m+l.length) by
  intro k hk
  have:=h l 0 0 (by simp)
  rwa [Nat.zero_add,hk] at this
 intro l
 induction l with
 | nil=>intro n m h;simpa using h
 | cons c r ih=>
  intro n m h
  rw[List.foldl_cons,List.length_cons,show m+(r.length+1)=(m+1)+r.length by omega]
  apply ih
  have hc:=c.toNat_lt
  rw[Nat.pow_succ]
  omega
def cutRest (l:List UInt8):List UInt8:=if (cutLen l).2.2=0 then l.drop (cutLen l).2.1 else []
theorem cutlen_any (w:World) (B:Nat) (A:Option Addr) (n c:Nat) (l:List UInt8) (h:Has w B 1 A n (bys l)) (hB:B<=w.heap.size) (hc:n<=c) (hm:c<=maxLen):
  Calls Tryz.prog 150 #[.slice A n c] w fun e w'=>
   ∃A' c',e=.returned (.tuple #[.int .u64 ((cutLen l).1:Int),.slice A' (cutRest l).length c',.int .i64 (cutLen l).2.2])/\Has w' B 1 A' (cutRest l).length (bys (cutRest l))/\(cutRest l).length<=c'/\c'<=maxLen/\Below w.heap.size w w':=by
 have hn:l.length=n:=by simpa[bys] using h.1
 cases l with
 | nil=>
  simp only[List.length_nil] at hn
  subst hn
  refine (cutlen_nil w A c).mono ?_
  rintro e w' ⟨rfl,rfl⟩
  exact⟨none,0,rfl,Has.nil,Nat.le_refl _,Nat.zero_le _,Below.refl _ _⟩
 | cons f r=>
  obtain⟨g,o,rfl,hg,hcell⟩:=h.lies (by rw[bys_length];simp)
  have hf:=f.toNat_lt
  have c0:=hcell 0 (c8 f) rfl
  simp only[c8,Nat.add_zero] at c0
  simp only[List.length_cons] at hn
  by_cases h1:f.toNat<128
  ·have e1:cutLen (f::r)=(f.toNat,1,0):=by rw[cutLen,if_pos h1]
   have e2:cutRest (f::r)=r:=by rw[cutRest,e1];rfl
   rw[e1,e2]
   refine (cutlen_short w g o n c f.toNat (by omega) hc hm h1 c0).mono ?_
   rintro e w' ⟨rfl,hb⟩
   have hr:r.length=n-1:=by omega
   have hfr:=h.from_ (k:=1) (cap:=c) (by omega) hc
   refine⟨_,c-1,by rw[hr],?_,by omega,by omega,hb⟩
   rw[hr]
   have h2:Has w B 1 (if c=1 then some ⟨g,o,none⟩ else some ⟨g,o+1,none⟩) (n-1) (bys r):=by simpa[bys,Addr.add_lit] using hfr
   exact h2.below (hb.mono hB)
  ·by_cases h2:f.toNat-128<1\/4<f.toNat-128
   ·have e1:cutLen (f::r)=(0,0,2):=by rw[cutLen,if_neg h1,if_pos h2]
    have e2:cutRest (f::r)=[]:=by rw[cutRest,e1];rfl
    rw[e1,e2]
    refine (cutlen_bad w g o n c f.toNat (by omega) hc hm (by omega) (by omega) hf c0).mono ?_
    rintro e w' ⟨rfl,hb⟩
    exact⟨none,0,rfl,Has.nil,Nat.le_refl _,Nat.zero_le _,hb⟩
   ·obtain ⟨k,hk⟩:∃k,f.toNat=128+k:=⟨f.toNat-128,by omega⟩
    have c1:w.cell? ⟨g,o,none⟩=some (.int .u8 (128+k:Int)):=by rw[c0,hk];simp
    by_cases h3:r.length<f.toNat-128
    ·have e1:cutLen (f::r)=(0,0,5):=by rw[cutLen,if_neg h1,if_neg h2,if_pos h3]
     have e2:cutRest (f::r)=[]:=by rw[cutRest,e1];rfl
     rw[e1,e2]
     refine (cutlen_lacks w g o n c k (by omega) hc hm (by omega) (by omega) (by omega) c1).mono ?_
     rintro e w' ⟨rfl,hb⟩
     exact⟨none,0,rfl,Has.nil,Nat.le_refl _,Nat.zero_le _,hb⟩
    ·have e1:cutLen (f::r)=(un (r.take k),1+k,0):=by
      rw[cutLen,if_neg h1,if_neg h2,if_neg h3,show f.toNat-128=k by omega]
     have e2:cutRest (f::r)=r.drop k:=by
      rw[cutRest,e1,if_pos rfl,Nat.add_comm]
      rfl
     rw[e1,e2]
     refine (cutlen_wide w g o n c k (fun j=>un (r.take j)) (un (r.take k)) (by omega) hc hm (by omega) (by omega) (by omega) c1 (hide rfl) (hide rfl) (hide fun j hj=>?_)).mono ?_
     ·have hb:r[j]?=some (r[j]'(by omega)):=List.getElem?_eq_getElem (by omega)
      have hr:=un_range (r.take j) j (by rw[List.length_take];omega)
      have hp:256 ^ j<=256 ^ 3:=Nat.pow_le_pow_right (by omega) (by omega)
      refine⟨(r[j]'(by omega)).toNat,UInt8.toNat_lt _,?_,un_snoc r j _ hb,by omega⟩
      have:=hcell (j+1) (c8 (r[j]'(by omega))) (by rw[bys,List.getElem?_map,List.getElem?_cons_succ,hb];rfl)
      rwa [show o+1+j=o+(j+1) by omega]
     ·rintro e w' ⟨rfl,hb⟩
      have hlen:(r.drop k).length=n-1-k:=by rw[List.length_drop];omega
      have hfr:=h.from_ (k:=1+k) (cap:=c) (by omega) hc
      refine⟨_,c-1-k,by rw[hlen],?_,by omega,by omega,hb⟩
      rw[hlen]
      have h4:Has w B 1 (if c-1=k then some ⟨g,o+1,none⟩ else some ⟨g,o+1+k,none⟩) (n-1-k) (bys (r.drop k)):=by
       by_cases h5:c-1=k
       ·have h6:r.drop k=[]:=List.drop_eq_nil_of_le (by omega)
        rw[h6]
        exact⟨by simp[bys];omega,.inl rfl⟩
       ·rw [if_neg h5]
        rw[if_neg (by omega)] at hfr
        have e3:(bys (f::r)).drop ((1+k)*1)=bys (r.drop k):=by
         rw[Nat.mul_one,bys_drop,Nat.add_comm]
         rfl
        rw[e3] at hfr
        simpa[Addr.add_lit,Nat.add_assoc,Nat.sub_sub] using hfr
      exact h4.below (hb.mono hB)
end Go.Proofs.YtcpjmgfloimfhaaGreat.Ber
namespace Go.Proofs.YtcpjmgfloimfhaaGreat.Ber
open Go.RowKit
def takeOf:List UInt8->Nat × List UInt8 × List UInt8 × Int
 | []=>(0,[],[],5)
 | t::r=>if t.toNat % 32=31 then (0,[],[],2) else if (cutLen r).2.2≠0 then (0,[],[],(cutLen r).2.2) else
   if (cutRest r).length<(cutLen r).1 then (0,[],[],5) else (t.toNat,(cutRest r).take (cutLen r).1,(cutRest r).drop (cutLen r).1,0)
theorem and_31 (x:Nat) (h0:x<256):bits .and .u8 (x:Int) 31=((x % 32:Nat):Int):=by
 have h:∀x:Fin 256,bits .and .u8 ((x.val:Nat):Int) 31=((x.val % 32:Nat):Int):=by decide+kernel
 exact h ⟨x,h0⟩
theorem cut_nil (w:World) (A:Option Addr) (c:Nat):
  Calls Tryz.prog 124 #[.slice A 0 c] w fun e w'=>e=.returned (.tuple #[.int .u8 0,.slice none 0 0,.slice none 0 0,.int .i64 5])/\w=w':=by
 go_enter Tryz.func124,Tryz.ntmps124
 go_wp2
 exact bodyPost_ret (results4 rfl _ _ _) rfl ⟨rfl,rfl⟩
theorem cut_many (w:World) (g o n c x:Nat) (h1:1<=n) (_hc:n<=c) (_hm:c<=maxLen) (hx:(bits .and .u8 (x:Int) 31==31)=true) (c0:w.cell? ⟨g,o,none⟩=some (.int .u8 (x:Int))):
  Calls Tryz.prog 124 #[.slice (some ⟨g,o,none⟩) n c] w fun e w'=>e=.returned (.tuple #[.int .u8 0,.slice none 0 0,.slice none 0 0,.int .i64 2])/\w=w':=by
 unfold maxLen at _hm
 go_enter Tryz.func124,Tryz.ntmps124
 go_wp2
 exact bodyPost_ret (results4 rfl _ _ _) rfl ⟨rfl,rfl⟩
def CL (w:World) (B:Nat) (A:Option Addr) (n c:Nat) (L:Nat) (rest:List UInt8) (err:Int):Prop:=
 Calls Tryz.prog 150 #[.slice A n c] w fun e w'=>
   ∃A' c',e=.returned (.tuple #[.int .u64 (L:Int),.slice A' rest.length c',.int .i64 err])/\Has w' B 1 A' rest.length (bys rest)/\rest.length<=c'/\c'<=maxLen/\Below w.heap.size w w'
theorem cut_err (w:World) (B g o n c x L:Nat) (rest:List UInt8) (err:Int) (h1:1<=n) (_hc:n<=c) (_hm:c<=maxLen) (hx:(bits .and .u8 (x:Int) 31==31)=false) (c0:w.cell? ⟨g,o,none⟩=some (.int .u8 (x:Int)))
  (HL:Hid (∀(A':Option Addr) (c':Nat),(c=1->A'=some ⟨g,o,none⟩)->(¬c=1->A'=some ⟨g,o+1,none⟩)->c'=c-1->CL w B A' (n-1) c' L rest err)) (he:(err !=0)=true):
  Calls Tryz.prog 124 #[.slice (some ⟨g,o,none⟩) n c] w fun e w'=>e=.returned (.tuple #[.int .u8 0,.slice none 0 0,.slice none 0 0,.int .i64 err])/\Below w.heap.size w w':=by
 unfold maxLen at _hm
 by_cases hc1:c=1
 all_goals
  try (subst hc1;obtain rfl:n=1:=by omega)
  go_enter Tryz.func124,Tryz.ntmps124
  go_wp2_with fail
  first
   |(have hcl:=HL.out (some ⟨g,o,none⟩) 0 (fun _=>rfl) (fun h=>by simp at h) rfl
     unfold CL at hcl
     refine hcl.mono ?_)
   |(have hcl:=HL.out (some ⟨g,o+1,none⟩) (c-1) (fun h=>absurd h hc1) (fun _=>rfl) rfl
     unfold CL at hcl
     refine hcl.mono ?_)
  clear hcl
  rintro e w1 ⟨A2,c2,rfl,hH,hc2,hm2,hb⟩
  clear HL
  go_wp2
  exact bodyPost_ret (results4 rfl _ _ _) rfl ⟨rfl,hb⟩
theorem cut_lacks (w:World) (B g o n c x L:Nat) (rest:List UInt8) (err:Int) (h1:1<=n) (_hc:n<=c) (_hm:c<=maxLen) (hx:(bits .and .u8 (x:Int) 31==31)=false) (c0:w.cell? ⟨g,o,none⟩=some (.int .u8 (x:Int)))
  (HL:Hid (∀(A':Option Addr) (c':Nat),(c=1->A'=some ⟨g,o,none⟩)->(¬c=1->A'=some ⟨g,o+1,none⟩)->c'=c-1->CL w B A' (n-1) c' L rest err)) (he:err=0) (hL:rest.length<L):
  Calls Tryz.prog 124 #[.slice (some ⟨g,o,none⟩) n c] w fun e w'=>e=.returned (.tuple #[.int .u8 0,.slice none 0 0,.slice none 0 0,.int .i64 5])/\Below w.heap.size w w':=by
 subst he
 unfold maxLen at _hm
 by_cases hc1:c=1
 all_goals
  try (subst hc1;obtain rfl:n=1:=by omega)
  go_enter Tryz.func124,Tryz.ntmps124
  go_wp2_with fail
  first
   |(have hcl:=HL.out (some ⟨g,o,none⟩) 0 (fun _=>rfl) (fun h=>by simp at h) rfl
     unfold CL at hcl
     refine hcl.mono ?_)
   |(have hcl:=HL.out (some ⟨g,o+1,none⟩) (c-1) (fun h=>absurd h hc1) (fun _=>rfl) rfl
     unfold CL at hcl
     refine hcl.mono ?_)
  clear hcl
  rintro e w1 ⟨A2,c2,rfl,hH,hc2,hm2,hb⟩
  clear HL
  unfold maxLen at hm2
  go_wp2
  exact bodyPost_ret (results4 rfl _ _ _) rfl ⟨rfl,hb⟩
theorem cut_ok (w:World) (B g o n c x L:Nat) (rest:List UInt8) (err:Int) (hgw:g<w.heap.size) (h1:1<=n) (_hc:n<=c) (_hm:c<=maxLen) (hx:(bits .and .u8 (x:Int) 31==31)=false) (c0:w.cell? ⟨g,o,none⟩=some (.int .u8 (x:Int)))
  (HL:Hid (∀(A':Option Addr) (c':Nat),(c=1->A'=some ⟨g,o,none⟩)->(¬c=1->A'=some ⟨g,o+1,none⟩)->c'=c-1->CL w B A' (n-1) c' L rest err)) (he:err=0) (hL:L<=rest.length):
  Calls Tryz.prog 124 #[.slice (some ⟨g,o,none⟩) n c] w fun e w'=>∃A1 c1 A2 c2,e=.returned (.tuple #[.int .u8 (x:Int),.slice A1 L c1,.slice A2 (rest.length-L) c2,.int .i64 0])/\
   Has w' B 1 A1 L (bys (rest.take L))/\L<=c1/\c1<=maxLen/\Has w' B 1 A2 (rest.length-L) (bys (rest.drop L))/\rest.length-L<=c2/\c2<=maxLen/\Below w.heap.size w w':=by
 subst he
 unfold maxLen at _hm
 by_cases hc1:c=1
 all_goals
  try (subst hc1;obtain rfl:n=1:=by omega)
  go_enter Tryz.func124,Tryz.ntmps124
  go_wp2_with fail
  first
   |(have hcl:=HL.out (some ⟨g,o,none⟩) 0 (fun _=>rfl) (fun h=>by simp at h) rfl
     unfold CL at hcl
     refine hcl.mono ?_)
   |(have hcl:=HL.out (some ⟨g,o+1,none⟩) (c-1) (fun h=>absurd h hc1) (fun _=>rfl) rfl
     unfold CL at hcl
     refine hcl.mono ?_)
  clear hcl
  rintro e w1 ⟨A2,c2,rfl,hH,hc2,hm2,hb⟩
  clear HL
  have c1:w1.cell? ⟨g,o,none⟩=some (.int .u8 (x:Int)):=(hb.cell (p:=⟨g,o,none⟩) hgw).trans c0
  unfold maxLen at hm2
  go_wp2
  go_quiet (fail)
  go_wp2
  ·have hcL:c2=L:=by assumption
   subst hcL
   have hL2:c2=rest.length:=by omega
   refine bodyPost_ret (results4 rfl _ _ _) rfl ⟨_,_,_,_,rfl,?_,Nat.le_refl _,hm2,?_,by omega,Nat.zero_le _,Below.drewN hb _⟩
   ·have:=hH.first (k:=c2) (by omega)
    rw[Nat.mul_one,bys_take] at this
    exact this
   ·rw [List.drop_eq_nil_of_le (by omega)]
    exact⟨by simp[bys];omega,.inl rfl⟩
  ·have hcL:¬c2=L:=by assumption
   refine bodyPost_ret (results4 rfl _ _ _) rfl ⟨_,_,_,_,rfl,?_,by omega,hm2,?_,by omega,by unfold maxLen;omega,Below.drewN hb _⟩
   ·have:=hH.first (k:=L) hL
    rw[Nat.mul_one,bys_take] at this
    exact this
   ·have:=hH.from_ (k:=L) (cap:=c2) hL hc2
    rw[if_neg hcL,Nat.mul_one,bys_drop] at this
    exact this
theorem cut_any (w:World) (B:Nat) (A:Option Addr) (n c:Nat) (l:List UInt8) (h:Has w B 1 A n (bys l)) (hB:B<=w.heap.size) (hc:n<=c) (hm:c<=maxLen):
  Calls Tryz.prog 124 #[.slice A n c] w fun e w'=>∃A1 c1 A2 c2,e=.returned (.tuple #[.int .u8 ((takeOf l).1:Int),.slice A1 (takeOf l).2.1.length c1,.slice A2 (takeOf l).2.2.1.length c2,.int .i64 (takeOf l).2.2.2])/\
   Has w' B 1 A1 (takeOf l).2.1.length (bys (takeOf l).2.1)/\(takeOf l).2.1.length<=c1/\c1<=maxLen/\Has w' B 1 A2 (takeOf l).2.2.1.length (bys (takeOf l).2.2.1)/\(takeOf l).2.2.1.length<=c2/\c2<=maxLen/\Below w.heap.size w w':=by
 have hn:l.length=n:=by simpa[bys] using h.1
 have fail_:∀(err:Int) (w':World),takeOf l=(0,[],[],err)->Below w.heap.size w w'->∃A1 c1 A2 c2,Ending.returned (.tuple #[.int .u8 0,.slice none 0 0,.slice none 0 0,.int .i64 err])=
   Ending.returned (.tuple #[.int .u8 ((takeOf l).1:Int),.slice A1 (takeOf l).2.1.length c1,.slice A2 (takeOf l).2.2.1.length c2,.int .i64 (takeOf l).2.2.2])/\
   Has w' B 1 A1 (takeOf l).2.1.length (bys (takeOf l).2.1)/\(takeOf l).2.1.length<=c1/\c1<=maxLen/\Has w' B 1 A2 (takeOf l).2.2.1.length (bys (takeOf l).2.2.1)/\(takeOf l).2.2.1.length<=c2/\c2<=maxLen/\Below w.heap.size w w':=by
  intro err w' ht hb
  rw[ht]
  exact⟨none,0,none,0,rfl,Has.nil,Nat.le_refl _,Nat.zero_le _,Has.nil,Nat.le_refl _,Nat.zero_le _,hb⟩
 cases l with
 | nil=>
  simp only[List.length_nil] at hn
  subst hn
  refine (cut_nil w A c).mono ?_
  rintro e w' ⟨rfl,rfl⟩
  exact fail_ 5 _ rfl (Below.refl _ _)
 | cons t r=>
  obtain⟨g,o,rfl,hg,hcell⟩:=h.lies (by rw[bys_length];simp)
  have ht:=t.toNat_lt
  have c0:=hcell 0 (c8 t) rfl
  simp only[c8,Nat.add_zero] at c0
  simp only[List.length_cons] at hn
  have ha:=and_31 t.toNat ht
  by_cases h1:t.toNat % 32=31
  ·refine (cut_many w g o n c t.toNat (by omega) hc hm (by rw[ha,h1];rfl) c0).mono ?_
   rintro e w' ⟨rfl,rfl⟩
   exact fail_ 2 _ (by rw[takeOf,if_pos h1]) (Below.refl _ _)
  ·have hx:(bits .and .u8 (t.toNat:Int) 31==31)=false:=by
    rw[ha,beq_eq_false_iff_ne]
    omega
   have HL:Hid (∀(A':Option Addr) (c':Nat),(c=1->A'=some ⟨g,o,none⟩)->(¬c=1->A'=some ⟨g,o+1,none⟩)->c'=c-1->CL w B A' (n-1) c' (cutLen r).1 (cutRest r) (cutLen r).2.2):=by
    refine hide fun A' c' e1 e2 e3=>?_
    subst e3
    have hfr:=h.from_ (k:=1) (cap:=c) (by omega) hc
    have hA:Has w B 1 A' (n-1) (bys r):=by
     by_cases hc1:c=1
     ·rw [e1 hc1]
      rw[if_pos hc1] at hfr
      simpa[bys] using hfr
     ·rw [e2 hc1]
      rw[if_neg hc1] at hfr
      simpa[bys,Addr.add_lit] using hfr
    exact cutlen_any w B A' (n-1) (c-1) r hA hB (by omega) (by omega)
   by_cases h2:(cutLen r).2.2=0
   ·by_cases h3:(cutRest r).length<(cutLen r).1
    ·refine (cut_lacks w B g o n c t.toNat _ _ _ (by omega) hc hm hx c0 HL h2 h3).mono ?_
     rintro e w' ⟨rfl,hb⟩
     exact fail_ 5 _ (by rw[takeOf,if_neg h1,if_neg (by simpa using h2),if_pos h3]) hb
    ·have e1:takeOf (t::r)=(t.toNat,(cutRest r).take (cutLen r).1,(cutRest r).drop (cutLen r).1,0):=by
      rw[takeOf,if_neg h1,if_neg (by simpa using h2),if_neg h3]
     rw[e1]
     refine (cut_ok w B g o n c t.toNat _ _ _ (by omega) (by omega) hc hm hx c0 HL h2 (by omega)).mono ?_
     rintro e w' ⟨A1,c1,A2,c2,rfl,q1,q2,q3,q4,q5,q6,q7⟩
     have l1:((cutRest r).take (cutLen r).1).length=(cutLen r).1:=by rw[List.length_take];omega
     have l2:((cutRest r).drop (cutLen r).1).length=(cutRest r).length-(cutLen r).1:=List.length_drop
     simp only[l1,l2]
     exact⟨A1,c1,A2,c2,rfl,q1,q2,q3,q4,q5,q6,q7⟩
   ·refine (cut_err w B g o n c t.toNat _ _ _ (by omega) hc hm hx c0 HL (by rw[bne_iff_ne];exact h2)).mono ?_
    rintro e w' ⟨rfl,hb⟩
    exact fail_ _ _ (by rw[takeOf,if_neg h1,if_pos h2]) hb
end Go.Proofs.YtcpjmgfloimfhaaGreat.Ber
namespace Go.Proofs.YtcpjmgfloimfhaaGreat.Ber
open Go.RowKit
theorem clone_any (w:World) (B:Nat) (A:Option Addr) (n c:Nat) (l:List UInt8) (h:Has w B 1 A n (bys l)) (hB:B<=w.heap.size) (hn:n<=140737488351232):
  Calls Tryz.prog 125 #[.slice A n c] w fun e w'=>∃v,e=.returned v/\w'.ownsRow w.heap.size 5 1 v l.length (bys l)/\Below w.heap.size w w':=by
 have hl:l.length=n:=by simpa[bys] using h.1
 cases A with
 | none=>
  have h0:l=[]:=by
   rcases h.2 with h0 | ⟨ad,h0,_⟩
   ·simpa [bys] using h0
   ·cases h0
  subst h0
  simp only[List.length_nil] at hl
  subst hl
  have hs:=World.ownsRow_nil w w.heap.size 5 1
  have hnil:=nil8 w none 0 c
  clear h
  go_enter Tryz.func125,Tryz.ntmps125
  go_wp2
  go_ret
  exact⟨_,rfl,hs,Below.refl _ _⟩
 | some ad=>
  subst hl
  have hb0:Below w.heap.size w (w.alloc (.cells #[] 5)):=(Below.refl _ _).alloc (Nat.le_refl _) _
  have ho:=none8 w
  have hs:=hb0.size
  have hH:=h.below (hb0.mono hB)
  have hnil:=nil8 w (some ad) l.length c
  clear h
  go_enter Tryz.func125,Tryz.ntmps125
  go_wp2_with (at_builtin;go_must (refine app8 _ rfl (.tmp 5) (.tmp 6) rfl w.heap.size _ 0 [] rfl ho _ _ l.length c l rfl hH (by omega) hs ?_))
  intro v1 w1 hown1 hb1 _
  have hb2:=hb0.trans hb1
  clear ho hH hb0 hb1 hnil
  go_wp2
  go_ret
  exact⟨_,rfl,by simpa using hown1,hb2⟩
theorem cutRest_le (l:List UInt8):(cutRest l).length<=l.length:=by
 unfold cutRest
 split
 ·rw [List.length_drop];omega
 ·simp
theorem takeOf_le (l:List UInt8):(takeOf l).2.1.length<=l.length/\(takeOf l).2.2.1.length<=l.length:=by
 cases l with
 | nil=>simp[takeOf]
 | cons t r=>
  have:=cutRest_le r
  rw[takeOf,List.length_cons]
  split
  ·simp
  ·split
   ·simp
   ·split
    ·simp
    ·simp only[List.length_take,List.length_drop]
     omega
end Go.Proofs.YtcpjmgfloimfhaaGreat.Ber
namespace Go.Proofs.YtcpjmgfloimfhaaGreat.Ber
open Go.RowKit
def be (k N:Nat):List UInt8:=(List.range k).map fun i=>UInt8.ofNat (N/2 ^ (8*(k-1-i)))
theorem be_length (k N:Nat):(be k N).length=k:=by simp[be]
theorem be_get (k N i:Nat) (h:i<k):(be k N)[i]?=some (UInt8.ofNat (N/2 ^ (8*(k-1-i)))):=by
 simp[be,List.getElem?_range h]
def wide (n:Nat):Nat:=if n<256 then 1 else if n<65536 then 2 else if n<16777216 then 3 else 4
def lenOf (n:Int):List UInt8:=
 if n<0\/2147483647<n then [] else if n<128 then [UInt8.ofNat n.toNat] else UInt8.ofNat (128+wide n.toNat)::be (wide n.toNat) n.toNat
theorem wide_le (n:Nat):1<=wide n/\wide n<=4:=by unfold wide;split<;>(try split)<;>(try split)<;>omega
theorem wide_more (n k:Nat) (hn:n<2147483648) (h1:1<=k) (hk:k<wide n):n/2 ^ (8*k)≠0:=by
 intro h
 rw[Nat.div_eq_zero_iff] at h
 have hp:0<2 ^ (8*k):=Nat.two_pow_pos _
 have hlt:n<2 ^ (8*k):=by omega
 have hw:=wide_le n
 have hc:k=1\/k=2\/k=3:=by omega
 unfold wide at hk
 rcases hc with rfl | rfl | rfl<;>simp at hlt<;>split at hk<;>(try split at hk)<;>(try split at hk)<;>omega
theorem wide_done (n:Nat) (hn:n<2147483648):n/2 ^ (8*wide n)=0:=by
 rw[Nat.div_eq_zero_iff]
 right
 unfold wide
 split
 ·omega
 ·split
  ·omega
  ·split<;>omega
def isize (n:Int):Nat:=
 if -128<=n/\n<128 then 1 else if -32768<=n/\n<32768 then 2 else if -8388608<=n/\n<8388608 then 3 else
 if -2147483648<=n/\n<2147483648 then 4 else if -549755813888<=n/\n<549755813888 then 5 else
 if -140737488355328<=n/\n<140737488355328 then 6 else if -36028797018963968<=n/\n<36028797018963968 then 7 else 8
def intOfs (n:Int):List UInt8:=be (isize n) (IntKind.u64.wrap n).toNat
theorem isize_le (n:Int):1<=isize n/\isize n<=8:=by
 unfold isize
 repeat' split
 all_goals omega
theorem isize_more (n:Int) (k:Nat) (h0: -9223372036854775808<=n) (h1:n<=9223372036854775807) (hk1:1<=k) (hk:k<isize n):n/2 ^ (8*k-1)≠n/9223372036854775808:=by
 have hle:=isize_le n
 have hc:k=1\/k=2\/k=3\/k=4\/k=5\/k=6\/k=7:=by omega
 unfold isize at hk
 rcases hc with rfl | rfl | rfl | rfl | rfl | rfl | rfl<;>simp only[Nat.reduceMul,Nat.reduceSub,Int.reducePow]<;>
  (repeat' (split at hk))<;>omega
theorem isize_done (n:Int) (h0: -9223372036854775808<=n) (h1:n<=9223372036854775807):n/2 ^ (8*isize n-1)=n/9223372036854775808:=by
 unfold isize
 repeat' split
 all_goals simp only[Nat.reduceMul,Nat.reduceSub,Int.reducePow]<;>omega
theorem filled (l:List UInt8) (n k:Nat) (b:UInt8) (z:Value) (hl:l.length=n) (hk:k<n) (hb:l[k]?=some b):
  (bys (l.take k)++List.replicate (n-k) z).set k (c8 b)=bys (l.take (k+1))++List.replicate (n-(k+1)) z:=by
 have h1:(bys (l.take k)).length=k:=by simp[bys];omega
 rw[List.set_append_right _ _ (by omega),h1,Nat.sub_self,show n-k=(n-(k+1))+1 by omega,List.replicate_succ,List.set_cons_zero]
 rw[show l.take (k+1)=l.take k++[b] by rw[List.take_add_one,hb];rfl]
 simp[bys]
theorem filled_at (l:List UInt8) (n k:Nat) (z:Value) (hl:l.length=n) (hk:k<n):
  (bys (l.take k)++List.replicate (n-k) z)[k]?=some z:=by
 have h1:(bys (l.take k)).length=k:=by simp[bys];omega
 rw[List.getElem?_append_right (by omega),h1,Nat.sub_self]
 simp[show 0<n-k by omega]
end Go.Proofs.YtcpjmgfloimfhaaGreat.Ber
namespace Go.Proofs.YtcpjmgfloimfhaaGreat.Ber
open Go.RowKit
theorem high_any (N n:Nat) (w:World) (h1:1<=n) (h8:n<=8):
  Calls Tryz.prog 143 #[.int .u64 N,.int .i64 n] w fun e w'=>
   ∃g,e=.returned (.slice (some ⟨g,0,none⟩) n n)/\w'.ownsRow w.heap.size 5 1 (.slice (some ⟨g,0,none⟩) n n) n (bys (be n N))/\Below w.heap.size w w':=by
 obtain⟨i0,hi,hz0,hz1,hz2⟩:=info_parts info8
 go_enter Tryz.func143,Tryz.ntmps143
 go_wp2_with (at_make;refine wpList_make_full _ rfl _ _ 33 rfl w.heap.size 5 i0 _ 1 Tryz.underlying33 hi hz0 hz1 .i64 .i64 _ _ n rfl rfl rfl rfl ?b1 ?b2 (Nat.le_refl _) ?_)
 case b1=>rw[hz2];omega
 case b2=>unfold maxLen;omega
 intro w1 hown hg
 have hb1:Below w.heap.size w w1:=(Below.refl _ _).grown hg (Nat.le_refl _) (by simp)
 rw[toList_madeCells_one] at hown
 clear hg
 go_wp2
 go_loopw [11] (fun i wr=>∃k:Nat,k<=n/\i=.int .i64 k/\wr.ownsRow w.heap.size 5 1 (.slice (some ⟨w.heap.size,0,none⟩) n n) n (bys ((be n N).take k)++List.replicate (n-k) (.int .u8 0))/\Below w.heap.size w wr)
  (fun i _=>n-(intOf i).toNat)
 case atStart=>exact⟨0,Nat.zero_le _,rfl,by simpa[bys] using hown,hb1⟩
 case round=>
  obtain⟨k,hk,rfl,hor,hbr⟩:=hrel
  clear hown
  by_cases hlt:k<n
  ·have hc:=hor.cellAt k (by omega)
   rw[filled_at _ _ _ _ (be_length n N) hlt] at hc
   have hf:=hor.frozenAt k
   have hnew:=hor.stored k (c8 (UInt8.ofNat (N/2 ^ (8*(n-1-k)))))
   rw[filled _ _ _ _ _ (be_length n N) hlt (be_get n N k hlt),c8_shr] at hnew
   have hbn:=hbr.setCell (p:=⟨w.heap.size,k,none⟩) (Nat.le_refl _) (.int .u8 ((N:Int)/2 ^ (8*(n-1-k)) % 256))
   have H1:=hide hnew.1
   have H2:=hide hbn
   clear hnew hbn hor hbr
   go_wp2
   go_roundw
   case rel=>exact⟨k+1,by omega,by go_num,H1.out,H2.out⟩
   case measure=>simp[intOf];omega
  ·have hkn:k=n:=by omega
   subst hkn
   go_wp2
   go_ret
   refine⟨_,rfl,?_,hbr⟩
   rw[List.take_of_length_le (by rw[be_length];exact Nat.le_refl _)] at hor
   simpa using hor
theorem high_int (x:Int) (n:Nat) (w:World) (h1:1<=n) (h8:n<=8) (hx:0<=x):
  Calls Tryz.prog 143 #[.int .u64 x,.int .i64 n] w fun e w'=>
   ∃g,e=.returned (.slice (some ⟨g,0,none⟩) n n)/\w'.ownsRow w.heap.size 5 1 (.slice (some ⟨g,0,none⟩) n n) n (bys (be n x.toNat))/\Below w.heap.size w w':=by
 obtain⟨N,rfl⟩:=Int.eq_ofNat_of_zero_le hx
 rw[Int.toNat_natCast]
 exact high_any N n w h1 h8
end Go.Proofs.YtcpjmgfloimfhaaGreat.Ber
namespace Go.Proofs.YtcpjmgfloimfhaaGreat.Ber
open Go.RowKit
theorem u64_nonneg (n:Int):0<=IntKind.u64.wrap n:=by simp[IntKind.wrap,IntKind.bits,IntKind.signed];omega
theorem int_of (n:Int) (W:Nat) (w:World) (hw1:1<=W) (hw8:W<=8)
  (Hm:Hid (∀k:Nat,1<=k->k<W->(n/2 ^ (8*k-1)!=n/9223372036854775808)=true)) (Hd:Hid ((n/2 ^ (8*W-1)!=n/9223372036854775808)=false)):
  Calls Tryz.prog 99 #[.int .i64 n] w fun e w'=>
   ∃g,e=.returned (.slice (some ⟨g,0,none⟩) W W)/\w'.ownsRow w.heap.size 5 1 (.slice (some ⟨g,0,none⟩) W W) W (bys (be W (IntKind.u64.wrap n).toNat))/\Below w.heap.size w w':=by
 go_enter Tryz.func99,Tryz.ntmps99
 go_wp2
 go_loop [3] (fun s=>∃k:Nat,1<=k/\k<=W/\s=.int .i64 k) (fun s=>W-(intOf s).toNat)
 case atStart=>exact⟨1,Nat.le_refl _,hw1,rfl⟩
 case round=>
  obtain⟨k,hk1,hk,rfl⟩:=hrel
  go_wp2_with fail
  ·have hn:(n/2 ^ (8*k-1)!=n/9223372036854775808)=true:=by assumption
   have hlt:k<W:=by
    rcases Nat.lt_or_ge k W with h | h
    ·exact h
    ·obtain rfl:k=W:=by omega
     rw[Hd.out] at hn
     cases hn
   go_round
   case rel=>exact⟨k+1,by omega,by omega,by go_num⟩
   case measure=>simp[intOf];omega
  ·have hn:(n/2 ^ (8*k-1)!=n/9223372036854775808)=false:=by assumption
   obtain rfl:k=W:=by
    rcases Nat.lt_or_ge k W with h | h
    ·rw [Hm.out k hk1 h] at hn
     cases hn
    ·omega
   clear Hm Hd
   refine (high_int _ k _ hw1 hw8 (u64_nonneg n)).mono ?_
   rintro e w2 ⟨g,rfl,hown2,hb2⟩
   go_wp2
   go_ret
   exact⟨g,rfl,hown2,hb2⟩
theorem int_any (n:Int) (w:World) (h0: -9223372036854775808<=n) (h1:n<=9223372036854775807):
  Calls Tryz.prog 99 #[.int .i64 n] w fun e w'=>
   ∃g,e=.returned (.slice (some ⟨g,0,none⟩) (intOfs n).length (intOfs n).length)/\w'.ownsRow w.heap.size 5 1 (.slice (some ⟨g,0,none⟩) (intOfs n).length (intOfs n).length) (intOfs n).length (bys (intOfs n))/\Below w.heap.size w w':=by
 have hi:=isize_le n
 have:=int_of n (isize n) w hi.1 hi.2 (hide fun k hk1 hk=>bne_iff_ne.2 (isize_more n k h0 h1 hk1 hk)) (hide (bne_eq_false_iff_eq.2 (isize_done n h0 h1)))
 rw[show (intOfs n).length=isize n from be_length _ _]
 exact this
end Go.Proofs.YtcpjmgfloimfhaaGreat.Ber
namespace Go.Proofs.YtcpjmgfloimfhaaGreat.Ber
open Go.RowKit
theorem c8_int (n:Int) (t:Nat) (ht:t<=7):
  c8 (UInt8.ofNat ((IntKind.u64.wrap n).toNat/2 ^ (8*t)))=.int .u8 (n/2 ^ (8*t) % 256):=by
 rw[c8_ofNat]
 congr 1
 have hw:IntKind.u64.wrap n=n % 18446744073709551616:=by simp[IntKind.wrap,IntKind.bits,IntKind.signed]
 have hnn:=u64_nonneg n
 rw[Int.natCast_ediv,Int.toNat_of_nonneg hnn,hw]
 have hc:t=0\/t=1\/t=2\/t=3\/t=4\/t=5\/t=6\/t=7:=by omega
 rcases hc with rfl | rfl | rfl | rfl | rfl | rfl | rfl | rfl<;>simp only[Nat.reduceMul,Nat.reducePow,Int.reducePow]<;>omega
end Go.Proofs.YtcpjmgfloimfhaaGreat.Ber
namespace Go.Proofs.YtcpjmgfloimfhaaGreat.Ber
open Go.RowKit
def signed (b:UInt8):Int:=if b.toNat<128 then b.toNat else (b.toNat:Int)-256
def sv:List UInt8->Int
 | []=>0
 | b::r=>r.foldl (fun n c=>n*256+(c.toNat:Int)) (signed b)
theorem sv_snoc (l:List UInt8) (c:UInt8) (h:l≠[]):sv (l++[c])=sv l*256+(c.toNat:Int):=by
 cases l with
 | nil=>exact absurd rfl h
 | cons b r=>simp[sv,List.foldl_append]
def uv (l:List UInt8):Int:=l.foldl (fun n c=>n*256+(c.toNat:Int)) 0
theorem foldl_from (r:List UInt8):∀n:Int,r.foldl (fun n c=>n*256+(c.toNat:Int)) n=n*256 ^ r.length+uv r:=by
 induction r with
 | nil=>intro n;simp[uv]
 | cons c r ih=>
  intro n
  rw[uv,List.foldl_cons,List.foldl_cons,ih,ih (0*256+_),List.length_cons,Int.pow_succ,Int.add_mul]
  simp only[Int.zero_mul,Int.zero_add]
  rw[show n*256*256 ^ r.length=n*(256 ^ r.length*256) by rw[Int.mul_assoc,Int.mul_comm 256]]
  omega
theorem uv_cons (c:UInt8) (r:List UInt8):uv (c::r)=(c.toNat:Int)*256 ^ r.length+uv r:=by
 rw[uv,List.foldl_cons,foldl_from]
 simp
theorem sv_cons (c:UInt8) (r:List UInt8):sv (c::r)=signed c*256 ^ r.length+uv r:=foldl_from r _
theorem uv_range (r:List UInt8):0<=uv r/\uv r<256 ^ r.length:=by
 induction r with
 | nil=>simp[uv]
 | cons c r ih=>
  rw[uv_cons,List.length_cons,Int.pow_succ]
  have hc:=c.toNat_lt
  have hp:(0:Int)<256 ^ r.length:=Int.pow_pos (by omega)
  have h1:0<=(c.toNat:Int)*256 ^ r.length:=Int.mul_nonneg (by omega) (by omega)
  have h2:(c.toNat:Int)*256 ^ r.length<=255*256 ^ r.length:=Int.mul_le_mul_of_nonneg_right (by omega) (by omega)
  constructor
  ·omega
  ·rw [Int.mul_comm (256 ^ r.length) 256]
   omega
def longer:List UInt8->Bool
 | a::b::_=>(a.toNat==0&&decide (b.toNat<128))||(a.toNat==255&&decide (128<=b.toNat))
 | _=>false
theorem isize_iff (n:Int) (j:Nat) (h1:1<=j) (h8:j<=8) (h0: -9223372036854775808<=n) (h9:n<=9223372036854775807):isize n<=j↔ -(128*256 ^ (j-1))<=n/\n<128*256 ^ (j-1):=by
 have hc:j=1\/j=2\/j=3\/j=4\/j=5\/j=6\/j=7\/j=8:=by omega
 unfold isize
 rcases hc with rfl | rfl | rfl | rfl | rfl | rfl | rfl | rfl<;>simp only[Nat.reduceSub,Int.reducePow,Int.reduceMul,Int.reduceNeg]<;>
  (repeat' split)<;>omega
theorem sv_range (l:List UInt8) (h:l≠[]): -(128*256 ^ (l.length-1))<=sv l/\sv l<128*256 ^ (l.length-1):=by
 cases l with
 | nil=>exact absurd rfl h
 | cons a r=>
  rw[sv_cons,List.length_cons,Nat.add_sub_cancel]
  have hu:=uv_range r
  have ha:=a.toNat_lt
  have hs: -128<=signed a/\signed a<=127:=by
   unfold signed
   split<;>omega
  have h1:(-128)*256 ^ r.length<=signed a*256 ^ r.length:=Int.mul_le_mul_of_nonneg_right hs.1 (by omega)
  have h2:signed a*256 ^ r.length<=127*256 ^ r.length:=Int.mul_le_mul_of_nonneg_right hs.2 (by omega)
  omega
theorem pow_grows (m:Nat):∀d:Nat,(256:Int) ^ m<=256 ^ (m+d)
 | 0=>Int.le_refl _
 | d+1=>by
  have h:=pow_grows m d
  have hp:(0:Int)<256 ^ (m+d):=Int.pow_pos (by omega)
  rw[<-Nat.add_assoc,Int.pow_succ]
  omega
theorem sv_i64 (l:List UInt8) (h8:l.length<=8): -9223372036854775808<=sv l/\sv l<=9223372036854775807:=by
 rcases Nat.eq_zero_or_pos l.length with h0 | h0
 ·obtain rfl:=List.eq_nil_of_length_eq_zero h0
  simp[sv]
 ·have h:=sv_range l (by intro e;subst e;simp at h0)
  have hp:(256:Int) ^ (l.length-1)<=256 ^ 7:=by
   have:=pow_grows (l.length-1) (7-(l.length-1))
   rwa [show l.length-1+(7-(l.length-1))=7 by omega] at this
  simp only[Int.reducePow] at hp
  omega
theorem longer_iff (a b:UInt8) (r:List UInt8):longer (a::b::r)=true↔ -(128*256 ^ r.length)<=sv (a::b::r)/\sv (a::b::r)<128*256 ^ r.length:=by
 rw[sv_cons,uv_cons,List.length_cons,Int.pow_succ]
 have hu:=uv_range r
 have ha:=a.toNat_lt
 have hb:=b.toNat_lt
 generalize (256:Int) ^ r.length=p at *
 have hp:0<p:=by omega
 have hsa:signed a=if a.toNat<128 then (a.toNat:Int) else (a.toNat:Int)-256:=rfl
 have e:signed a*(p*256)+((b.toNat:Int)*p+uv r)=(signed a*256+(b.toNat:Int))*p+uv r:=by
  rw[Int.add_mul,Int.mul_assoc (signed a) 256 p,Int.mul_comm 256 p]
  omega
 rw[e]
 generalize hq:signed a*256+(b.toNat:Int)=q
 have key:(-(128*p)<=q*p+uv r/\q*p+uv r<128*p)↔(-128<=q/\q<128):=by
  constructor
  ·rintro ⟨h1,h2⟩
   constructor
   ·rcases Int.lt_or_le q (-128) with h | h
    ·have:q*p<=(-129)*p:=Int.mul_le_mul_of_nonneg_right (by omega) (by omega)
     omega
    ·exact h
   ·rcases Int.lt_or_le q 128 with h | h
    ·exact h
    ·have:128*p<=q*p:=Int.mul_le_mul_of_nonneg_right h (by omega)
     omega
  ·rintro ⟨h1,h2⟩
   have h3:(-128)*p<=q*p:=Int.mul_le_mul_of_nonneg_right h1 (by omega)
   have h4:q*p<=127*p:=Int.mul_le_mul_of_nonneg_right (by omega) (by omega)
   omega
 rw[key]
 simp only[longer,Bool.or_eq_true,Bool.and_eq_true,beq_iff_eq,decide_eq_true_eq]
 split at hsa<;>omega
def bei (k:Nat) (n:Int):List UInt8:=(List.range k).map fun i=>UInt8.ofNat (n/2 ^ (8*(k-1-i)) % 256).toNat
theorem byte_eq {x y:UInt8} (h:c8 x=c8 y):x=y:=by
 simp only[c8,Value.int.injEq,true_and] at h
 exact UInt8.toNat_inj.1 (by omega)
theorem be_bei (k:Nat) (n:Int) (h8:k<=8):be k (IntKind.u64.wrap n).toNat=bei k n:=by
 unfold be bei
 apply List.map_congr_left
 intro i hi
 have hik:i<k:=List.mem_range.1 hi
 apply byte_eq
 rw[c8_int n (k-1-i) (by omega),c8_ofNat,Int.toNat_of_nonneg (by omega)]
 congr 1
 omega
theorem bei_succ (k:Nat) (n:Int):bei (k+1) n=bei k (n/256)++[UInt8.ofNat (n % 256).toNat]:=by
 unfold bei
 rw[List.range_succ,List.map_append]
 congr 1
 ·apply List.map_congr_left
  intro i hi
  have hik:i<k:=List.mem_range.1 hi
  congr 3
  rw[show 8*(k+1-1-i)=8+8*(k-1-i) by omega,Int.pow_add,<-Int.ediv_ediv_of_nonneg (by decide)]
  rfl
 ·simp
theorem bei_sv (l:List UInt8):∀(m:List UInt8),m.reverse=l->m≠[]->bei m.length (sv m)=m:=by
 induction l with
 | nil=>intro m hm h;exact absurd (List.reverse_eq_nil_iff.1 hm) h
 | cons c r ih=>
  intro m hm _
  have e:m=r.reverse++[c]:=by
   rw[<-List.reverse_reverse m,hm]
   simp
  subst e
  have hc:=c.toNat_lt
  rw[List.length_append,List.length_singleton,bei_succ]
  by_cases hr:r.reverse=[]
  ·rw [hr]
   simp only[List.nil_append,List.length_nil]
   have:sv [c] % 256=(c.toNat:Int):=by
    simp only[sv,List.foldl_nil,signed]
    split<;>omega
   rw[this]
   simp[bei]
  ·rw [sv_snoc _ _ hr]
   have h1:(sv r.reverse*256+(c.toNat:Int))/256=sv r.reverse:=by omega
   have h2:(sv r.reverse*256+(c.toNat:Int)) % 256=(c.toNat:Int):=by omega
   rw[h1,h2,ih r.reverse (List.reverse_reverse r) hr]
   simp
theorem intOfs_length (n:Int):(intOfs n).length=isize n:=be_length _ _
theorem intOfs_sv (l:List UInt8) (h1:1<=l.length) (h8:l.length<=8):intOfs (sv l)=l↔longer l=false:=by
 have hne:l≠[]:=by intro e;subst e;simp at h1
 have hr:=sv_i64 l h8
 have hs:=sv_range l hne
 have hle:isize (sv l)<=l.length:=(isize_iff (sv l) l.length h1 h8 hr.1 hr.2).2 hs
 have hi:=isize_le (sv l)
 constructor
 ·intro h
  have hlen:isize (sv l)=l.length:=by rw[<-intOfs_length,h]
  match l,h1,h8,hr,hlen,hle with
  | [a],_,_,_,_,_=>rfl
  | a::b::r,_,h8,hr,hlen,_=>
   rw[Bool.eq_false_iff]
   intro hl
   have h2:=(longer_iff a b r).1 hl
   have h3:=(isize_iff (sv (a::b::r)) (r.length+1) (by omega) (by simp at h8;omega) hr.1 hr.2).2 (by simpa using h2)
   simp at hlen
   omega
 ·intro h
  have hlen:isize (sv l)=l.length:=by
   match l,h1,h8,hr,hle,hi,h with
   | [a],_,_,_,hle,hi,_=>simp at hle ⊢;omega
   | a::b::r,_,h8,hr,hle,_,h=>
    rcases Nat.lt_or_ge (isize (sv (a::b::r))) (r.length+2) with h3 | h3
    ·have h4:=(isize_iff (sv (a::b::r)) (r.length+1) (by omega) (by simp at h8;omega) hr.1 hr.2).1 (by omega)
     have h5:=(longer_iff a b r).2 (by simpa using h4)
     rw[h5] at h
     cases h
    ·simp at hle ⊢
     omega
  unfold intOfs
  rw[hlen,be_bei _ _ h8,bei_sv _ l rfl hne]
def toInt (l:List UInt8):Int × Int:=if 1<=l.length/\l.length<=8/\longer l=false then (sv l,0) else (0,2)
end Go.Proofs.YtcpjmgfloimfhaaGreat.Ber
namespace Go.Proofs.YtcpjmgfloimfhaaGreat.Ber
open Go.RowKit
theorem lng_any (w:World) (B:Nat) (A:Option Addr) (n c:Nat) (l:List UInt8) (h:Has w B 1 A n (bys l)) (_hc:n<=c) (_hm:c<=maxLen):
  Calls Tryz.prog 151 #[.slice A n c] w fun e w'=>e=.returned (.bool (longer l))/\w=w':=by
 have hn:l.length=n:=by simpa[bys] using h.1
 unfold maxLen at _hm
 by_cases h2:n<2
 ·have e:longer l=false:=by
   match l,hn with
   | [],_=>rfl
   | [a],_=>rfl
   | a::b::r,hn=>simp at hn;omega
  rw[e]
  clear e h hn
  go_enter Tryz.func151,Tryz.ntmps151
  go_wp2
  go_ret
  exact⟨rfl,rfl⟩
 ·obtain ⟨g,o,rfl,_,hcell⟩:=h.lies (by rw[bys_length];omega)
  obtain⟨a,b,r,rfl⟩:∃a b r,l=a::b::r:=by
   match l,hn with
   | [],hn=>simp at hn;omega
   | [a],hn=>simp at hn;omega
   | a::b::r,_=>exact⟨a,b,r,rfl⟩
  ·have c0:=hcell 0 (c8 a) rfl
   have c1:=hcell 1 (c8 b) rfl
   simp only[c8,Nat.add_zero] at c0 c1
   have ha:=a.toNat_lt
   have hb:=b.toNat_lt
   have e:longer (a::b::r)=((a.toNat==0&&decide (b.toNat<128))||(a.toNat==255&&decide (128<=b.toNat))):=rfl
   rw[e]
   clear e h hcell hn
   generalize a.toNat=x at *
   generalize b.toNat=y at *
   by_cases h0:x=0
   ·subst h0
    by_cases hy:y<128
    all_goals
     go_enter Tryz.func151,Tryz.ntmps151
     go_wp2
     go_ret
     refine⟨?_,rfl⟩
     first | (simp;done) | (simp;omega)
   ·have h0':((x:Int)==0)=false:=by simp;omega
    by_cases h9:x=255
    ·subst h9
     by_cases hy:y<128
     all_goals
      go_enter Tryz.func151,Tryz.ntmps151
      go_wp2
      go_ret
      refine⟨?_,rfl⟩
      first | (simp;done) | (simp;omega)
    ·have h9':((x:Int)==255)=false:=by simp;omega
     go_enter Tryz.func151,Tryz.ntmps151
     go_wp2
     go_ret
     refine⟨?_,rfl⟩
     simp[h0,h9]
theorem or_low (s y:Int) (h0:0<=y) (h1:y<256) (h2: -36028797018963968<=s) (h3:s<36028797018963968):bits .or .i64 (s*256) y=s*256+y:=by
 show IntKind.i64.wrap ((BitVec.ofInt 64 (s*256)||| BitVec.ofInt 64 y).toNat:Int)=_
 have hz:BitVec.ofInt 64 (s*256)&&& BitVec.ofInt 64 y=0#64:=by
  have e1:BitVec.ofInt 64 (s*256)=BitVec.ofInt 64 s<<<8:=by
   rw[BitVec.ofInt_mul,BitVec.shiftLeft_eq_mul_twoPow]
   rfl
  obtain⟨m,rfl⟩:=Int.eq_ofNat_of_zero_le h0
  rw[e1,BitVec.ofInt_natCast]
  apply BitVec.eq_of_getLsbD_eq
  intro i hi
  rw[BitVec.getLsbD_and,BitVec.getLsbD_shiftLeft,BitVec.getLsbD_ofNat]
  by_cases h8:i<8
  ·simp [h8]
  ·have:m.testBit i=false:=Nat.testBit_lt_two_pow (Nat.lt_of_lt_of_le (by omega:m<2 ^ 8) (Nat.pow_le_pow_right (by omega) (by omega)))
   simp[this]
 rw[<-BitVec.add_eq_or_of_and_eq_zero _ _ hz,<-BitVec.ofInt_add]
 simp only[IntKind.wrap,IntKind.bits,IntKind.signed,BitVec.toNat_ofInt]
 simp
 omega
theorem i8_high (x:Nat) (h:¬x<128) (h2:x<256):wrap64 (IntKind.i8.wrap (x:Int))=(x:Int)-256:=by
 have e:IntKind.i8.wrap (x:Int)=(x:Int)-256:=by
  simp[IntKind.wrap,IntKind.bits,IntKind.signed]
  omega
 rw[e]
 exact IntWalk.wrap64_in _ ⟨by omega,by omega⟩
theorem toint_loop (w:World) (g o n c:Nat) (l:List UInt8) (x:Nat) (hx8:x<256) (h1:1<=n) (h8:n<=8) (hc:n<=c) (_hm:c<=maxLen)
  (HL:Hid (∀W:World,W=w->Calls Tryz.prog 151 #[.slice (some ⟨g,o,none⟩) n c] W fun e w'=>e=.returned (.bool false)/\w=w'))
  (HS:Hid (sv (l.take 1)=if x<128 then (x:Int) else (x:Int)-256))
  (HC:Hid (∀k,k+1<n->∃y:Nat,y<256/\w.cell? ⟨g,o+1+k,none⟩=some (.int .u8 (y:Int))/\sv (l.take (k+1+1))=sv (l.take (k+1))*256+(y:Int)/\ -36028797018963968<=sv (l.take (k+1))/\sv (l.take (k+1))<36028797018963968))
  (HE:Hid (sv (l.take n)=sv l))
  (c0:w.cell? ⟨g,o,none⟩=some (.int .u8 (x:Int))):
  Calls Tryz.prog 127 #[.slice (some ⟨g,o,none⟩) n c] w fun e w'=>e=.returned (.tuple #[.int .i64 (sv l),.int .i64 0])/\w=w':=by
 unfold maxLen at _hm
 by_cases hx:x<128
 all_goals
  by_cases hc1:c=1
  all_goals
   try subst hc1
   go_enter Tryz.func127,Tryz.ntmps127
   go_wp2_with (go_at_call 151;go_must (refine (HL.out _ rfl).mono ?_;rintro e w' ⟨rfl,rfl⟩))
   go_loop [4,27] (fun a i=>∃k:Nat,k+1<=n/\i=.int .i64 k/\a=.int .i64 (sv (l.take (k+1)))) (fun _ i=>n-(intOf i).toNat)
   case atStart=>
    refine⟨0,h1,rfl,?_⟩
    rw[Nat.zero_add,HS.out]
    first | rw[if_pos hx] | rw[if_neg hx,i8_high x hx hx8]
   case round=>
    obtain⟨k,hk,rfl,rfl⟩:=hrel
    by_cases hlt:k+1<n
    ·obtain ⟨y,hy,hcell,hsv,hs0,hs1⟩:=HC.out k hlt
     have HSV:=hide hsv
     clear hsv
     generalize hs:sv (l.take (k+1))=s at *
     have hk2:(k:Int)<((n-1:Nat):Int):=by omega
     try (exfalso;omega)
     all_goals go_wp2
     all_goals go_round
     all_goals first
      | exact⟨k+1,by omega,by go_num,by rw[HSV.out,or_low s y (by omega) (by omega) hs0 hs1]⟩
      |(simp[intOf];omega)
    ·obtain rfl:k+1=n:=by omega
     have e:=HE.out
     go_wp2
     go_ret2
     exact⟨rfl,rfl⟩
theorem sv_more (l:List UInt8) (k:Nat) (b:UInt8) (hb:l[k+1]?=some b):sv (l.take (k+1+1))=sv (l.take (k+1))*256+(b.toNat:Int):=by
 rw[List.take_add_one,hb]
 have hk:k+1<l.length:=(List.getElem?_eq_some_iff.1 hb).1
 exact sv_snoc _ b (by
  intro e
  have h2:(l.take (k+1)).length=k+1:=by rw[List.length_take];omega
  rw[e] at h2
  simp at h2)
theorem sv_small (l:List UInt8) (k:Nat) (h:k+1<l.length) (h8:l.length<=8): -36028797018963968<=sv (l.take (k+1))/\sv (l.take (k+1))<36028797018963968:=by
 have hlen:(l.take (k+1)).length=k+1:=by rw[List.length_take];omega
 have hr:=sv_range (l.take (k+1)) (by intro e;rw[e] at hlen;simp at hlen)
 rw[hlen,Nat.add_sub_cancel] at hr
 have hp:=pow_grows k (6-k)
 rw[show k+(6-k)=6 by omega] at hp
 simp only[Int.reducePow] at hp
 omega
theorem sv_first (a:UInt8) (r:List UInt8):sv ((a::r).take 1)=if a.toNat<128 then (a.toNat:Int) else (a.toNat:Int)-256:=by
 simp[sv,signed]
theorem sv_cells (w:World) (g o n:Nat) (l:List UInt8) (hn:l.length=n) (h8:n<=8) (hcell:∀j u,(bys l)[j]?=some u->w.cell? ⟨g,o+j,none⟩=some u):
  ∀k,k+1<n->∃y:Nat,y<256/\w.cell? ⟨g,o+1+k,none⟩=some (.int .u8 (y:Int))/\sv (l.take (k+1+1))=sv (l.take (k+1))*256+(y:Int)/\ -36028797018963968<=sv (l.take (k+1))/\sv (l.take (k+1))<36028797018963968:=by
 intro k hk
 have hb:l[k+1]?=some (l[k+1]'(by omega)):=List.getElem?_eq_getElem (by omega)
 have hs:=sv_small l k (by omega) (by omega)
 refine⟨(l[k+1]'(by omega)).toNat,UInt8.toNat_lt _,?_,sv_more l k _ hb,hs.1,hs.2⟩
 have:=hcell (k+1) (c8 (l[k+1]'(by omega))) (by rw[bys,List.getElem?_map,hb];rfl)
 rwa [show o+1+k=o+(k+1) by omega]
theorem toint_no (w:World) (A:Option Addr) (n c:Nat) (hn:n<1\/8<n) (_hm:n<=c) (_hc:c<=maxLen):
  Calls Tryz.prog 127 #[.slice A n c] w fun e w'=>e=.returned (.tuple #[.int .i64 0,.int .i64 2])/\w=w':=by
 unfold maxLen at _hc
 by_cases h1:n<1
 ·go_enter Tryz.func127,Tryz.ntmps127
  go_wp2
  go_ret2
  exact⟨rfl,rfl⟩
 ·have h8:8<n:=by omega
  go_enter Tryz.func127,Tryz.ntmps127
  go_wp2
  go_ret2
  exact⟨rfl,rfl⟩
theorem toint_long (w:World) (A:Option Addr) (n c:Nat) (h1:1<=n) (h8:n<=8)
  (HL:Hid (∀W:World,W=w->Calls Tryz.prog 151 #[.slice A n c] W fun e w'=>e=.returned (.bool true)/\w=w')):
  Calls Tryz.prog 127 #[.slice A n c] w fun e w'=>e=.returned (.tuple #[.int .i64 0,.int .i64 2])/\w=w':=by
 go_enter Tryz.func127,Tryz.ntmps127
 go_wp2_with (go_at_call 151;go_must (refine (HL.out _ rfl).mono ?_;rintro e w' ⟨rfl,rfl⟩))
 go_ret2
 exact⟨rfl,rfl⟩
theorem toint_any (w:World) (B:Nat) (A:Option Addr) (n c:Nat) (l:List UInt8) (h:Has w B 1 A n (bys l)) (hc:n<=c) (hm:c<=maxLen):
  Calls Tryz.prog 127 #[.slice A n c] w fun e w'=>e=.returned (.tuple #[.int .i64 (toInt l).1,.int .i64 (toInt l).2])/\w=w':=by
 have hn:l.length=n:=by simpa[bys] using h.1
 by_cases hs:n<1\/8<n
 ·rw [show toInt l=(0,2) by rw[toInt,if_neg (by omega)]]
  exact toint_no w A n c hs hc hm
 ·have hlng:=lng_any w B A n c l h hc hm
  cases hl:longer l with
  | true=>
   rw[show toInt l=(0,2) by rw[toInt,if_neg (by rw[hl];simp)]]
   rw[hl] at hlng
   exact toint_long w A n c (by omega) (by omega) (hide fun W hW=>by subst hW;exact hlng)
  | false=>
   rw[show toInt l=(sv l,0) by rw[toInt,if_pos ⟨by omega,by omega,hl⟩]]
   rw[hl] at hlng
   obtain⟨g,o,rfl,_,hcell⟩:=h.lies (by rw[bys_length];omega)
   obtain⟨a,r,rfl⟩:∃a r,l=a::r:=by
    cases l with
    | nil=>simp at hn;omega
    | cons a r=>exact⟨a,r,rfl⟩
   have c0:=hcell 0 (c8 a) rfl
   simp only[c8,Nat.add_zero] at c0
   exact toint_loop w g o n c (a::r) a.toNat a.toNat_lt (by omega) (by omega) hc hm (hide fun W hW=>by subst hW;exact hlng) (hide (sv_first a r))
    (hide (sv_cells w g o n _ hn (by omega) hcell)) (hide (by rw[List.take_of_length_le (by omega)])) c0
end Go.Proofs.YtcpjmgfloimfhaaGreat.Ber
namespace Go.Proofs.YtcpjmgfloimfhaaGreat.Ber
open Go.RowKit
theorem len_none (n:Int) (w:World) (h:n<0\/2147483647<n):
  Calls Tryz.prog 100 #[.int .i64 n] w fun e w'=>e=.returned (.slice none 0 0)/\w=w':=by
 by_cases h0:n<0
 ·go_enter Tryz.func100,Tryz.ntmps100
  go_wp2
  go_ret
  exact⟨rfl,rfl⟩
 ·have h1:2147483647<n:=by omega
  go_enter Tryz.func100,Tryz.ntmps100
  go_wp2
  go_ret
  exact⟨rfl,rfl⟩
theorem len_small (n:Int) (w:World) (h0:0<=n) (h1:n<=127):
  Calls Tryz.prog 100 #[.int .i64 n] w fun e w'=>e=.returned (.slice (some ⟨w.heap.size,0,none⟩) 1 1)/\w.alloc (.cells #[.int .u8 n] 5)=w':=by
 go_enter Tryz.func100,Tryz.ntmps100
 go_wp2
 go_ret
 exact⟨rfl,rfl⟩
theorem len_wide_of (N W:Nat) (w:World) (h0:128<=N) (h1:N<=2147483647) (hw1:1<=W) (hw4:W<=4)
  (Hm:Hid (∀k:Nat,1<=k->k<W->(((N:Int)/2 ^ (8*k))!=0)=true)) (Hd:Hid ((((N:Int)/2 ^ (8*W))!=0)=false)):
  Calls Tryz.prog 100 #[.int .i64 N] w fun e w'=>
   ∃v,e=.returned v/\w'.ownsRow w.heap.size 5 1 v (1+W) (bys (UInt8.ofNat (128+W)::be W N))/\Below w.heap.size w w':=by
 obtain⟨i0,hi,hz0,hz1,hz2⟩:=info_parts info8
 go_enter Tryz.func100,Tryz.ntmps100
 go_wp2
 go_loop [3] (fun s=>∃k:Nat,1<=k/\k<=W/\s=.int .i64 k) (fun s=>W-(intOf s).toNat)
 case atStart=>exact⟨1,Nat.le_refl _,hw1,rfl⟩
 case round=>
  obtain⟨k,hk1,hk,rfl⟩:=hrel
  by_cases hlt:k<W
  ·have hd:=Hm.out k hk1 hlt
   go_wp2
   go_round
   case rel=>exact⟨k+1,by omega,by omega,by go_num⟩
   case measure=>simp[intOf];omega
  ·obtain rfl:k=W:=by omega
   have hd:=Hd.out
   go_wp2_with fail
   refine (high_any N k _ hw1 (by omega)).mono ?_
   rintro e w2 ⟨g,rfl,hown2,hb2⟩
   have hbw:Below w.heap.size w w2:=((Below.refl _ _).alloc (Nat.le_refl _) _).trans (hb2.mono (by simp))
   have hown1:w2.ownsRow w.heap.size 5 1 (.slice (some ⟨w.heap.size,0,none⟩) 1 1) 1 (bys [UInt8.ofNat (128+k)]):=by
    have h:=own_lit w #[.int .u8 (128+(k:Int))] 5 1 (by unfold maxLen;omega) rfl
    have e:bys [UInt8.ofNat (128+k)]=[.int .u8 (128+(k:Int))]:=by
     simp only[bys,List.map_cons,List.map_nil,c8_lit (128+k) (by omega)]
     simp
    rw[e]
    exact zAo h hb2
   go_wp2_with (at_builtin;go_must (refine wpList_app _ rfl (.tmp 25) (.tmp 29) _ rfl w.heap.size 5 i0 _ 1 1 Tryz.underlying33 hi hz0 hz1 hz2 rfl (by omega) _ 1 _ rfl hown1 w2.heap.size _ k k (bys (be k N)) rfl (Has.own hown2) (bys_one _) ?c3 ?c4 hbw.size ?_))
   case c3=>unfold maxLen;omega
   case c4=>omega
   intro v' w3 hown3 hg3 _
   have hb3:Below w.heap.size w w3:=hbw.grown hg3 hbw.size (by simp[Value.ownBlock])
   clear hown1 hown2 hb2 hbw hg3
   go_wp2
   go_ret
   exact⟨_,rfl,by simpa[bys] using hown3,hb3⟩
theorem len_any (n:Int) (w:World):
  Calls Tryz.prog 100 #[.int .i64 n] w fun e w'=>
   ∃v,e=.returned v/\w'.ownsRow w.heap.size 5 1 v (lenOf n).length (bys (lenOf n))/\Below w.heap.size w w':=by
 by_cases h:n<0\/2147483647<n
 ·refine (len_none n w h).mono ?_
  rintro e w' ⟨rfl,rfl⟩
  rw[lenOf,if_pos h]
  exact⟨_,rfl,World.ownsRow_nil _ _ _ _,Below.refl _ _⟩
 ·obtain ⟨N,rfl⟩:=Int.eq_ofNat_of_zero_le (show 0<=n by omega)
  rw[lenOf,if_neg h]
  by_cases h1:(N:Int)<128
  ·refine (len_small N w (by omega) (by omega)).mono ?_
   rintro e w' ⟨rfl,rfl⟩
   rw[if_pos h1]
   refine⟨_,rfl,?_,(Below.refl _ _).alloc (Nat.le_refl _) _⟩
   have:=own_lit w #[.int .u8 N] 5 1 (by unfold maxLen;omega) rfl
   simpa[bys,c8_lit N (by omega)] using this
  ·rw [if_neg h1]
   have hw:=wide_le N
   refine (len_wide_of N (wide N) w (by omega) (by omega) hw.1 hw.2 (hide fun k hk hlt=>?_) (hide ?_)).mono ?_
   ·have:=wide_more N k (by omega) hk hlt
    rw[bne_iff_ne]
    intro hh
    exact this (by exact_mod_cast hh)
   ·have:=wide_done N (by omega)
    rw[bne_eq_false_iff_eq]
    exact_mod_cast this
   ·rintro e w' ⟨v,rfl,hown,hb⟩
    refine⟨v,rfl,?_,hb⟩
    simpa[be_length,Nat.add_comm] using hown
end Go.Proofs.YtcpjmgfloimfhaaGreat.Ber
namespace Go.Proofs.YtcpjmgfloimfhaaGreat.Ber
open Go.RowKit
def fieldOf (tag:UInt8) (l:List UInt8):List UInt8:=tag::(lenOf (l.length:Int)++l)
theorem lenOf_le (n:Int):(lenOf n).length<=5:=by
 unfold lenOf
 split
 ·simp
 ·split
  ·simp
  ·have:=wide_le n.toNat
   simp[be_length]
   omega
theorem fieldOf_length (tag:UInt8) (l:List UInt8):(fieldOf tag l).length=1+(lenOf (l.length:Int)).length+l.length:=by
 simp[fieldOf]
 omega
theorem field_of (tag:UInt8) (L l:List UInt8) (k:Int) (w:World) (B:Nat) (A:Option Addr) (c:Nat) (h:Has w B 1 A l.length (bys l)) (hB:B<=w.heap.size) (hn:l.length<=140737488351232) (hL:L.length<=5)
  (HX:Hid (Value.int .u8 k=c8 tag))
  (HLN:Hid (∀w:World,Calls Tryz.prog 100 #[.int .i64 (l.length:Int)] w fun e w'=>∃v,e=.returned v/\w'.ownsRow w.heap.size 5 1 v L.length (bys L)/\Below w.heap.size w w')):
  Calls Tryz.prog 62 #[.int .u8 k,.slice A l.length c] w fun e w'=>
   ∃v,e=.returned v/\w'.ownsRow w.heap.size 5 1 v (1+L.length+l.length) (bys ([tag]++L++l))/\Below w.heap.size w w':=by
 obtain⟨i0,hi,hz0,hz1,hz2⟩:=info_parts info8
 go_enter Tryz.func62,Tryz.ntmps62
 go_wp2_with fail
 refine (HLN.out _).mono ?_
 rintro e w1 ⟨v1,rfl,hown1,hb1⟩
 obtain⟨A1,c1,rfl,_,hH1⟩:=own_form hown1
 have hs1:=hb1.size
 go_wp2_with (at_make;go_must (refine wpList_make_own _ rfl _ _ 33 rfl w1.heap.size 5 i0 _ 1 Tryz.underlying33 hi hz0 hz1 .i64 .i64 _ (1+L.length+l.length) rfl rfl (by simp) (by rw[hz2];omega) (by unfold maxLen;omega) (Nat.le_refl _) ?_))
 intro w2 hown2 hg2
 have hb2:Below w1.heap.size w1 w2:=(Below.refl _ _).grown hg2 (Nat.le_refl _) (by simp)
 clear hg2 hown1
 have hH2:Has (w2.alloc (.cells #[.int .u8 k] 5)) (w2.heap.size+1) 1 (some ⟨w2.heap.size,0,none⟩) 1 (bys [tag]):=by
  have:=has_one w2 (.int .u8 k) 5
  rw[HX.out] at this ⊢
  exact this
 have hb3:=hb2.alloc hb2.size (.cells #[.int .u8 k] 5)
 have hown3:=hown2.alloc (.cells #[.int .u8 k] 5)
 have hs3:=hb3.size
 clear hown2 hb2
 go_wp2_with (at_builtin;go_must (refine app8 _ rfl (.tmp 17) (.tmp 19) rfl w1.heap.size _ 0 [] rfl hown3 _ _ 1 1 [tag] rfl hH2 (by omega) hs3 ?_))
 intro v4 w4 hown4 hb34 _
 have hb4:=hb3.trans hb34
 have hs4:=hb4.size
 have hH5:=hH1.below hb4
 clear hown3 hb3 hs3 hH2 hb34
 go_wp2_with (at_builtin;go_must (refine app8 _ rfl (.tmp 21) (.tmp 22) rfl w1.heap.size _ _ _ rfl hown4 _ _ L.length c1 L rfl hH5 (by omega) hs4 ?_))
 intro v5 w5 hown5 hb45 _
 have hb5:=hb4.trans hb45
 have hs5:=hb5.size
 have hH6:=h.below ((hb1.mono hB).trans (hb5.mono (Nat.le_trans hB hs1)))
 clear hown4 hb4 hs4 hH5 hb45
 go_wp2_with (at_builtin;go_must (refine app8 _ rfl (.tmp 24) (.tmp 25) rfl w1.heap.size _ _ _ rfl hown5 _ _ l.length c l rfl hH6 (by omega) hs5 ?_))
 intro v6 w6 hown6 hb56 _
 have hb6:=hb5.trans hb56
 clear hown5 hb5 hs5 hH6 hb56 hH1
 go_wp2
 go_ret
 refine⟨_,rfl,zAg ?_ hs1,hb1.trans (hb6.mono hs1)⟩
 simpa using hown6
theorem field_any (tag:UInt8) (w:World) (B:Nat) (A:Option Addr) (n c:Nat) (l:List UInt8) (h:Has w B 1 A n (bys l)) (hB:B<=w.heap.size) (hn:n<=140737488351232):
  Calls Tryz.prog 62 #[c8 tag,.slice A n c] w fun e w'=>
   ∃v,e=.returned v/\w'.ownsRow w.heap.size 5 1 v (fieldOf tag l).length (bys (fieldOf tag l))/\Below w.heap.size w w':=by
 obtain rfl:l.length=n:=by simpa[bys] using h.1
 rw[fieldOf_length]
 exact field_of tag (lenOf (l.length:Int)) l (tag.toNat:Int) w B A c h hB hn (lenOf_le _) (hide rfl) (hide (len_any _))
end Go.Proofs.YtcpjmgfloimfhaaGreat.Ber
namespace Go.Proofs.YtcpjmgfloimfhaaGreat.Ber
open Go.RowKit
theorem own_form' {w:World} {base:Nat} {e:TypeId} {v:Value} {n:Nat} {xs:List Value} (h:w.ownsRow base e 1 v n xs):∃A c,v=.slice A n c/\n<=c/\c<=maxLen/\Has w w.heap.size 1 A n xs:=by
 rcases h.2 with⟨rfl,rfl⟩ | ⟨g,cap,cur,rfl,_,_,hnc,hm,_⟩
 ·exact ⟨none,0,rfl,Nat.le_refl _,Nat.zero_le _,Has.own h⟩
 ·exact ⟨_,cap,rfl,hnc,hm,Has.own h⟩
end Go.Proofs.YtcpjmgfloimfhaaGreat.Ber
