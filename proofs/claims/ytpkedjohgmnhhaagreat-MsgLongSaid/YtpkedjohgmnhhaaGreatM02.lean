/- Several texts in one: BerIntMath, BerToInt, BerHead. By an AI agent. -/
import Derived.Test.YtpkedjohgmnhhaaGreatM01
set_option maxRecDepth 100000
set_option maxHeartbeats 1600000
namespace Go.Proofs.YtpkedjohgmnhhaaGreat.Ber
open Go.RowKit
def signed (b:UInt8):Int:=if b.toNat<128 then b.toNat else (b.toNat:Int)-256
def sv:List UInt8→Int
 | []=>0
 | b::r=>r.foldl (fun n c=>n*256+(c.toNat:Int)) (signed b)
theorem sv_snoc (l:List UInt8) (c:UInt8) (h:l≠[]):sv (l++[c])=sv l*256+(c.toNat:Int):=by
 cases l with
 | nil=>exact absurd rfl h
 | cons b r=>simp[sv,List.foldl_append]
def uv (l:List UInt8):Int:=l.foldl (fun n c=>n*256+(c.toNat:Int)) 0
theorem foldl_from (r:List UInt8):∀n:Int,r.foldl (fun n c=>n*256+(c.toNat:Int)) n=n*256 ^ r.length+uv r:=by
 induction r with
 | nil=>intro n;simp[uv]
 | cons c r ih=>
  intro n
  rw[uv,List.foldl_cons,List.foldl_cons,ih,ih (0*256+_),List.length_cons,Int.pow_succ,Int.add_mul]
  simp only[Int.zero_mul,Int.zero_add]
  rw[show n*256*256 ^ r.length=n*(256 ^ r.length*256) by rw[Int.mul_assoc,Int.mul_comm 256]]
  omega
theorem uv_cons (c:UInt8) (r:List UInt8):uv (c::r)=(c.toNat:Int)*256 ^ r.length+uv r:=by
 rw[uv,List.foldl_cons,foldl_from]
 simp
theorem sv_cons (c:UInt8) (r:List UInt8):sv (c::r)=signed c*256 ^ r.length+uv r:=foldl_from r _
theorem uv_range (r:List UInt8):0≤uv r∧uv r<256 ^ r.length:=by
 induction r with
 | nil=>simp[uv]
 | cons c r ih=>
  rw[uv_cons,List.length_cons,Int.pow_succ]
  have hc:=c.toNat_lt
  have hp:(0:Int)<256 ^ r.length:=Int.pow_pos (by omega)
  have h1:0≤(c.toNat:Int)*256 ^ r.length:=Int.mul_nonneg (by omega) (by omega)
  have h2:(c.toNat:Int)*256 ^ r.length≤255*256 ^ r.length:=Int.mul_le_mul_of_nonneg_right (by omega) (by omega)
  constructor
  ·omega
  ·rw [Int.mul_comm (256 ^ r.length) 256]
   omega
def longer:List UInt8→Bool
 | a::b::_=>(a.toNat==0&&decide (b.toNat<128))||(a.toNat==255&&decide (128≤b.toNat))
 | _=>false
theorem isize_iff (n:Int) (j:Nat) (h1:1≤j) (h8:j≤8) (h0: -9223372036854775808≤n) (h9:n≤9223372036854775807):isize n≤j↔ -(128*256 ^ (j-1))≤n∧n<128*256 ^ (j-1):=by
 have hc:j=1∨j=2∨j=3∨j=4∨j=5∨j=6∨j=7∨j=8:=by omega
 unfold isize
 rcases hc with rfl | rfl | rfl | rfl | rfl | rfl | rfl | rfl<;>simp only[Nat.reduceSub,Int.reducePow,Int.reduceMul,Int.reduceNeg]<;>
  (repeat' split)<;>omega
theorem sv_range (l:List UInt8) (h:l≠[]): -(128*256 ^ (l.length-1))≤sv l∧sv l<128*256 ^ (l.length-1):=by
 cases l with
 | nil=>exact absurd rfl h
 | cons a r=>
  rw[sv_cons,List.length_cons,Nat.add_sub_cancel]
  have hu:=uv_range r
  have ha:=a.toNat_lt
  have hs: -128≤signed a∧signed a≤127:=by
   unfold signed
   split<;>omega
  have h1:(-128)*256 ^ r.length≤signed a*256 ^ r.length:=Int.mul_le_mul_of_nonneg_right hs.1 (by omega)
  have h2:signed a*256 ^ r.length≤127*256 ^ r.length:=Int.mul_le_mul_of_nonneg_right hs.2 (by omega)
  omega
theorem pow_grows (m:Nat):∀d:Nat,(256:Int) ^ m≤256 ^ (m+d)
 | 0=>Int.le_refl _
 | d+1=>by
  have h:=pow_grows m d
  have hp:(0:Int)<256 ^ (m+d):=Int.pow_pos (by omega)
  rw[←Nat.add_assoc,Int.pow_succ]
  omega
theorem sv_i64 (l:List UInt8) (h8:l.length≤8): -9223372036854775808≤sv l∧sv l≤9223372036854775807:=by
 rcases Nat.eq_zero_or_pos l.length with h0 | h0
 ·obtain rfl:=List.eq_nil_of_length_eq_zero h0
  simp[sv]
 ·have h:=sv_range l (by intro e;subst e;simp at h0)
  have hp:(256:Int) ^ (l.length-1)≤256 ^ 7:=by
   have:=pow_grows (l.length-1) (7-(l.length-1))
   rwa [show l.length-1+(7-(l.length-1))=7 by omega] at this
  simp only[Int.reducePow] at hp
  omega
theorem longer_iff (a b:UInt8) (r:List UInt8):longer (a::b::r)=true↔ -(128*256 ^ r.length)≤sv (a::b::r)∧sv (a::b::r)<128*256 ^ r.length:=by
 rw[sv_cons,uv_cons,List.length_cons,Int.pow_succ]
 have hu:=uv_range r
 have ha:=a.toNat_lt
 have hb:=b.toNat_lt
 generalize (256:Int) ^ r.length=p at *
 have hp:0<p:=by omega
 have hsa:signed a=if a.toNat<128 then (a.toNat:Int) else (a.toNat:Int)-256:=rfl
 have e:signed a*(p*256)+((b.toNat:Int)*p+uv r)=(signed a*256+(b.toNat:Int))*p+uv r:=by
  rw[Int.add_mul,Int.mul_assoc (signed a) 256 p,Int.mul_comm 256 p]
  omega
 rw[e]
 generalize hq:signed a*256+(b.toNat:Int)=q
 have key:(-(128*p)≤q*p+uv r∧q*p+uv r<128*p)↔(-128≤q∧q<128):=by
  constructor
  ·rintro ⟨h1,h2⟩
   constructor
   ·rcases Int.lt_or_le q (-128) with h | h
    ·have:q*p≤(-129)*p:=Int.mul_le_mul_of_nonneg_right (by omega) (by omega)
     omega
    ·exact h
   ·rcases Int.lt_or_le q 128 with h | h
    ·exact h
    ·have:128*p≤q*p:=Int.mul_le_mul_of_nonneg_right h (by omega)
     omega
  ·rintro ⟨h1,h2⟩
   have h3:(-128)*p≤q*p:=Int.mul_le_mul_of_nonneg_right h1 (by omega)
   have h4:q*p≤127*p:=Int.mul_le_mul_of_nonneg_right (by omega) (by omega)
   omega
 rw[key]
 simp only[longer,Bool.or_eq_true,Bool.and_eq_true,beq_iff_eq,decide_eq_true_eq]
 split at hsa<;>omega
def bei (k:Nat) (n:Int):List UInt8:=(List.range k).map fun i=>UInt8.ofNat (n/2 ^ (8*(k-1-i)) % 256).toNat
theorem byte_eq {x y:UInt8} (h:c8 x=c8 y):x=y:=by
 simp only[c8,Value.int.injEq,true_and] at h
 exact UInt8.toNat_inj.1 (by omega)
theorem be_bei (k:Nat) (n:Int) (h8:k≤8):be k (IntKind.u64.wrap n).toNat=bei k n:=by
 unfold be bei
 apply List.map_congr_left
 intro i hi
 have hik:i<k:=List.mem_range.1 hi
 apply byte_eq
 rw[c8_int n (k-1-i) (by omega),c8_ofNat,Int.toNat_of_nonneg (by omega)]
 congr 1
 omega
theorem bei_succ (k:Nat) (n:Int):bei (k+1) n=bei k (n/256)++[UInt8.ofNat (n % 256).toNat]:=by
 unfold bei
 rw[List.range_succ,List.map_append]
 congr 1
 ·apply List.map_congr_left
  intro i hi
  have hik:i<k:=List.mem_range.1 hi
  congr 3
  rw[show 8*(k+1-1-i)=8+8*(k-1-i) by omega,Int.pow_add,←Int.ediv_ediv_of_nonneg (by decide)]
  rfl
 ·simp
theorem bei_length (k:Nat) (n:Int):(bei k n).length=k:=by simp[bei]
theorem bei_sv (l:List UInt8):∀(m:List UInt8),m.reverse=l→m≠[]→bei m.length (sv m)=m:=by
 induction l with
 | nil=>intro m hm h;exact absurd (List.reverse_eq_nil_iff.1 hm) h
 | cons c r ih=>
  intro m hm _
  have e:m=r.reverse++[c]:=by
   rw[←List.reverse_reverse m,hm]
   simp
  subst e
  have hc:=c.toNat_lt
  rw[List.length_append,List.length_singleton,bei_succ]
  by_cases hr:r.reverse=[]
  ·rw [hr]
   simp only[List.nil_append,List.length_nil]
   have:sv [c] % 256=(c.toNat:Int):=by
    simp only[sv,List.foldl_nil,signed]
    split<;>omega
   rw[this]
   simp[bei]
  ·rw [sv_snoc _ _ hr]
   have h1:(sv r.reverse*256+(c.toNat:Int))/256=sv r.reverse:=by omega
   have h2:(sv r.reverse*256+(c.toNat:Int)) % 256=(c.toNat:Int):=by omega
   rw[h1,h2,ih r.reverse (List.reverse_reverse r) hr]
   simp
theorem sv_bei (k:Nat):∀n:Int,1≤k→ -(128*256 ^ (k-1))≤n→n<128*256 ^ (k-1)→sv (bei k n)=n:=by
 induction k with
 | zero=>intro n h;omega
 | succ k ih=>
  intro n _ h1 h2
  rw[bei_succ]
  rcases Nat.eq_zero_or_pos k with h0 | h0
  ·subst h0
   simp only[Nat.zero_add,Nat.sub_self,Int.pow_zero,Int.mul_one] at h1 h2
   simp only[bei,List.range_zero,List.map_nil,List.nil_append,sv,List.foldl_nil,signed]
   rw[UInt8.toNat_ofNat',Nat.mod_eq_of_lt (by omega)]
   split<;>omega
  ·have hne:bei k (n/256)≠[]:=by
    intro e
    have:=bei_length k (n/256)
    rw[e] at this
    simp at this
    omega
   have hp:(256:Int) ^ (k+1-1)=256 ^ (k-1)*256:=by
    rw[←Int.pow_succ]
    congr 1
    omega
   rw[hp] at h1 h2
   rw[sv_snoc _ _ hne,ih (n/256) h0 (by omega) (by omega),UInt8.toNat_ofNat',Nat.mod_eq_of_lt (by omega)]
   omega
theorem sv_intOfs (n:Int) (h0: -9223372036854775808≤n) (h1:n≤9223372036854775807):sv (intOfs n)=n:=by
 have hi:=isize_le n
 unfold intOfs
 rw[be_bei _ _ hi.2]
 have h:=(isize_iff n (isize n) hi.1 hi.2 h0 h1).1 (Nat.le_refl _)
 exact sv_bei _ n hi.1 h.1 h.2
theorem intOfs_length (n:Int):(intOfs n).length=isize n:=be_length _ _
theorem intOfs_sv (l:List UInt8) (h1:1≤l.length) (h8:l.length≤8):intOfs (sv l)=l↔longer l=false:=by
 have hne:l≠[]:=by intro e;subst e;simp at h1
 have hr:=sv_i64 l h8
 have hs:=sv_range l hne
 have hle:isize (sv l)≤l.length:=(isize_iff (sv l) l.length h1 h8 hr.1 hr.2).2 hs
 have hi:=isize_le (sv l)
 constructor
 ·intro h
  have hlen:isize (sv l)=l.length:=by rw[←intOfs_length,h]
  match l,h1,h8,hr,hlen,hle with
  | [a],_,_,_,_,_=>rfl
  | a::b::r,_,h8,hr,hlen,_=>
   rw[Bool.eq_false_iff]
   intro hl
   have h2:=(longer_iff a b r).1 hl
   have h3:=(isize_iff (sv (a::b::r)) (r.length+1) (by omega) (by simp at h8;omega) hr.1 hr.2).2 (by simpa using h2)
   simp at hlen
   omega
 ·intro h
  have hlen:isize (sv l)=l.length:=by
   match l,h1,h8,hr,hle,hi,h with
   | [a],_,_,_,hle,hi,_=>simp at hle ⊢;omega
   | a::b::r,_,h8,hr,hle,_,h=>
    rcases Nat.lt_or_ge (isize (sv (a::b::r))) (r.length+2) with h3 | h3
    ·have h4:=(isize_iff (sv (a::b::r)) (r.length+1) (by omega) (by simp at h8;omega) hr.1 hr.2).1 (by omega)
     have h5:=(longer_iff a b r).2 (by simpa using h4)
     rw[h5] at h
     cases h
    ·simp at hle ⊢
     omega
  unfold intOfs
  rw[hlen,be_bei _ _ h8,bei_sv _ l rfl hne]
def toInt (l:List UInt8):Int × Int:=if 1≤l.length∧l.length≤8∧longer l=false then (sv l,0) else (0,2)
theorem toInt_intOfs (n:Int) (h0: -9223372036854775808≤n) (h1:n≤9223372036854775807):toInt (intOfs n)=(n,0):=by
 have hi:=isize_le n
 have hl:=intOfs_length n
 have hs:=sv_intOfs n h0 h1
 unfold toInt
 rw[if_pos ⟨by omega,by omega,(intOfs_sv (intOfs n) (by omega) (by omega)).1 (by rw[hs])⟩,hs]
end Go.Proofs.YtpkedjohgmnhhaaGreat.Ber
namespace Go.Proofs.YtpkedjohgmnhhaaGreat.Ber
open Go.RowKit
theorem lng_any (w:World) (B:Nat) (A:Option Addr) (n c:Nat) (l:List UInt8) (h:Has w B 1 A n (bys l)) (_hc:n≤c) (_hm:c≤maxLen):
  Calls Tryz.prog 151 #[.slice A n c] w fun e w'=>e=.returned (.bool (longer l))∧w=w':=by
 have hn:l.length=n:=by simpa[bys] using h.1
 unfold maxLen at _hm
 by_cases h2:n<2
 ·have e:longer l=false:=by
   match l,hn with
   | [],_=>rfl
   | [a],_=>rfl
   | a::b::r,hn=>simp at hn;omega
  rw[e]
  clear e h hn
  go_enter Tryz.func151,Tryz.ntmps151
  go_wp2
  go_ret
  exact⟨rfl,rfl⟩
 ·obtain ⟨g,o,rfl,_,hcell⟩:=h.lies (by rw[bys_length];omega)
  obtain⟨a,b,r,rfl⟩:∃a b r,l=a::b::r:=by
   match l,hn with
   | [],hn=>simp at hn;omega
   | [a],hn=>simp at hn;omega
   | a::b::r,_=>exact⟨a,b,r,rfl⟩
  ·have c0:=hcell 0 (c8 a) rfl
   have c1:=hcell 1 (c8 b) rfl
   simp only[c8,Nat.add_zero] at c0 c1
   have ha:=a.toNat_lt
   have hb:=b.toNat_lt
   have e:longer (a::b::r)=((a.toNat==0&&decide (b.toNat<128))||(a.toNat==255&&decide (128≤b.toNat))):=rfl
   rw[e]
   clear e h hcell hn
   generalize a.toNat=x at *
   generalize b.toNat=y at *
   by_cases h0:x=0
   ·subst h0
    by_cases hy:y<128
    all_goals
     go_enter Tryz.func151,Tryz.ntmps151
     go_wp2
     go_ret
     refine⟨?_,rfl⟩
     first | (simp;done) | (simp;omega)
   ·have h0':((x:Int)==0)=false:=by simp;omega
    by_cases h9:x=255
    ·subst h9
     by_cases hy:y<128
     all_goals
      go_enter Tryz.func151,Tryz.ntmps151
      go_wp2
      go_ret
      refine⟨?_,rfl⟩
      first | (simp;done) | (simp;omega)
    ·have h9':((x:Int)==255)=false:=by simp;omega
     go_enter Tryz.func151,Tryz.ntmps151
     go_wp2
     go_ret
     refine⟨?_,rfl⟩
     simp[h0,h9]
theorem or_low (s y:Int) (h0:0≤y) (h1:y<256) (h2: -36028797018963968≤s) (h3:s<36028797018963968):bits .or .i64 (s*256) y=s*256+y:=by
 show IntKind.i64.wrap ((BitVec.ofInt 64 (s*256)||| BitVec.ofInt 64 y).toNat:Int)=_
 have hz:BitVec.ofInt 64 (s*256)&&& BitVec.ofInt 64 y=0#64:=by
  have e1:BitVec.ofInt 64 (s*256)=BitVec.ofInt 64 s<<<8:=by
   rw[BitVec.ofInt_mul,BitVec.shiftLeft_eq_mul_twoPow]
   rfl
  obtain⟨m,rfl⟩:=Int.eq_ofNat_of_zero_le h0
  rw[e1,BitVec.ofInt_natCast]
  apply BitVec.eq_of_getLsbD_eq
  intro i hi
  rw[BitVec.getLsbD_and,BitVec.getLsbD_shiftLeft,BitVec.getLsbD_ofNat]
  by_cases h8:i<8
  ·simp [h8]
  ·have:m.testBit i=false:=Nat.testBit_lt_two_pow (Nat.lt_of_lt_of_le (by omega:m<2 ^ 8) (Nat.pow_le_pow_right (by omega) (by omega)))
   simp[this]
 rw[←BitVec.add_eq_or_of_and_eq_zero _ _ hz,←BitVec.ofInt_add]
 simp only[IntKind.wrap,IntKind.bits,IntKind.signed,BitVec.toNat_ofInt]
 simp
 omega
theorem i8_high (x:Nat) (h:¬x<128) (h2:x<256):wrap64 (IntKind.i8.wrap (x:Int))=(x:Int)-256:=by
 have e:IntKind.i8.wrap (x:Int)=(x:Int)-256:=by
  simp[IntKind.wrap,IntKind.bits,IntKind.signed]
  omega
 rw[e]
 exact IntWalk.wrap64_in _ ⟨by omega,by omega⟩
theorem toint_loop (w:World) (g o n c:Nat) (l:List UInt8) (x:Nat) (hx8:x<256) (h1:1≤n) (h8:n≤8) (hc:n≤c) (_hm:c≤maxLen)
  (HL:Hid (∀W:World,W=w→Calls Tryz.prog 151 #[.slice (some ⟨g,o,none⟩) n c] W fun e w'=>e=.returned (.bool false)∧w=w'))
  (HS:Hid (sv (l.take 1)=if x<128 then (x:Int) else (x:Int)-256))
  (HC:Hid (∀k,k+1<n→∃y:Nat,y<256∧w.cell? ⟨g,o+1+k,none⟩=some (.int .u8 (y:Int))∧sv (l.take (k+1+1))=sv (l.take (k+1))*256+(y:Int)∧ -36028797018963968≤sv (l.take (k+1))∧sv (l.take (k+1))<36028797018963968))
  (HE:Hid (sv (l.take n)=sv l))
  (c0:w.cell? ⟨g,o,none⟩=some (.int .u8 (x:Int))):
  Calls Tryz.prog 127 #[.slice (some ⟨g,o,none⟩) n c] w fun e w'=>e=.returned (.tuple #[.int .i64 (sv l),.int .i64 0])∧w=w':=by
 unfold maxLen at _hm
 by_cases hx:x<128
 all_goals
  by_cases hc1:c=1
  all_goals
   try subst hc1
   go_enter Tryz.func127,Tryz.ntmps127
   go_wp2_with (go_at_call 151;go_must (refine (HL.out _ rfl).mono ?_;rintro e w' ⟨rfl,rfl⟩))
   go_loop [4,27] (fun a i=>∃k:Nat,k+1≤n∧i=.int .i64 k∧a=.int .i64 (sv (l.take (k+1)))) (fun _ i=>n-(intOf i).toNat)
   case atStart=>
    refine⟨0,h1,rfl,?_⟩
    rw[Nat.zero_add,HS.out]
    first | rw[if_pos hx] | rw[if_neg hx,i8_high x hx hx8]
   case round=>
    obtain⟨k,hk,rfl,rfl⟩:=hrel
    by_cases hlt:k+1<n
    ·obtain ⟨y,hy,hcell,hsv,hs0,hs1⟩:=HC.out k hlt
     have HSV:=hide hsv
     clear hsv
     generalize hs:sv (l.take (k+1))=s at *
     have hk2:(k:Int)<((n-1:Nat):Int):=by omega
     try (exfalso;omega)
     all_goals go_wp2
     all_goals go_round
     all_goals first
      | exact⟨k+1,by omega,by go_num,by rw[HSV.out,or_low s y (by omega) (by omega) hs0 hs1]⟩
      |(simp[intOf];omega)
    ·obtain rfl:k+1=n:=by omega
     have e:=HE.out
     go_wp2
     go_ret2
     exact⟨rfl,rfl⟩
theorem sv_more (l:List UInt8) (k:Nat) (b:UInt8) (hb:l[k+1]?=some b):sv (l.take (k+1+1))=sv (l.take (k+1))*256+(b.toNat:Int):=by
 rw[List.take_add_one,hb]
 have hk:k+1<l.length:=(List.getElem?_eq_some_iff.1 hb).1
 exact sv_snoc _ b (by
  intro e
  have h2:(l.take (k+1)).length=k+1:=by rw[List.length_take];omega
  rw[e] at h2
  simp at h2)
theorem sv_small (l:List UInt8) (k:Nat) (h:k+1<l.length) (h8:l.length≤8): -36028797018963968≤sv (l.take (k+1))∧sv (l.take (k+1))<36028797018963968:=by
 have hlen:(l.take (k+1)).length=k+1:=by rw[List.length_take];omega
 have hr:=sv_range (l.take (k+1)) (by intro e;rw[e] at hlen;simp at hlen)
 rw[hlen,Nat.add_sub_cancel] at hr
 have hp:=pow_grows k (6-k)
 rw[show k+(6-k)=6 by omega] at hp
 simp only[Int.reducePow] at hp
 omega
theorem sv_first (a:UInt8) (r:List UInt8):sv ((a::r).take 1)=if a.toNat<128 then (a.toNat:Int) else (a.toNat:Int)-256:=by
 simp[sv,signed]
theorem sv_cells (w:World) (g o n:Nat) (l:List UInt8) (hn:l.length=n) (h8:n≤8) (hcell:∀j u,(bys l)[j]?=some u→w.cell? ⟨g,o+j,none⟩=some u):
  ∀k,k+1<n→∃y:Nat,y<256∧w.cell? ⟨g,o+1+k,none⟩=some (.int .u8 (y:Int))∧sv (l.take (k+1+1))=sv (l.take (k+1))*256+(y:Int)∧ -36028797018963968≤sv (l.take (k+1))∧sv (l.take (k+1))<36028797018963968:=by
 intro k hk
 have hb:l[k+1]?=some (l[k+1]'(by omega)):=List.getElem?_eq_getElem (by omega)
 have hs:=sv_small l k (by omega) (by omega)
 refine⟨(l[k+1]'(by omega)).toNat,UInt8.toNat_lt _,?_,sv_more l k _ hb,hs.1,hs.2⟩
 have:=hcell (k+1) (c8 (l[k+1]'(by omega))) (by rw[bys,List.getElem?_map,hb];rfl)
 rwa [show o+1+k=o+(k+1) by omega]
theorem toint_no (w:World) (A:Option Addr) (n c:Nat) (hn:n<1∨8<n) (_hm:n≤c) (_hc:c≤maxLen):
  Calls Tryz.prog 127 #[.slice A n c] w fun e w'=>e=.returned (.tuple #[.int .i64 0,.int .i64 2])∧w=w':=by
 unfold maxLen at _hc
 by_cases h1:n<1
 ·go_enter Tryz.func127,Tryz.ntmps127
  go_wp2
  go_ret2
  exact⟨rfl,rfl⟩
 ·have h8:8<n:=by omega
  go_enter Tryz.func127,Tryz.ntmps127
  go_wp2
  go_ret2
  exact⟨rfl,rfl⟩
theorem toint_long (w:World) (A:Option Addr) (n c:Nat) (h1:1≤n) (h8:n≤8)
  (HL:Hid (∀W:World,W=w→Calls Tryz.prog 151 #[.slice A n c] W fun e w'=>e=.returned (.bool true)∧w=w')):
  Calls Tryz.prog 127 #[.slice A n c] w fun e w'=>e=.returned (.tuple #[.int .i64 0,.int .i64 2])∧w=w':=by
 go_enter Tryz.func127,Tryz.ntmps127
 go_wp2_with (go_at_call 151;go_must (refine (HL.out _ rfl).mono ?_;rintro e w' ⟨rfl,rfl⟩))
 go_ret2
 exact⟨rfl,rfl⟩
theorem toint_any (w:World) (B:Nat) (A:Option Addr) (n c:Nat) (l:List UInt8) (h:Has w B 1 A n (bys l)) (hc:n≤c) (hm:c≤maxLen):
  Calls Tryz.prog 127 #[.slice A n c] w fun e w'=>e=.returned (.tuple #[.int .i64 (toInt l).1,.int .i64 (toInt l).2])∧w=w':=by
 have hn:l.length=n:=by simpa[bys] using h.1
 by_cases hs:n<1∨8<n
 ·rw [show toInt l=(0,2) by rw[toInt,if_neg (by omega)]]
  exact toint_no w A n c hs hc hm
 ·have hlng:=lng_any w B A n c l h hc hm
  cases hl:longer l with
  | true=>
   rw[show toInt l=(0,2) by rw[toInt,if_neg (by rw[hl];simp)]]
   rw[hl] at hlng
   exact toint_long w A n c (by omega) (by omega) (hide fun W hW=>by subst hW;exact hlng)
  | false=>
   rw[show toInt l=(sv l,0) by rw[toInt,if_pos ⟨by omega,by omega,hl⟩]]
   rw[hl] at hlng
   obtain⟨g,o,rfl,_,hcell⟩:=h.lies (by rw[bys_length];omega)
   obtain⟨a,r,rfl⟩:∃a r,l=a::r:=by
    cases l with
    | nil=>simp at hn;omega
    | cons a r=>exact⟨a,r,rfl⟩
   have c0:=hcell 0 (c8 a) rfl
   simp only[c8,Nat.add_zero] at c0
   exact toint_loop w g o n c (a::r) a.toNat a.toNat_lt (by omega) (by omega) hc hm (hide fun W hW=>by subst hW;exact hlng) (hide (sv_first a r))
    (hide (sv_cells w g o n _ hn (by omega) hcell)) (hide (by rw[List.take_of_length_le (by omega)])) c0
end Go.Proofs.YtpkedjohgmnhhaaGreat.Ber
namespace Go.Proofs.YtpkedjohgmnhhaaGreat.Ber
open Go.RowKit
def headOf:List UInt8→Nat × Nat × Int
 | []=>(0,0,5)
 | t::r=>if t.toNat % 32=31 then (0,0,2) else if (cutLen r).2.2≠0 then (0,0,(cutLen r).2.2) else (1+(cutLen r).2.1,(cutLen r).1,0)
theorem head_nil (w:World) (A:Option Addr) (c:Nat):
  Calls Tryz.prog 163 #[.slice A 0 c] w fun e w'=>e=.returned (.tuple #[.int .i64 0,.int .i64 0,.int .i64 5])∧Below w.heap.size w w':=by
 go_enter Tryz.func163,Tryz.ntmps163
 go_wp2
 go_ret3
 exact⟨rfl,Below.refl _ _⟩
theorem head_many (w:World) (g o n c x:Nat) (h1:1≤n) (_hc:n≤c) (_hm:c≤maxLen) (hx:(bits .and .u8 (x:Int) 31==31)=true) (c0:w.cell? ⟨g,o,none⟩=some (.int .u8 (x:Int))):
  Calls Tryz.prog 163 #[.slice (some ⟨g,o,none⟩) n c] w fun e w'=>e=.returned (.tuple #[.int .i64 0,.int .i64 0,.int .i64 2])∧Below w.heap.size w w':=by
 unfold maxLen at _hm
 go_enter Tryz.func163,Tryz.ntmps163
 go_wp2
 go_ret3
 exact⟨rfl,Below.refl _ _⟩
theorem head_one (w:World) (g o c x:Nat) (hx:(bits .and .u8 (x:Int) 31==31)=false) (c0:w.cell? ⟨g,o,none⟩=some (.int .u8 (x:Int))):
  Calls Tryz.prog 163 #[.slice (some ⟨g,o,none⟩) 1 c] w fun e w'=>e=.returned (.tuple #[.int .i64 0,.int .i64 0,.int .i64 5])∧Below w.heap.size w w':=by
 go_enter Tryz.func163,Tryz.ntmps163
 go_wp2
 go_ret3
 exact⟨rfl,Below.refl _ _⟩
theorem head_short (w:World) (g o n c x y:Nat) (h1:2≤n) (_hc:n≤c) (_hm:c≤maxLen) (hx:(bits .and .u8 (x:Int) 31==31)=false) (c0:w.cell? ⟨g,o,none⟩=some (.int .u8 (x:Int)))
  (hy:y<128) (c1:w.cell? ⟨g,o+1,none⟩=some (.int .u8 (y:Int))):
  Calls Tryz.prog 163 #[.slice (some ⟨g,o,none⟩) n c] w fun e w'=>e=.returned (.tuple #[.int .i64 2,.int .i64 y,.int .i64 0])∧Below w.heap.size w w':=by
 unfold maxLen at _hm
 go_enter Tryz.func163,Tryz.ntmps163
 go_wp2
 go_quiet (fail)
 go_wp2
 go_ret3
 exact⟨rfl,Below.drewN (Below.refl _ _) _⟩
theorem head_bad (w:World) (g o n c x y:Nat) (h1:2≤n) (_hc:n≤c) (_hm:c≤maxLen) (hx:(bits .and .u8 (x:Int) 31==31)=false) (c0:w.cell? ⟨g,o,none⟩=some (.int .u8 (x:Int)))
  (hy:128≤y) (hy8:y<256) (hb:y=128∨132<y) (c1:w.cell? ⟨g,o+1,none⟩=some (.int .u8 (y:Int))):
  Calls Tryz.prog 163 #[.slice (some ⟨g,o,none⟩) n c] w fun e w'=>e=.returned (.tuple #[.int .i64 0,.int .i64 0,.int .i64 2])∧Below w.heap.size w w':=by
 unfold maxLen at _hm
 rcases hb with h | h
 ·subst h
  go_enter Tryz.func163,Tryz.ntmps163
  go_wp2
  go_ret3
  exact⟨rfl,Below.refl _ _⟩
 ·go_enter Tryz.func163,Tryz.ntmps163
  go_wp2
  go_ret3
  exact⟨rfl,Below.refl _ _⟩
theorem head_lacks (w:World) (g o n c x k:Nat) (h1:2≤n) (_hc:n≤c) (_hm:c≤maxLen) (hx:(bits .and .u8 (x:Int) 31==31)=false) (c0:w.cell? ⟨g,o,none⟩=some (.int .u8 (x:Int)))
  (hk1:1≤k) (hk4:k≤4) (hn:n<2+k) (c1:w.cell? ⟨g,o+1,none⟩=some (.int .u8 (128+k:Int))):
  Calls Tryz.prog 163 #[.slice (some ⟨g,o,none⟩) n c] w fun e w'=>e=.returned (.tuple #[.int .i64 0,.int .i64 0,.int .i64 5])∧Below w.heap.size w w':=by
 unfold maxLen at _hm
 have ek:128+(k:Int)-128=(k:Int):=by omega
 go_enter Tryz.func163,Tryz.ntmps163
 go_wp2
 go_ret3
 exact⟨rfl,Below.refl _ _⟩
theorem head_wide (w:World) (g o n c x k:Nat) (U:Nat→Nat) (v:Nat) (h1:2≤n) (_hc:n≤c) (_hm:c≤maxLen) (hx:(bits .and .u8 (x:Int) 31==31)=false) (c0:w.cell? ⟨g,o,none⟩=some (.int .u8 (x:Int)))
  (hk1:1≤k) (hk4:k≤4) (hn:2+k≤n) (c1:w.cell? ⟨g,o+1,none⟩=some (.int .u8 (128+k:Int)))
  (HU:Hid (U 0=0)) (HV:Hid (U k=v))
  (HC:Hid (∀j,j<k→∃y:Nat,y<256∧w.cell? ⟨g,o+(2+j),none⟩=some (.int .u8 (y:Int))∧U (j+1)=U j*256+y∧U j<16777216)):
  Calls Tryz.prog 163 #[.slice (some ⟨g,o,none⟩) n c] w fun e w'=>e=.returned (.tuple #[.int .i64 (2+k:Int),.int .i64 v,.int .i64 0])∧Below w.heap.size w w':=by
 unfold maxLen at _hm
 have ek:128+(k:Int)-128=(k:Int):=by omega
 go_enter Tryz.func163,Tryz.ntmps163
 go_wp2
 go_loop [6,44] (fun a i=>∃j:Nat,j≤k∧i=.int .i64 j∧a=.int .i64 (U j)) (fun _ i=>k-(intOf i).toNat)
 case atStart=>exact⟨0,Nat.zero_le _,rfl,by rw[HU.out];rfl⟩
 case round=>
  obtain⟨j,hj,rfl,rfl⟩:=hrel
  by_cases hlt:j<k
  ·obtain ⟨y,hy,hcell,hsv,hs0⟩:=HC.out j hlt
   have HSV:=hide hsv
   clear hsv
   generalize U j=s at *
   go_wp2
   go_round
   case rel=>exact⟨j+1,by omega,by go_num,by rw[HSV.out,or_low s y (by omega) (by omega) (by omega) (by omega)];simp⟩
   case measure=>simp[intOf];omega
  ·obtain rfl:j=k:=by omega
   have hv:=HV.out
   subst hv
   go_wp2
   go_ret3
   exact⟨rfl,Below.refl _ _⟩
theorem head_any (w:World) (B:Nat) (A:Option Addr) (n c:Nat) (l:List UInt8) (h:Has w B 1 A n (bys l)) (hc:n≤c) (hm:c≤maxLen):
  Calls Tryz.prog 163 #[.slice A n c] w fun e w'=>e=.returned (.tuple #[.int .i64 ((headOf l).1:Int),.int .i64 ((headOf l).2.1:Int),.int .i64 (headOf l).2.2])∧Below w.heap.size w w':=by
 have hn:l.length=n:=by simpa[bys] using h.1
 match l,hn with
 | [],hn=>
  simp only[List.length_nil] at hn
  subst hn
  exact head_nil w A c
 | [t],hn=>
  simp only[List.length_cons,List.length_nil] at hn
  subst hn
  obtain⟨g,o,rfl,hg,hcell⟩:=h.lies (by rw[bys_length];simp)
  have ht:=t.toNat_lt
  have c0:=hcell 0 (c8 t) rfl
  simp only[c8,Nat.add_zero] at c0
  have ha:=and_31 t.toNat ht
  by_cases h1:t.toNat % 32=31
  ·rw [headOf,if_pos h1]
   exact head_many w g o _ c t.toNat (by omega) hc hm (by rw[ha,h1];rfl) c0
  ·rw [headOf,if_neg h1]
   exact head_one w g o c t.toNat (by rw[ha,beq_eq_false_iff_ne];omega) c0
 | t::f::r,hn=>
  obtain⟨g,o,rfl,hg,hcell⟩:=h.lies (by rw[bys_length];simp)
  have ht:=t.toNat_lt
  have hf:=f.toNat_lt
  have c0:=hcell 0 (c8 t) rfl
  have c1:=hcell 1 (c8 f) rfl
  simp only[c8,Nat.add_zero] at c0 c1
  simp only[List.length_cons] at hn
  have ha:=and_31 t.toNat ht
  by_cases h1:t.toNat % 32=31
  ·rw [headOf,if_pos h1]
   exact head_many w g o _ c t.toNat (by omega) hc hm (by rw[ha,h1];rfl) c0
  ·have hx:(bits .and .u8 (t.toNat:Int) 31==31)=false:=by
    rw[ha,beq_eq_false_iff_ne]
    omega
   rw[headOf,if_neg h1]
   by_cases h2:f.toNat<128
   ·have e1:cutLen (f::r)=(f.toNat,1,0):=by rw[cutLen,if_pos h2]
    rw[e1,if_neg (by simp)]
    exact head_short w g o n c t.toNat f.toNat (by omega) hc hm hx c0 h2 c1
   ·by_cases h3:f.toNat-128<1∨4<f.toNat-128
    ·have e1:cutLen (f::r)=(0,0,2):=by rw[cutLen,if_neg h2,if_pos h3]
     rw[e1,if_pos (by simp)]
     exact head_bad w g o n c t.toNat f.toNat (by omega) hc hm hx c0 (by omega) hf (by omega) c1
    ·obtain ⟨k,hk⟩:∃k,f.toNat=128+k:=⟨f.toNat-128,by omega⟩
     have c2:w.cell? ⟨g,o+1,none⟩=some (.int .u8 (128+k:Int)):=by rw[c1,hk];simp
     by_cases h4:r.length<f.toNat-128
     ·have e1:cutLen (f::r)=(0,0,5):=by rw[cutLen,if_neg h2,if_neg h3,if_pos h4]
      rw[e1,if_pos (by simp)]
      exact head_lacks w g o n c t.toNat k (by omega) hc hm hx c0 (by omega) (by omega) (by omega) c2
     ·have e1:cutLen (f::r)=(un (r.take k),1+k,0):=by
       rw[cutLen,if_neg h2,if_neg h3,if_neg h4,show f.toNat-128=k by omega]
      rw[e1,if_neg (by simp)]
      have:=head_wide w g o n c t.toNat k (fun j=>un (r.take j)) (un (r.take k)) (by omega) hc hm hx c0 (by omega) (by omega) (by omega) c2 (hide rfl) (hide rfl) (hide fun j hj=>?_)
      ·rw [show (((1+(1+k):Nat)):Int)=2+(k:Int) by omega]
       exact this
      ·have hb:r[j]?=some (r[j]'(by omega)):=List.getElem?_eq_getElem (by omega)
       have hr:=un_range (r.take j) j (by rw[List.length_take];omega)
       have hp:256 ^ j≤256 ^ 3:=Nat.pow_le_pow_right (by omega) (by omega)
       refine⟨(r[j]'(by omega)).toNat,UInt8.toNat_lt _,?_,un_snoc r j _ hb,by omega⟩
       have:=hcell (j+2) (c8 (r[j]'(by omega))) (by rw[bys,List.getElem?_map,List.getElem?_cons_succ,List.getElem?_cons_succ,hb];rfl)
       rwa [show o+(2+j)=o+(j+2) by omega]
end Go.Proofs.YtpkedjohgmnhhaaGreat.Ber
