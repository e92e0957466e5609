/- writeFilter. By an AI agent. -/
import Derived.Test.YtcpjmgfloimfhaaGreatLWrP
import Derived.Test.YtcpjmgfloimfhaaGreatM05
import Derived.Test.YtcpjmgfloimfhaaGreatM16
import Derived.Test.YtcpjmgfloimfhaaGreatOpenMsg
set_option linter.unusedSimpArgs false
set_option linter.unusedVariables false
set_option maxRecDepth 100000
set_option maxHeartbeats 32000000
namespace Go.Proofs.YtcpjmgfloimfhaaGreat
open Go.RowKit
mutual
def FT.tiny:FT->Prop
 | .mk k a v f l any ps=>any.length<=5000/\ps.length<=5000/\FT.tinyL ps
def FT.tinyL:List FT->Prop
 | []=>True
 | p::r=>FT.tiny p/\FT.tinyL r
end
theorem FT.tinyL_mem:∀{ps:List FT},FT.tinyL ps->∀p∈ps,p.tiny
 | [],_,p,hp=>by cases hp
 | q::r,h,p,hp=>by
  simp only[FT.tinyL] at h
  rcases List.mem_cons.1 hp with rfl | hp
  ·exact h.1
  ·exact FT.tinyL_mem h.2 p hp
mutual
theorem FT.small_tiny:∀(t:FT) (d n:Int),0<=t.small d n->(t.nodes:Int)<=n-t.small d n/\(n<=60->t.tiny)
 | .mk k a v f l any ps,d,n,h=>by
  simp only[FT.small] at h ⊢
  split at h
  ·omega
  ·rename_i h1
   split at h
   ·omega
   ·rename_i h2
    rw[if_neg h1,if_neg h2]
    have:=FT.smallL_tiny ps (d+1) (n-1) h
    have hl:=FT.nodesL_len ps
    simp only[FT.nodes,FT.tiny]
    exact⟨by omega,fun hn=>⟨by omega,by omega,this.2 (by omega)⟩⟩
theorem FT.smallL_tiny:∀(ps:List FT) (d n:Int),0<=FT.smallL ps d n->(FT.nodesL ps:Int)<=n-FT.smallL ps d n/\(n<=60->FT.tinyL ps)
 | [],d,n,h=>by simp[FT.smallL,FT.nodesL,FT.tinyL]
 | p::r,d,n,h=>by
  simp only[FT.smallL] at h ⊢
  split at h
  ·omega
  ·rename_i h1
   rw[if_neg h1]
   have h2:=FT.smallL_tiny r d (p.small d n) h
   have h3:=FT.small_tiny p d n (by
    rcases Int.lt_or_le (p.small d n) 0 with h4 | h4
    ·exfalso
     cases r with
     | nil=>simp only[FT.smallL] at h;omega
     | cons q r=>simp only[FT.smallL] at h;rw[if_pos h4] at h;omega
    ·exact h4)
   have h5:=FT.nodes_pos p
   simp only[FT.nodesL,FT.tinyL]
   exact⟨by omega,fun hn=>⟨h3.2 hn,h2.2 (by omega)⟩⟩
end
theorem FT.tiny_of_small {t:FT} (h:t.small 0 60≥0):t.tiny:=(FT.small_tiny t 0 60 h).2 (by omega)
theorem SLs.blk {w:World} {h:Nat} {Ls:List (List UInt8)} {us:List Value} {n:Nat} (hB:Blk w h us) (h1:us.length=n) (h0:Ls.length=n)
  (h2:∀(i:Nat) (l:List UInt8),Ls[i]?=some l->∃B c,us[i]?=some (Value.slice B l.length c)/\Has w w.heap.size 1 B l.length (bys l)):SLs w Ls (some ⟨h,0,none⟩) n:=by
 refine⟨h0,us,⟨by omega,.inr ⟨_,rfl,hB.lt,fun j u hu=>?_⟩⟩,h2⟩
 rw[show (⟨h,0,none⟩:Addr).add j=⟨h,j,none⟩ by unfold Addr.add;split<;>simp_all]
 exact hB.cells j u hu
namespace Wr
mutual
def filterW:FT->List UInt8
 | .mk k a v f l an ps=>if k=0\/k=1\/k=2 then Ber.fieldOf (kindTag k) (filtersGo ps []) else if k=4 then Ber.fieldOf 0xa4 (Ber.fieldOf 4 a++piecesW f an l) else if k=7 then Ber.fieldOf 0x87 a else Ber.fieldOf (kindTag k) (Ber.fieldOf 4 a++Ber.fieldOf 4 v)
def filtersGo:List FT->List UInt8->List UInt8
 | [],acc=>acc
 | p::r,acc=>if 16384<acc.length then acc else filtersGo r (acc++filterW p)
end
theorem filtersGo_each:∀(ps:List FT) (acc:List UInt8),filtersGo ps acc=eachGo filterW ps acc
 | [],acc=>by simp[filtersGo,eachGo]
 | p::r,acc=>by rw[filtersGo,eachGo,filtersGo_each r]
theorem field_len (t:UInt8) (c:List UInt8):(Ber.fieldOf t c).length<=c.length+10:=by
 have:=Ber.lenOf_le (c.length:Int);rw[Ber.fieldOf_length];omega
theorem piecesW_len {f l:List UInt8} {an:List (List UInt8)} (hf:f.length<=200) (hl:l.length<=200) (h:∀s∈an,s.length<=200):(piecesW f an l).length<=17500:=by
 have h1:=eachGo_len (f:=Ber.fieldOf 0x81) (K:=210) an [] (fun x hx=>by have:=field_len 0x81 x;have:=h x hx;omega)
 have h2:(optW 0x80 f).length<=210:=by
  unfold optW
  split
  ·simp
  ·have:=field_len 0x80 f;omega
 have h3:(optW 0x82 l).length<=210:=by
  unfold optW
  split
  ·simp
  ·have:=field_len 0x82 l;omega
 simp only[List.length_nil] at h1
 unfold piecesW
 have h4:=field_len 0x30 ((optW 0x80 f++eachGo (Ber.fieldOf 0x81) an [])++optW 0x82 l)
 simp only[List.length_append] at h4
 omega
end Wr
theorem FT.fits_le {a:List UInt8} (h:FT.fits a=true):a.length<=200:=by simp[FT.fits] at h;exact h.2
theorem FT.attrOk_le {a:List UInt8} (h:FT.attrOk a=true):a.length<=40:=by simp[FT.attrOk] at h;exact h.1.1.2
theorem FT.all_parts:∀{ps:List FT},FT.allL ps=true->∀p∈ps,p.all=true
 | [],_,p,hp=>by cases hp
 | q::r,h,p,hp=>by
  simp only[FT.allL,Bool.and_eq_true] at h
  rcases List.mem_cons.1 hp with rfl | hp
  ·exact h.1
  ·exact FT.all_parts h.2 p hp
inductive FWay (k:Int) (a v f l:List UInt8) (an:List (List UInt8)) (ps:List FT):Prop where
 | parts (h:k=0\/k=1\/k=2)
 | pieces (h:k=4) (ha:a.length<=40) (hf:f.length<=200) (hl:l.length<=200) (hs:∀s∈an,s.length<=200)
 | pres (h:k=7) (ha:a.length<=40)
 | two (h:k=3\/k=5\/k=6\/k=8) (ha:a.length<=40) (hv:v.length<=200)
theorem FT.way {k:Int} {a v f l:List UInt8} {an:List (List UInt8)} {ps:List FT} (h:FT.all (.mk k a v f l an ps)=true):FWay k a v f l an ps:=by
 simp only[FT.all,FT.bare,Bool.and_eq_true] at h
 have h1:=h.1
 by_cases k0:k=0\/k=1
 ·exact .parts (by omega)
 by_cases k2:k=2
 ·exact .parts (by omega)
 rw[if_neg k0,if_neg k2] at h1
 by_cases k3:k=3\/k=5\/k=6\/k=8
 ·rw [if_pos k3] at h1
  simp only[Bool.and_eq_true] at h1
  exact .two k3 (FT.attrOk_le h1.1.1.1) (FT.fits_le h1.1.1.2)
 rw[if_neg k3] at h1
 by_cases k7:k=7
 ·rw [if_pos k7] at h1
  simp only[Bool.and_eq_true] at h1
  exact .pres k7 (FT.attrOk_le h1.1.1.1)
 rw[if_neg k7] at h1
 by_cases k4:k=4
 ·rw [if_pos k4] at h1
  simp only[Bool.and_eq_true,List.all_eq_true,decide_eq_true_eq] at h1
  exact .pieces k4 (FT.attrOk_le h1.1.1.1.1.1.2) h1.1.2 h1.2 (fun s hs=>FT.fits_le (h1.1.1.1.1.1.1 s hs))
 rw[if_neg k4] at h1
 cases h1
theorem FT.depth_mem {p:FT}:∀{ps:List FT},p∈ps->p.depth<=FT.depthL ps
 | q::r,h=>by
  simp only[FT.depthL]
  rcases List.mem_cons.1 h with rfl | h
  ·omega
  ·have:=FT.depth_mem h;omega
open Wr in
theorem filterW_len (t:FT):t.all=true->(filterW t).length<=30000*t.depth:=by
 induction t using FT.induct
 rename_i k a v f l an ps ih
 intro h
 have hw:=FT.way h
 simp only[FT.all,Bool.and_eq_true] at h
 have hp:=FT.all_parts h.2
 simp only[filterW,FT.depth]
 rcases hw with hk | ⟨rfl,ha,hf,hl,hs⟩ | ⟨rfl,ha⟩ | ⟨hk,ha,hv⟩
 ·rw [if_pos hk,filtersGo_each]
  have h1:=eachGo_len (f:=filterW) (K:=30000*FT.depthL ps) ps [] (fun x hx=>by
   have:=ih x hx (hp x hx)
   have:=FT.depth_mem hx
   have:=Nat.mul_le_mul_left 30000 this
   omega)
  have h2:=field_len (kindTag k) (eachGo filterW ps [])
  simp only[List.length_nil] at h1
  omega
 ·rw [if_neg (by omega),if_pos rfl]
  have h1:=field_len 4 a
  have h2:=piecesW_len hf hl hs
  have h3:=field_len 0xa4 (Ber.fieldOf 4 a++piecesW f an l)
  rw[List.length_append] at h3
  omega
 ·rw [if_neg (by omega),if_neg (by omega),if_pos rfl]
  have h1:=field_len 0x87 a
  omega
 ·rw [if_neg (by omega),if_neg (by omega),if_neg (by omega)]
  have h1:=field_len 4 a
  have h2:=field_len 4 v
  have h3:=field_len (kindTag k) (Ber.fieldOf 4 a++Ber.fieldOf 4 v)
  rw[List.length_append] at h3
  omega
theorem formed_all {t:FT} (h:t.formed=true):t.all=true/\t.depth<=20:=by
 simp only[FT.formed,Bool.and_eq_true,decide_eq_true_eq] at h
 exact⟨h.2,h.1.2⟩
theorem fs_row {w:World}:∀{ps:List FT} {xs:List Value},FsIn w w.heap.size ps xs->rowIn elF w (inB w) ps xs
 | [],xs,h=>by simp only[FsIn] at h;exact h
 | p::r,xs,h=>by
  simp only[FsIn] at h
  exact⟨h.1.finP,fs_row h.2⟩
theorem wfilter_0 (w:World) (sa sv sf sl:ByteArray) (A D:Option Addr) (an c n d:Nat) (bs:List UInt8) (HL:Hid (∀W,Below w.heap.size w W->Calls Tryz.prog 168 #[.int .u8 160,.slice D n d,.func (.func 144) #[] #[]] W (WPost bs W))):
  Calls Tryz.prog 144 #[.agg #[.int .i64 0,.string sa,.string sv,.string sf,.string sl,.slice A an c,.slice D n d]] w (WPost bs w):=by
 have hb1:Below w.heap.size w (w.alloc (.cells #[.int .i64 0,.string sa,.string sv,.string sf,.string sl,.slice A an c,.slice D n d] 39)):=(Below.refl _ _).alloc (Nat.le_refl _) _
 have hB1:Blk (w.alloc (.cells #[.int .i64 0,.string sa,.string sv,.string sf,.string sl,.slice A an c,.slice D n d] 39)) w.heap.size [.int .i64 0,.string sa,.string sv,.string sf,.string sl,.slice A an c,.slice D n d]:=Blk.new w [.int .i64 0,.string sa,.string sv,.string sf,.string sl,.slice A an c,.slice D n d] 39
 obtain⟨w1,hw1⟩:∃w1,w.alloc (.cells #[.int .i64 0,.string sa,.string sv,.string sf,.string sl,.slice A an c,.slice D n d] 39)=w1:=⟨_,rfl⟩
 rw[hw1] at hb1 hB1
 obtain⟨p1,hp1⟩:∃p1,w.heap.size=p1:=⟨_,rfl⟩
 rw[hp1] at hB1
 have KX:Hid (∀W,Below w1.heap.size w1 W->W.rangeAt p1 0 [.int .i64 0,.string sa,.string sv,.string sf,.string sl,.slice A an c,.slice D n d]):=hide fun W hW=>(hB1.fr (Fr.of (X:=fun _=>False) hW) id).range
 have k0:=hB1.cells 0 _ rfl
 have k1:=hB1.cells 1 _ rfl
 have k6:=hB1.cells 6 _ rfl
 have HBw:=hide hb1
 have Hw:=hide hw1
 have Hp:=hide hp1
 clear hb1 hB1 hw1 hp1
 go_enter Tryz.func144,Tryz.ntmps144
 go_upto_region 1 with fail
 rw[Hw.out]
 try rw[Hp.out]
 clear Hw
 have HBc:Hid (Below w1.heap.size w1 w1):=hide (Below.refl _ _)
 go_wp2_with (go_at_call 168;fail)
 refine (HL.out w1 HBw.out).mono ?_
 rintro e w2 hpost
 obtain⟨v,rfl,hown,hb2⟩:=hpost.out
 have HO:=hide hown
 replace HBc:=hide hb2
 clear hpost hown hb2 k0 k1 k6 KX
 go_wp2
 go_ret
 exact⟨⟨_,rfl,zAg HO.out HBw.out.size,HBw.out.trans (HBc.out.mono HBw.out.size)⟩⟩
theorem wfilter_1 (w:World) (sa sv sf sl:ByteArray) (A D:Option Addr) (an c n d:Nat) (bs:List UInt8) (HL:Hid (∀W,Below w.heap.size w W->Calls Tryz.prog 168 #[.int .u8 161,.slice D n d,.func (.func 144) #[] #[]] W (WPost bs W))):
  Calls Tryz.prog 144 #[.agg #[.int .i64 1,.string sa,.string sv,.string sf,.string sl,.slice A an c,.slice D n d]] w (WPost bs w):=by
 have hb1:Below w.heap.size w (w.alloc (.cells #[.int .i64 1,.string sa,.string sv,.string sf,.string sl,.slice A an c,.slice D n d] 39)):=(Below.refl _ _).alloc (Nat.le_refl _) _
 have hB1:Blk (w.alloc (.cells #[.int .i64 1,.string sa,.string sv,.string sf,.string sl,.slice A an c,.slice D n d] 39)) w.heap.size [.int .i64 1,.string sa,.string sv,.string sf,.string sl,.slice A an c,.slice D n d]:=Blk.new w [.int .i64 1,.string sa,.string sv,.string sf,.string sl,.slice A an c,.slice D n d] 39
 obtain⟨w1,hw1⟩:∃w1,w.alloc (.cells #[.int .i64 1,.string sa,.string sv,.string sf,.string sl,.slice A an c,.slice D n d] 39)=w1:=⟨_,rfl⟩
 rw[hw1] at hb1 hB1
 obtain⟨p1,hp1⟩:∃p1,w.heap.size=p1:=⟨_,rfl⟩
 rw[hp1] at hB1
 have KX:Hid (∀W,Below w1.heap.size w1 W->W.rangeAt p1 0 [.int .i64 1,.string sa,.string sv,.string sf,.string sl,.slice A an c,.slice D n d]):=hide fun W hW=>(hB1.fr (Fr.of (X:=fun _=>False) hW) id).range
 have k0:=hB1.cells 0 _ rfl
 have k1:=hB1.cells 1 _ rfl
 have k6:=hB1.cells 6 _ rfl
 have HBw:=hide hb1
 have Hw:=hide hw1
 have Hp:=hide hp1
 clear hb1 hB1 hw1 hp1
 go_enter Tryz.func144,Tryz.ntmps144
 go_upto_region 1 with fail
 rw[Hw.out]
 try rw[Hp.out]
 clear Hw
 have HBc:Hid (Below w1.heap.size w1 w1):=hide (Below.refl _ _)
 go_wp2_with (go_at_call 168;fail)
 refine (HL.out w1 HBw.out).mono ?_
 rintro e w2 hpost
 obtain⟨v,rfl,hown,hb2⟩:=hpost.out
 have HO:=hide hown
 replace HBc:=hide hb2
 clear hpost hown hb2 k0 k1 k6 KX
 go_wp2
 go_ret
 exact⟨⟨_,rfl,zAg HO.out HBw.out.size,HBw.out.trans (HBc.out.mono HBw.out.size)⟩⟩
theorem wfilter_2 (w:World) (sa sv sf sl:ByteArray) (A D:Option Addr) (an c n d:Nat) (bs:List UInt8) (HL:Hid (∀W,Below w.heap.size w W->Calls Tryz.prog 168 #[.int .u8 162,.slice D n d,.func (.func 144) #[] #[]] W (WPost bs W))):
  Calls Tryz.prog 144 #[.agg #[.int .i64 2,.string sa,.string sv,.string sf,.string sl,.slice A an c,.slice D n d]] w (WPost bs w):=by
 have hb1:Below w.heap.size w (w.alloc (.cells #[.int .i64 2,.string sa,.string sv,.string sf,.string sl,.slice A an c,.slice D n d] 39)):=(Below.refl _ _).alloc (Nat.le_refl _) _
 have hB1:Blk (w.alloc (.cells #[.int .i64 2,.string sa,.string sv,.string sf,.string sl,.slice A an c,.slice D n d] 39)) w.heap.size [.int .i64 2,.string sa,.string sv,.string sf,.string sl,.slice A an c,.slice D n d]:=Blk.new w [.int .i64 2,.string sa,.string sv,.string sf,.string sl,.slice A an c,.slice D n d] 39
 obtain⟨w1,hw1⟩:∃w1,w.alloc (.cells #[.int .i64 2,.string sa,.string sv,.string sf,.string sl,.slice A an c,.slice D n d] 39)=w1:=⟨_,rfl⟩
 rw[hw1] at hb1 hB1
 obtain⟨p1,hp1⟩:∃p1,w.heap.size=p1:=⟨_,rfl⟩
 rw[hp1] at hB1
 have KX:Hid (∀W,Below w1.heap.size w1 W->W.rangeAt p1 0 [.int .i64 2,.string sa,.string sv,.string sf,.string sl,.slice A an c,.slice D n d]):=hide fun W hW=>(hB1.fr (Fr.of (X:=fun _=>False) hW) id).range
 have k0:=hB1.cells 0 _ rfl
 have k1:=hB1.cells 1 _ rfl
 have k6:=hB1.cells 6 _ rfl
 have HBw:=hide hb1
 have Hw:=hide hw1
 have Hp:=hide hp1
 clear hb1 hB1 hw1 hp1
 go_enter Tryz.func144,Tryz.ntmps144
 go_upto_region 1 with fail
 rw[Hw.out]
 try rw[Hp.out]
 clear Hw
 have HBc:Hid (Below w1.heap.size w1 w1):=hide (Below.refl _ _)
 go_wp2_with (go_at_call 168;fail)
 refine (HL.out w1 HBw.out).mono ?_
 rintro e w2 hpost
 obtain⟨v,rfl,hown,hb2⟩:=hpost.out
 have HO:=hide hown
 replace HBc:=hide hb2
 clear hpost hown hb2 k0 k1 k6 KX
 go_wp2
 go_ret
 exact⟨⟨_,rfl,zAg HO.out HBw.out.size,HBw.out.trans (HBc.out.mono HBw.out.size)⟩⟩
theorem wfilter_7 (w:World) (sa sv sf sl:ByteArray) (A D:Option Addr) (an c n d:Nat) (bs:List UInt8) (HL:Hid (∀W,Below w.heap.size w W->Calls Tryz.prog 102 #[.int .u8 135,.string sa] W (WPost bs W))):
  Calls Tryz.prog 144 #[.agg #[.int .i64 7,.string sa,.string sv,.string sf,.string sl,.slice A an c,.slice D n d]] w (WPost bs w):=by
 have hb1:Below w.heap.size w (w.alloc (.cells #[.int .i64 7,.string sa,.string sv,.string sf,.string sl,.slice A an c,.slice D n d] 39)):=(Below.refl _ _).alloc (Nat.le_refl _) _
 have hB1:Blk (w.alloc (.cells #[.int .i64 7,.string sa,.string sv,.string sf,.string sl,.slice A an c,.slice D n d] 39)) w.heap.size [.int .i64 7,.string sa,.string sv,.string sf,.string sl,.slice A an c,.slice D n d]:=Blk.new w [.int .i64 7,.string sa,.string sv,.string sf,.string sl,.slice A an c,.slice D n d] 39
 obtain⟨w1,hw1⟩:∃w1,w.alloc (.cells #[.int .i64 7,.string sa,.string sv,.string sf,.string sl,.slice A an c,.slice D n d] 39)=w1:=⟨_,rfl⟩
 rw[hw1] at hb1 hB1
 obtain⟨p1,hp1⟩:∃p1,w.heap.size=p1:=⟨_,rfl⟩
 rw[hp1] at hB1
 have KX:Hid (∀W,Below w1.heap.size w1 W->W.rangeAt p1 0 [.int .i64 7,.string sa,.string sv,.string sf,.string sl,.slice A an c,.slice D n d]):=hide fun W hW=>(hB1.fr (Fr.of (X:=fun _=>False) hW) id).range
 have k0:=hB1.cells 0 _ rfl
 have k1:=hB1.cells 1 _ rfl
 have k6:=hB1.cells 6 _ rfl
 have HBw:=hide hb1
 have Hw:=hide hw1
 have Hp:=hide hp1
 clear hb1 hB1 hw1 hp1
 go_enter Tryz.func144,Tryz.ntmps144
 go_upto_region 1 with fail
 rw[Hw.out]
 try rw[Hp.out]
 clear Hw
 have HBc:Hid (Below w1.heap.size w1 w1):=hide (Below.refl _ _)
 go_wp2_with (go_at_call 102;fail)
 refine (HL.out w1 HBw.out).mono ?_
 rintro e w2 hpost
 obtain⟨v,rfl,hown,hb2⟩:=hpost.out
 have HO:=hide hown
 replace HBc:=hide hb2
 clear hpost hown hb2 k0 k1 k6 KX
 go_wp2
 go_ret
 exact⟨⟨_,rfl,zAg HO.out HBw.out.size,HBw.out.trans (HBc.out.mono HBw.out.size)⟩⟩
theorem wfilter_4 (w:World) (sa sv sf sl:ByteArray) (A D:Option Addr) (an c n d:Nat) (l1 l2:List UInt8) (hl1:l1.length<=100000) (hl2:l2.length<=100000) (H1c0:Hid (∀W,Below w.heap.size w W->Calls Tryz.prog 101 #[.string sa] W (WPost l1 W))) (H2c0:Hid (∀W,Below w.heap.size w W->Calls Tryz.prog 169 #[.agg #[.int .i64 4,.string sa,.string sv,.string sf,.string sl,.slice A an c,.slice D n d]] W (WPost l2 W))):
  Calls Tryz.prog 144 #[.agg #[.int .i64 4,.string sa,.string sv,.string sf,.string sl,.slice A an c,.slice D n d]] w (WPost (Ber.fieldOf 0xa4 (l1++l2)) w):=by
 obtain⟨l3,hl3⟩:∃l3,l1++l2=l3:=⟨_,rfl⟩
 obtain⟨bs,hbs⟩:∃bs,Ber.fieldOf 0xa4 l3=bs:=⟨_,rfl⟩
 rw[hl3,hbs]
 have HTHS:Hid (tot [l1,l2]<=300000):=hide (by simp[tot];omega)
 have HEHS:Hid (Ber.fieldOf 0xa4 ([l1,l2]:List (List UInt8)).flatten=bs):=hide (by rw[<-hbs,<-hl3];simp)
 clear hl3 hbs hl1 hl2
 have hb1:Below w.heap.size w (w.alloc (.cells #[.int .i64 4,.string sa,.string sv,.string sf,.string sl,.slice A an c,.slice D n d] 39)):=(Below.refl _ _).alloc (Nat.le_refl _) _
 have hB1:Blk (w.alloc (.cells #[.int .i64 4,.string sa,.string sv,.string sf,.string sl,.slice A an c,.slice D n d] 39)) w.heap.size [.int .i64 4,.string sa,.string sv,.string sf,.string sl,.slice A an c,.slice D n d]:=Blk.new w [.int .i64 4,.string sa,.string sv,.string sf,.string sl,.slice A an c,.slice D n d] 39
 obtain⟨w1,hw1⟩:∃w1,w.alloc (.cells #[.int .i64 4,.string sa,.string sv,.string sf,.string sl,.slice A an c,.slice D n d] 39)=w1:=⟨_,rfl⟩
 rw[hw1] at hb1 hB1
 obtain⟨p1,hp1⟩:∃p1,w.heap.size=p1:=⟨_,rfl⟩
 rw[hp1] at hB1
 have KX:Hid (∀W,Below w1.heap.size w1 W->W.rangeAt p1 0 [.int .i64 4,.string sa,.string sv,.string sf,.string sl,.slice A an c,.slice D n d]):=hide fun W hW=>(hB1.fr (Fr.of (X:=fun _=>False) hW) id).range
 have k0:=hB1.cells 0 _ rfl
 have k1:=hB1.cells 1 _ rfl
 have k6:=hB1.cells 6 _ rfl
 have HBw:=hide hb1
 have Hw:=hide hw1
 have Hp:=hide hp1
 clear hb1 hB1 hw1 hp1
 go_enter Tryz.func144,Tryz.ntmps144
 go_upto_region 1 with fail
 rw[Hw.out]
 try rw[Hp.out]
 clear Hw
 have H1c:Hid (∀W,Below w1.heap.size w1 W->Calls Tryz.prog 101 #[.string sa] W (WPost l1 W)):=hide fun W hW=>H1c0.out W (HBw.out.trans (hW.mono HBw.out.size))
 have H2c:Hid (∀W,Below w1.heap.size w1 W->Calls Tryz.prog 169 #[.agg #[.int .i64 4,.string sa,.string sv,.string sf,.string sl,.slice A an c,.slice D n d]] W (WPost l2 W)):=hide fun W hW=>H2c0.out W (HBw.out.trans (hW.mono HBw.out.size))
 have HB0:Hid (Below w1.heap.size w1 w1.drew):=hide (Below.refl _ _).drew
 clear H1c0 H2c0 k1 k6
 go_wp2_with fail
 clear k0
 refine zAs (by kernel_rfl) ?_
 generalize w1.drew=wd at *
 have HBc:=HB0
 refine zAa 0 (some 20) rfl rfl (by kernel_rfl) rfl (by rfl) (fun W hW=>by go_simp<;>with_reducible rfl) ?_
 try simp only[pU]
 refine zAa 1 (some 21) rfl rfl (by kernel_rfl) rfl (by rfl) (fun W hW=>by go_simp<;>with_reducible rfl) ?_
 try simp only[pU]
 refine zAa 2 (some 22) (v:=.string sa) rfl rfl (by kernel_rfl) rfl (by rfl) (fun W hW=>?yp2) ?_
 case yp2=>
  exact zAd _ _ _ rfl p1 1 rfl _ (loadS8 W _ _ (by have:=KX.out W (HB0.out.trans (hW.mono HB0.out.size)) 1 _ rfl;simpa using this))
 try simp only[pU]
 refine zAa 4 (some 24) (v:=.agg #[.int .i64 4,.string sa,.string sv,.string sf,.string sl,.slice A an c,.slice D n d]) rfl rfl (by kernel_rfl) rfl (by rfl) (fun W hW=>?yp4) ?_
 case yp4=>
  exact zAd _ _ _ rfl p1 0 rfl _ (run_loadVar_mid W p1 0 39 [.int .i64 4,.string sa,.string sv,.string sf,.string sl,.slice A an c,.slice D n d] _ (KX.out W (HB0.out.trans (hW.mono HB0.out.size))) Tryz.underlying39 rfl (by kernel_rfl))
 try simp only[pU]
 refine zAc 3 rfl (by kernel_rfl) (fun K hK=>?_)
 go_simp
 refine (H1c.out _ HBc.out).mono ?_
 rintro e w1 hpost
 obtain⟨v1,rfl,hown,hb⟩:=hpost.out
 obtain⟨A1,c1,rfl,-,hA⟩:=own_form hown
 have H1:=hide hA
 replace HBc:=hT HBc hb
 refine hK.out _ _ hb ?_
 clear hK K hb hpost hown hA
 try simp only[pU]
 refine zAc 5 rfl (by kernel_rfl) (fun K hK=>?_)
 go_simp
 refine (H2c.out _ HBc.out).mono ?_
 rintro e w2 hpost
 obtain⟨v2,rfl,hown,hb⟩:=hpost.out
 obtain⟨A2,c2,rfl,-,hA⟩:=own_form hown
 replace H1:=hide ((H1.out.below hb).upto hb.size)
 have H2:=hide hA
 replace HBc:=hT HBc hb
 refine hK.out _ _ hb ?_
 clear hK K hb hpost hown hA
 try simp only[pU]
 refine zAc 6 rfl (by kernel_rfl) (fun K hK=>?_)
 go_simp
 have hb:Below w2.heap.size w2 (w2.alloc (.cells #[.slice A1 l1.length c1,.slice A2 l2.length c2] 33)):=(Below.refl _ _).alloc (Nat.le_refl _) _
 have hblk:=Blk.new w2 [.slice A1 l1.length c1,.slice A2 l2.length c2] 33
 have hS:SLs (w2.alloc (.cells #[.slice A1 l1.length c1,.slice A2 l2.length c2] 33)) [l1,l2] (some ⟨w2.heap.size,0,none⟩) 2:=SLs.blk hblk rfl rfl (fun i l hi=>by
  match i,hi with
  | 0,hi=>cases hi;exact⟨_,_,rfl,(H1.out.below hb).upto hb.size⟩
  | 1,hi=>cases hi;exact⟨_,_,rfl,(H2.out.below hb).upto hb.size⟩)
 obtain⟨wb,hwn⟩:∃wb,w2.alloc (.cells #[.slice A1 l1.length c1,.slice A2 l2.length c2] 33)=wb:=⟨_,rfl⟩
 rw[hwn] at hb hS ⊢
 clear hblk hwn
 have HS:=hide hS
 replace HBc:=hT HBc hb
 refine hK.out _ _ hb ?_
 clear hK K hb hS H1 H2
 try simp only[pU]
 refine zAc 7 rfl (by kernel_rfl) (fun K hK=>?_)
 go_simp
 have hj:=zBn 0xa4 wb _ 2 2 _ HS.out (by omega) (by have:=HTHS.out;omega)
 rw[HEHS.out] at hj
 refine hj.mono ?_
 rintro e wr hpost
 obtain⟨vr,rfl,hown,hb⟩:=hpost.out
 have HOr:=hide (zAg hown HBc.out.size)
 replace HBc:=hT HBc hb
 refine hK.out _ _ hb ?_
 clear hK K hb hpost hown hj HS
 try simp only[pU]
 refine zAa 8 (some 2) rfl rfl (by kernel_rfl) rfl (by rfl) (fun W hW=>by go_simp<;>with_reducible rfl) ?_
 try simp only[pU]
 refine zAi (by kernel_rfl) ?_ _
 go_wp2
 go_ret
 exact⟨⟨_,rfl,zAg HOr.out HBw.out.size,HBw.out.trans (HBc.out.mono HBw.out.size)⟩⟩
theorem wfilter_3 (w:World) (sa sv sf sl:ByteArray) (A D:Option Addr) (an c n d:Nat) (l1 l2:List UInt8) (hl1:l1.length<=100000) (hl2:l2.length<=100000) (H1c0:Hid (∀W,Below w.heap.size w W->Calls Tryz.prog 101 #[.string sa] W (WPost l1 W))) (H2c0:Hid (∀W,Below w.heap.size w W->Calls Tryz.prog 101 #[.string sv] W (WPost l2 W))):
  Calls Tryz.prog 144 #[.agg #[.int .i64 3,.string sa,.string sv,.string sf,.string sl,.slice A an c,.slice D n d]] w (WPost (Ber.fieldOf 163 (l1++l2)) w):=by
 obtain⟨l3,hl3⟩:∃l3,l1++l2=l3:=⟨_,rfl⟩
 obtain⟨bs,hbs⟩:∃bs,Ber.fieldOf 163 l3=bs:=⟨_,rfl⟩
 rw[hl3,hbs]
 have HTHS:Hid (tot [l1,l2]<=300000):=hide (by simp[tot];omega)
 have HEHS:Hid (Ber.fieldOf 163 ([l1,l2]:List (List UInt8)).flatten=bs):=hide (by rw[<-hbs,<-hl3];simp)
 clear hl3 hbs hl1 hl2
 have hb1:Below w.heap.size w (w.alloc (.cells #[.int .i64 3,.string sa,.string sv,.string sf,.string sl,.slice A an c,.slice D n d] 39)):=(Below.refl _ _).alloc (Nat.le_refl _) _
 have hB1:Blk (w.alloc (.cells #[.int .i64 3,.string sa,.string sv,.string sf,.string sl,.slice A an c,.slice D n d] 39)) w.heap.size [.int .i64 3,.string sa,.string sv,.string sf,.string sl,.slice A an c,.slice D n d]:=Blk.new w [.int .i64 3,.string sa,.string sv,.string sf,.string sl,.slice A an c,.slice D n d] 39
 obtain⟨w1,hw1⟩:∃w1,w.alloc (.cells #[.int .i64 3,.string sa,.string sv,.string sf,.string sl,.slice A an c,.slice D n d] 39)=w1:=⟨_,rfl⟩
 rw[hw1] at hb1 hB1
 obtain⟨p1,hp1⟩:∃p1,w.heap.size=p1:=⟨_,rfl⟩
 rw[hp1] at hB1
 have KX:Hid (∀W,Below w1.heap.size w1 W->W.rangeAt p1 0 [.int .i64 3,.string sa,.string sv,.string sf,.string sl,.slice A an c,.slice D n d]):=hide fun W hW=>(hB1.fr (Fr.of (X:=fun _=>False) hW) id).range
 have k0:=hB1.cells 0 _ rfl
 have k1:=hB1.cells 1 _ rfl
 have k6:=hB1.cells 6 _ rfl
 have HBw:=hide hb1
 have Hw:=hide hw1
 have Hp:=hide hp1
 clear hb1 hB1 hw1 hp1
 go_enter Tryz.func144,Tryz.ntmps144
 go_upto_region 1 with fail
 rw[Hw.out]
 try rw[Hp.out]
 clear Hw
 have H1c:Hid (∀W,Below w1.heap.size w1 W->Calls Tryz.prog 101 #[.string sa] W (WPost l1 W)):=hide fun W hW=>H1c0.out W (HBw.out.trans (hW.mono HBw.out.size))
 have H2c:Hid (∀W,Below w1.heap.size w1 W->Calls Tryz.prog 101 #[.string sv] W (WPost l2 W)):=hide fun W hW=>H2c0.out W (HBw.out.trans (hW.mono HBw.out.size))
 have HB0:Hid (Below w1.heap.size w1 w1.drew):=hide (Below.refl _ _).drew
 clear H1c0 H2c0 k1 k6
 go_wp2_with fail
 clear k0
 refine zAs (by kernel_rfl) ?_
 generalize w1.drew=wd at *
 have HBc:=HB0
 refine zAa 0 (some 33) rfl rfl (by kernel_rfl) rfl (by rfl) (fun W hW=>by go_simp<;>with_reducible rfl) ?_
 try simp only[pU]
 refine zAa 1 (some 34) rfl rfl (by kernel_rfl) rfl (by rfl) (fun W hW=>by go_simp<;>with_reducible rfl) ?_
 try simp only[pU]
 refine zAa 2 (some 35) (v:=.string sa) rfl rfl (by kernel_rfl) rfl (by rfl) (fun W hW=>?yt32) ?_
 case yt32=>
  exact zAd _ _ _ rfl p1 1 rfl _ (loadS8 W _ _ (by have:=KX.out W (HB0.out.trans (hW.mono HB0.out.size)) 1 _ rfl;simpa using this))
 try simp only[pU]
 refine zAa 4 (some 37) rfl rfl (by kernel_rfl) rfl (by rfl) (fun W hW=>by go_simp<;>with_reducible rfl) ?_
 try simp only[pU]
 refine zAa 5 (some 38) (v:=.string sv) rfl rfl (by kernel_rfl) rfl (by rfl) (fun W hW=>?yt35) ?_
 case yt35=>
  exact zAd _ _ _ rfl p1 2 rfl _ (loadS8 W _ _ (by have:=KX.out W (HB0.out.trans (hW.mono HB0.out.size)) 2 _ rfl;simpa using this))
 try simp only[pU]
 refine zAc 3 rfl (by kernel_rfl) (fun K hK=>?_)
 go_simp
 refine (H1c.out _ HBc.out).mono ?_
 rintro e w1 hpost
 obtain⟨v1,rfl,hown,hb⟩:=hpost.out
 obtain⟨A1,c1,rfl,-,hA⟩:=own_form hown
 have H1:=hide hA
 replace HBc:=hT HBc hb
 refine hK.out _ _ hb ?_
 clear hK K hb hpost hown hA
 try simp only[pU]
 refine zAc 6 rfl (by kernel_rfl) (fun K hK=>?_)
 go_simp
 refine (H2c.out _ HBc.out).mono ?_
 rintro e w2 hpost
 obtain⟨v2,rfl,hown,hb⟩:=hpost.out
 obtain⟨A2,c2,rfl,-,hA⟩:=own_form hown
 replace H1:=hide ((H1.out.below hb).upto hb.size)
 have H2:=hide hA
 replace HBc:=hT HBc hb
 refine hK.out _ _ hb ?_
 clear hK K hb hpost hown hA
 try simp only[pU]
 refine zAc 7 rfl (by kernel_rfl) (fun K hK=>?_)
 go_simp
 have hb:Below w2.heap.size w2 (w2.alloc (.cells #[.slice A1 l1.length c1,.slice A2 l2.length c2] 33)):=(Below.refl _ _).alloc (Nat.le_refl _) _
 have hblk:=Blk.new w2 [.slice A1 l1.length c1,.slice A2 l2.length c2] 33
 have hS:SLs (w2.alloc (.cells #[.slice A1 l1.length c1,.slice A2 l2.length c2] 33)) [l1,l2] (some ⟨w2.heap.size,0,none⟩) 2:=SLs.blk hblk rfl rfl (fun i l hi=>by
  match i,hi with
  | 0,hi=>cases hi;exact⟨_,_,rfl,(H1.out.below hb).upto hb.size⟩
  | 1,hi=>cases hi;exact⟨_,_,rfl,(H2.out.below hb).upto hb.size⟩)
 obtain⟨wb,hwn⟩:∃wb,w2.alloc (.cells #[.slice A1 l1.length c1,.slice A2 l2.length c2] 33)=wb:=⟨_,rfl⟩
 rw[hwn] at hb hS ⊢
 clear hblk hwn
 have HS:=hide hS
 replace HBc:=hT HBc hb
 refine hK.out _ _ hb ?_
 clear hK K hb hS H1 H2
 try simp only[pU]
 refine zAc 8 rfl (by kernel_rfl) (fun K hK=>?_)
 go_simp
 have hj:=zBn 163 wb _ 2 2 _ HS.out (by omega) (by have:=HTHS.out;omega)
 rw[HEHS.out] at hj
 refine hj.mono ?_
 rintro e wr hpost
 obtain⟨vr,rfl,hown,hb⟩:=hpost.out
 have HOr:=hide (zAg hown HBc.out.size)
 replace HBc:=hT HBc hb
 refine hK.out _ _ hb ?_
 clear hK K hb hpost hown hj HS
 try simp only[pU]
 refine zAa 9 (some 2) rfl rfl (by kernel_rfl) rfl (by rfl) (fun W hW=>by go_simp<;>with_reducible rfl) ?_
 try simp only[pU]
 refine zAi (by kernel_rfl) ?_ _
 go_wp2
 go_ret
 exact⟨⟨_,rfl,zAg HOr.out HBw.out.size,HBw.out.trans (HBc.out.mono HBw.out.size)⟩⟩
theorem wfilter_5 (w:World) (sa sv sf sl:ByteArray) (A D:Option Addr) (an c n d:Nat) (l1 l2:List UInt8) (hl1:l1.length<=100000) (hl2:l2.length<=100000) (H1c0:Hid (∀W,Below w.heap.size w W->Calls Tryz.prog 101 #[.string sa] W (WPost l1 W))) (H2c0:Hid (∀W,Below w.heap.size w W->Calls Tryz.prog 101 #[.string sv] W (WPost l2 W))):
  Calls Tryz.prog 144 #[.agg #[.int .i64 5,.string sa,.string sv,.string sf,.string sl,.slice A an c,.slice D n d]] w (WPost (Ber.fieldOf 165 (l1++l2)) w):=by
 obtain⟨l3,hl3⟩:∃l3,l1++l2=l3:=⟨_,rfl⟩
 obtain⟨bs,hbs⟩:∃bs,Ber.fieldOf 165 l3=bs:=⟨_,rfl⟩
 rw[hl3,hbs]
 have HTHS:Hid (tot [l1,l2]<=300000):=hide (by simp[tot];omega)
 have HEHS:Hid (Ber.fieldOf 165 ([l1,l2]:List (List UInt8)).flatten=bs):=hide (by rw[<-hbs,<-hl3];simp)
 clear hl3 hbs hl1 hl2
 have hb1:Below w.heap.size w (w.alloc (.cells #[.int .i64 5,.string sa,.string sv,.string sf,.string sl,.slice A an c,.slice D n d] 39)):=(Below.refl _ _).alloc (Nat.le_refl _) _
 have hB1:Blk (w.alloc (.cells #[.int .i64 5,.string sa,.string sv,.string sf,.string sl,.slice A an c,.slice D n d] 39)) w.heap.size [.int .i64 5,.string sa,.string sv,.string sf,.string sl,.slice A an c,.slice D n d]:=Blk.new w [.int .i64 5,.string sa,.string sv,.string sf,.string sl,.slice A an c,.slice D n d] 39
 obtain⟨w1,hw1⟩:∃w1,w.alloc (.cells #[.int .i64 5,.string sa,.string sv,.string sf,.string sl,.slice A an c,.slice D n d] 39)=w1:=⟨_,rfl⟩
 rw[hw1] at hb1 hB1
 obtain⟨p1,hp1⟩:∃p1,w.heap.size=p1:=⟨_,rfl⟩
 rw[hp1] at hB1
 have KX:Hid (∀W,Below w1.heap.size w1 W->W.rangeAt p1 0 [.int .i64 5,.string sa,.string sv,.string sf,.string sl,.slice A an c,.slice D n d]):=hide fun W hW=>(hB1.fr (Fr.of (X:=fun _=>False) hW) id).range
 have k0:=hB1.cells 0 _ rfl
 have k1:=hB1.cells 1 _ rfl
 have k6:=hB1.cells 6 _ rfl
 have HBw:=hide hb1
 have Hw:=hide hw1
 have Hp:=hide hp1
 clear hb1 hB1 hw1 hp1
 go_enter Tryz.func144,Tryz.ntmps144
 go_upto_region 1 with fail
 rw[Hw.out]
 try rw[Hp.out]
 clear Hw
 have H1c:Hid (∀W,Below w1.heap.size w1 W->Calls Tryz.prog 101 #[.string sa] W (WPost l1 W)):=hide fun W hW=>H1c0.out W (HBw.out.trans (hW.mono HBw.out.size))
 have H2c:Hid (∀W,Below w1.heap.size w1 W->Calls Tryz.prog 101 #[.string sv] W (WPost l2 W)):=hide fun W hW=>H2c0.out W (HBw.out.trans (hW.mono HBw.out.size))
 have HB0:Hid (Below w1.heap.size w1 w1.drew):=hide (Below.refl _ _).drew
 clear H1c0 H2c0 k1 k6
 go_wp2_with fail
 clear k0
 refine zAs (by kernel_rfl) ?_
 generalize w1.drew=wd at *
 have HBc:=HB0
 refine zAa 0 (some 33) rfl rfl (by kernel_rfl) rfl (by rfl) (fun W hW=>by go_simp<;>with_reducible rfl) ?_
 try simp only[pU]
 refine zAa 1 (some 34) rfl rfl (by kernel_rfl) rfl (by rfl) (fun W hW=>by go_simp<;>with_reducible rfl) ?_
 try simp only[pU]
 refine zAa 2 (some 35) (v:=.string sa) rfl rfl (by kernel_rfl) rfl (by rfl) (fun W hW=>?yt52) ?_
 case yt52=>
  exact zAd _ _ _ rfl p1 1 rfl _ (loadS8 W _ _ (by have:=KX.out W (HB0.out.trans (hW.mono HB0.out.size)) 1 _ rfl;simpa using this))
 try simp only[pU]
 refine zAa 4 (some 37) rfl rfl (by kernel_rfl) rfl (by rfl) (fun W hW=>by go_simp<;>with_reducible rfl) ?_
 try simp only[pU]
 refine zAa 5 (some 38) (v:=.string sv) rfl rfl (by kernel_rfl) rfl (by rfl) (fun W hW=>?yt55) ?_
 case yt55=>
  exact zAd _ _ _ rfl p1 2 rfl _ (loadS8 W _ _ (by have:=KX.out W (HB0.out.trans (hW.mono HB0.out.size)) 2 _ rfl;simpa using this))
 try simp only[pU]
 refine zAc 3 rfl (by kernel_rfl) (fun K hK=>?_)
 go_simp
 refine (H1c.out _ HBc.out).mono ?_
 rintro e w1 hpost
 obtain⟨v1,rfl,hown,hb⟩:=hpost.out
 obtain⟨A1,c1,rfl,-,hA⟩:=own_form hown
 have H1:=hide hA
 replace HBc:=hT HBc hb
 refine hK.out _ _ hb ?_
 clear hK K hb hpost hown hA
 try simp only[pU]
 refine zAc 6 rfl (by kernel_rfl) (fun K hK=>?_)
 go_simp
 refine (H2c.out _ HBc.out).mono ?_
 rintro e w2 hpost
 obtain⟨v2,rfl,hown,hb⟩:=hpost.out
 obtain⟨A2,c2,rfl,-,hA⟩:=own_form hown
 replace H1:=hide ((H1.out.below hb).upto hb.size)
 have H2:=hide hA
 replace HBc:=hT HBc hb
 refine hK.out _ _ hb ?_
 clear hK K hb hpost hown hA
 try simp only[pU]
 refine zAc 7 rfl (by kernel_rfl) (fun K hK=>?_)
 go_simp
 have hb:Below w2.heap.size w2 (w2.alloc (.cells #[.slice A1 l1.length c1,.slice A2 l2.length c2] 33)):=(Below.refl _ _).alloc (Nat.le_refl _) _
 have hblk:=Blk.new w2 [.slice A1 l1.length c1,.slice A2 l2.length c2] 33
 have hS:SLs (w2.alloc (.cells #[.slice A1 l1.length c1,.slice A2 l2.length c2] 33)) [l1,l2] (some ⟨w2.heap.size,0,none⟩) 2:=SLs.blk hblk rfl rfl (fun i l hi=>by
  match i,hi with
  | 0,hi=>cases hi;exact⟨_,_,rfl,(H1.out.below hb).upto hb.size⟩
  | 1,hi=>cases hi;exact⟨_,_,rfl,(H2.out.below hb).upto hb.size⟩)
 obtain⟨wb,hwn⟩:∃wb,w2.alloc (.cells #[.slice A1 l1.length c1,.slice A2 l2.length c2] 33)=wb:=⟨_,rfl⟩
 rw[hwn] at hb hS ⊢
 clear hblk hwn
 have HS:=hide hS
 replace HBc:=hT HBc hb
 refine hK.out _ _ hb ?_
 clear hK K hb hS H1 H2
 try simp only[pU]
 refine zAc 8 rfl (by kernel_rfl) (fun K hK=>?_)
 go_simp
 have hj:=zBn 165 wb _ 2 2 _ HS.out (by omega) (by have:=HTHS.out;omega)
 rw[HEHS.out] at hj
 refine hj.mono ?_
 rintro e wr hpost
 obtain⟨vr,rfl,hown,hb⟩:=hpost.out
 have HOr:=hide (zAg hown HBc.out.size)
 replace HBc:=hT HBc hb
 refine hK.out _ _ hb ?_
 clear hK K hb hpost hown hj HS
 try simp only[pU]
 refine zAa 9 (some 2) rfl rfl (by kernel_rfl) rfl (by rfl) (fun W hW=>by go_simp<;>with_reducible rfl) ?_
 try simp only[pU]
 refine zAi (by kernel_rfl) ?_ _
 go_wp2
 go_ret
 exact⟨⟨_,rfl,zAg HOr.out HBw.out.size,HBw.out.trans (HBc.out.mono HBw.out.size)⟩⟩
theorem wfilter_6 (w:World) (sa sv sf sl:ByteArray) (A D:Option Addr) (an c n d:Nat) (l1 l2:List UInt8) (hl1:l1.length<=100000) (hl2:l2.length<=100000) (H1c0:Hid (∀W,Below w.heap.size w W->Calls Tryz.prog 101 #[.string sa] W (WPost l1 W))) (H2c0:Hid (∀W,Below w.heap.size w W->Calls Tryz.prog 101 #[.string sv] W (WPost l2 W))):
  Calls Tryz.prog 144 #[.agg #[.int .i64 6,.string sa,.string sv,.string sf,.string sl,.slice A an c,.slice D n d]] w (WPost (Ber.fieldOf 166 (l1++l2)) w):=by
 obtain⟨l3,hl3⟩:∃l3,l1++l2=l3:=⟨_,rfl⟩
 obtain⟨bs,hbs⟩:∃bs,Ber.fieldOf 166 l3=bs:=⟨_,rfl⟩
 rw[hl3,hbs]
 have HTHS:Hid (tot [l1,l2]<=300000):=hide (by simp[tot];omega)
 have HEHS:Hid (Ber.fieldOf 166 ([l1,l2]:List (List UInt8)).flatten=bs):=hide (by rw[<-hbs,<-hl3];simp)
 clear hl3 hbs hl1 hl2
 have hb1:Below w.heap.size w (w.alloc (.cells #[.int .i64 6,.string sa,.string sv,.string sf,.string sl,.slice A an c,.slice D n d] 39)):=(Below.refl _ _).alloc (Nat.le_refl _) _
 have hB1:Blk (w.alloc (.cells #[.int .i64 6,.string sa,.string sv,.string sf,.string sl,.slice A an c,.slice D n d] 39)) w.heap.size [.int .i64 6,.string sa,.string sv,.string sf,.string sl,.slice A an c,.slice D n d]:=Blk.new w [.int .i64 6,.string sa,.string sv,.string sf,.string sl,.slice A an c,.slice D n d] 39
 obtain⟨w1,hw1⟩:∃w1,w.alloc (.cells #[.int .i64 6,.string sa,.string sv,.string sf,.string sl,.slice A an c,.slice D n d] 39)=w1:=⟨_,rfl⟩
 rw[hw1] at hb1 hB1
 obtain⟨p1,hp1⟩:∃p1,w.heap.size=p1:=⟨_,rfl⟩
 rw[hp1] at hB1
 have KX:Hid (∀W,Below w1.heap.size w1 W->W.rangeAt p1 0 [.int .i64 6,.string sa,.string sv,.string sf,.string sl,.slice A an c,.slice D n d]):=hide fun W hW=>(hB1.fr (Fr.of (X:=fun _=>False) hW) id).range
 have k0:=hB1.cells 0 _ rfl
 have k1:=hB1.cells 1 _ rfl
 have k6:=hB1.cells 6 _ rfl
 have HBw:=hide hb1
 have Hw:=hide hw1
 have Hp:=hide hp1
 clear hb1 hB1 hw1 hp1
 go_enter Tryz.func144,Tryz.ntmps144
 go_upto_region 1 with fail
 rw[Hw.out]
 try rw[Hp.out]
 clear Hw
 have H1c:Hid (∀W,Below w1.heap.size w1 W->Calls Tryz.prog 101 #[.string sa] W (WPost l1 W)):=hide fun W hW=>H1c0.out W (HBw.out.trans (hW.mono HBw.out.size))
 have H2c:Hid (∀W,Below w1.heap.size w1 W->Calls Tryz.prog 101 #[.string sv] W (WPost l2 W)):=hide fun W hW=>H2c0.out W (HBw.out.trans (hW.mono HBw.out.size))
 have HB0:Hid (Below w1.heap.size w1 w1.drew):=hide (Below.refl _ _).drew
 clear H1c0 H2c0 k1 k6
 go_wp2_with fail
 clear k0
 refine zAs (by kernel_rfl) ?_
 generalize w1.drew=wd at *
 have HBc:=HB0
 refine zAa 0 (some 33) rfl rfl (by kernel_rfl) rfl (by rfl) (fun W hW=>by go_simp<;>with_reducible rfl) ?_
 try simp only[pU]
 refine zAa 1 (some 34) rfl rfl (by kernel_rfl) rfl (by rfl) (fun W hW=>by go_simp<;>with_reducible rfl) ?_
 try simp only[pU]
 refine zAa 2 (some 35) (v:=.string sa) rfl rfl (by kernel_rfl) rfl (by rfl) (fun W hW=>?yt62) ?_
 case yt62=>
  exact zAd _ _ _ rfl p1 1 rfl _ (loadS8 W _ _ (by have:=KX.out W (HB0.out.trans (hW.mono HB0.out.size)) 1 _ rfl;simpa using this))
 try simp only[pU]
 refine zAa 4 (some 37) rfl rfl (by kernel_rfl) rfl (by rfl) (fun W hW=>by go_simp<;>with_reducible rfl) ?_
 try simp only[pU]
 refine zAa 5 (some 38) (v:=.string sv) rfl rfl (by kernel_rfl) rfl (by rfl) (fun W hW=>?yt65) ?_
 case yt65=>
  exact zAd _ _ _ rfl p1 2 rfl _ (loadS8 W _ _ (by have:=KX.out W (HB0.out.trans (hW.mono HB0.out.size)) 2 _ rfl;simpa using this))
 try simp only[pU]
 refine zAc 3 rfl (by kernel_rfl) (fun K hK=>?_)
 go_simp
 refine (H1c.out _ HBc.out).mono ?_
 rintro e w1 hpost
 obtain⟨v1,rfl,hown,hb⟩:=hpost.out
 obtain⟨A1,c1,rfl,-,hA⟩:=own_form hown
 have H1:=hide hA
 replace HBc:=hT HBc hb
 refine hK.out _ _ hb ?_
 clear hK K hb hpost hown hA
 try simp only[pU]
 refine zAc 6 rfl (by kernel_rfl) (fun K hK=>?_)
 go_simp
 refine (H2c.out _ HBc.out).mono ?_
 rintro e w2 hpost
 obtain⟨v2,rfl,hown,hb⟩:=hpost.out
 obtain⟨A2,c2,rfl,-,hA⟩:=own_form hown
 replace H1:=hide ((H1.out.below hb).upto hb.size)
 have H2:=hide hA
 replace HBc:=hT HBc hb
 refine hK.out _ _ hb ?_
 clear hK K hb hpost hown hA
 try simp only[pU]
 refine zAc 7 rfl (by kernel_rfl) (fun K hK=>?_)
 go_simp
 have hb:Below w2.heap.size w2 (w2.alloc (.cells #[.slice A1 l1.length c1,.slice A2 l2.length c2] 33)):=(Below.refl _ _).alloc (Nat.le_refl _) _
 have hblk:=Blk.new w2 [.slice A1 l1.length c1,.slice A2 l2.length c2] 33
 have hS:SLs (w2.alloc (.cells #[.slice A1 l1.length c1,.slice A2 l2.length c2] 33)) [l1,l2] (some ⟨w2.heap.size,0,none⟩) 2:=SLs.blk hblk rfl rfl (fun i l hi=>by
  match i,hi with
  | 0,hi=>cases hi;exact⟨_,_,rfl,(H1.out.below hb).upto hb.size⟩
  | 1,hi=>cases hi;exact⟨_,_,rfl,(H2.out.below hb).upto hb.size⟩)
 obtain⟨wb,hwn⟩:∃wb,w2.alloc (.cells #[.slice A1 l1.length c1,.slice A2 l2.length c2] 33)=wb:=⟨_,rfl⟩
 rw[hwn] at hb hS ⊢
 clear hblk hwn
 have HS:=hide hS
 replace HBc:=hT HBc hb
 refine hK.out _ _ hb ?_
 clear hK K hb hS H1 H2
 try simp only[pU]
 refine zAc 8 rfl (by kernel_rfl) (fun K hK=>?_)
 go_simp
 have hj:=zBn 166 wb _ 2 2 _ HS.out (by omega) (by have:=HTHS.out;omega)
 rw[HEHS.out] at hj
 refine hj.mono ?_
 rintro e wr hpost
 obtain⟨vr,rfl,hown,hb⟩:=hpost.out
 have HOr:=hide (zAg hown HBc.out.size)
 replace HBc:=hT HBc hb
 refine hK.out _ _ hb ?_
 clear hK K hb hpost hown hj HS
 try simp only[pU]
 refine zAa 9 (some 2) rfl rfl (by kernel_rfl) rfl (by rfl) (fun W hW=>by go_simp<;>with_reducible rfl) ?_
 try simp only[pU]
 refine zAi (by kernel_rfl) ?_ _
 go_wp2
 go_ret
 exact⟨⟨_,rfl,zAg HOr.out HBw.out.size,HBw.out.trans (HBc.out.mono HBw.out.size)⟩⟩
theorem wfilter_8 (w:World) (sa sv sf sl:ByteArray) (A D:Option Addr) (an c n d:Nat) (l1 l2:List UInt8) (hl1:l1.length<=100000) (hl2:l2.length<=100000) (H1c0:Hid (∀W,Below w.heap.size w W->Calls Tryz.prog 101 #[.string sa] W (WPost l1 W))) (H2c0:Hid (∀W,Below w.heap.size w W->Calls Tryz.prog 101 #[.string sv] W (WPost l2 W))):
  Calls Tryz.prog 144 #[.agg #[.int .i64 8,.string sa,.string sv,.string sf,.string sl,.slice A an c,.slice D n d]] w (WPost (Ber.fieldOf 168 (l1++l2)) w):=by
 obtain⟨l3,hl3⟩:∃l3,l1++l2=l3:=⟨_,rfl⟩
 obtain⟨bs,hbs⟩:∃bs,Ber.fieldOf 168 l3=bs:=⟨_,rfl⟩
 rw[hl3,hbs]
 have HTHS:Hid (tot [l1,l2]<=300000):=hide (by simp[tot];omega)
 have HEHS:Hid (Ber.fieldOf 168 ([l1,l2]:List (List UInt8)).flatten=bs):=hide (by rw[<-hbs,<-hl3];simp)
 clear hl3 hbs hl1 hl2
 have hb1:Below w.heap.size w (w.alloc (.cells #[.int .i64 8,.string sa,.string sv,.string sf,.string sl,.slice A an c,.slice D n d] 39)):=(Below.refl _ _).alloc (Nat.le_refl _) _
 have hB1:Blk (w.alloc (.cells #[.int .i64 8,.string sa,.string sv,.string sf,.string sl,.slice A an c,.slice D n d] 39)) w.heap.size [.int .i64 8,.string sa,.string sv,.string sf,.string sl,.slice A an c,.slice D n d]:=Blk.new w [.int .i64 8,.string sa,.string sv,.string sf,.string sl,.slice A an c,.slice D n d] 39
 obtain⟨w1,hw1⟩:∃w1,w.alloc (.cells #[.int .i64 8,.string sa,.string sv,.string sf,.string sl,.slice A an c,.slice D n d] 39)=w1:=⟨_,rfl⟩
 rw[hw1] at hb1 hB1
 obtain⟨p1,hp1⟩:∃p1,w.heap.size=p1:=⟨_,rfl⟩
 rw[hp1] at hB1
 have KX:Hid (∀W,Below w1.heap.size w1 W->W.rangeAt p1 0 [.int .i64 8,.string sa,.string sv,.string sf,.string sl,.slice A an c,.slice D n d]):=hide fun W hW=>(hB1.fr (Fr.of (X:=fun _=>False) hW) id).range
 have k0:=hB1.cells 0 _ rfl
 have k1:=hB1.cells 1 _ rfl
 have k6:=hB1.cells 6 _ rfl
 have HBw:=hide hb1
 have Hw:=hide hw1
 have Hp:=hide hp1
 clear hb1 hB1 hw1 hp1
 go_enter Tryz.func144,Tryz.ntmps144
 go_upto_region 1 with fail
 rw[Hw.out]
 try rw[Hp.out]
 clear Hw
 have H1c:Hid (∀W,Below w1.heap.size w1 W->Calls Tryz.prog 101 #[.string sa] W (WPost l1 W)):=hide fun W hW=>H1c0.out W (HBw.out.trans (hW.mono HBw.out.size))
 have H2c:Hid (∀W,Below w1.heap.size w1 W->Calls Tryz.prog 101 #[.string sv] W (WPost l2 W)):=hide fun W hW=>H2c0.out W (HBw.out.trans (hW.mono HBw.out.size))
 have HB0:Hid (Below w1.heap.size w1 w1.drew):=hide (Below.refl _ _).drew
 clear H1c0 H2c0 k1 k6
 go_wp2_with fail
 clear k0
 refine zAs (by kernel_rfl) ?_
 generalize w1.drew=wd at *
 have HBc:=HB0
 refine zAa 0 (some 33) rfl rfl (by kernel_rfl) rfl (by rfl) (fun W hW=>by go_simp<;>with_reducible rfl) ?_
 try simp only[pU]
 refine zAa 1 (some 34) rfl rfl (by kernel_rfl) rfl (by rfl) (fun W hW=>by go_simp<;>with_reducible rfl) ?_
 try simp only[pU]
 refine zAa 2 (some 35) (v:=.string sa) rfl rfl (by kernel_rfl) rfl (by rfl) (fun W hW=>?yt82) ?_
 case yt82=>
  exact zAd _ _ _ rfl p1 1 rfl _ (loadS8 W _ _ (by have:=KX.out W (HB0.out.trans (hW.mono HB0.out.size)) 1 _ rfl;simpa using this))
 try simp only[pU]
 refine zAa 4 (some 37) rfl rfl (by kernel_rfl) rfl (by rfl) (fun W hW=>by go_simp<;>with_reducible rfl) ?_
 try simp only[pU]
 refine zAa 5 (some 38) (v:=.string sv) rfl rfl (by kernel_rfl) rfl (by rfl) (fun W hW=>?yt85) ?_
 case yt85=>
  exact zAd _ _ _ rfl p1 2 rfl _ (loadS8 W _ _ (by have:=KX.out W (HB0.out.trans (hW.mono HB0.out.size)) 2 _ rfl;simpa using this))
 try simp only[pU]
 refine zAc 3 rfl (by kernel_rfl) (fun K hK=>?_)
 go_simp
 refine (H1c.out _ HBc.out).mono ?_
 rintro e w1 hpost
 obtain⟨v1,rfl,hown,hb⟩:=hpost.out
 obtain⟨A1,c1,rfl,-,hA⟩:=own_form hown
 have H1:=hide hA
 replace HBc:=hT HBc hb
 refine hK.out _ _ hb ?_
 clear hK K hb hpost hown hA
 try simp only[pU]
 refine zAc 6 rfl (by kernel_rfl) (fun K hK=>?_)
 go_simp
 refine (H2c.out _ HBc.out).mono ?_
 rintro e w2 hpost
 obtain⟨v2,rfl,hown,hb⟩:=hpost.out
 obtain⟨A2,c2,rfl,-,hA⟩:=own_form hown
 replace H1:=hide ((H1.out.below hb).upto hb.size)
 have H2:=hide hA
 replace HBc:=hT HBc hb
 refine hK.out _ _ hb ?_
 clear hK K hb hpost hown hA
 try simp only[pU]
 refine zAc 7 rfl (by kernel_rfl) (fun K hK=>?_)
 go_simp
 have hb:Below w2.heap.size w2 (w2.alloc (.cells #[.slice A1 l1.length c1,.slice A2 l2.length c2] 33)):=(Below.refl _ _).alloc (Nat.le_refl _) _
 have hblk:=Blk.new w2 [.slice A1 l1.length c1,.slice A2 l2.length c2] 33
 have hS:SLs (w2.alloc (.cells #[.slice A1 l1.length c1,.slice A2 l2.length c2] 33)) [l1,l2] (some ⟨w2.heap.size,0,none⟩) 2:=SLs.blk hblk rfl rfl (fun i l hi=>by
  match i,hi with
  | 0,hi=>cases hi;exact⟨_,_,rfl,(H1.out.below hb).upto hb.size⟩
  | 1,hi=>cases hi;exact⟨_,_,rfl,(H2.out.below hb).upto hb.size⟩)
 obtain⟨wb,hwn⟩:∃wb,w2.alloc (.cells #[.slice A1 l1.length c1,.slice A2 l2.length c2] 33)=wb:=⟨_,rfl⟩
 rw[hwn] at hb hS ⊢
 clear hblk hwn
 have HS:=hide hS
 replace HBc:=hT HBc hb
 refine hK.out _ _ hb ?_
 clear hK K hb hS H1 H2
 try simp only[pU]
 refine zAc 8 rfl (by kernel_rfl) (fun K hK=>?_)
 go_simp
 have hj:=zBn 168 wb _ 2 2 _ HS.out (by omega) (by have:=HTHS.out;omega)
 rw[HEHS.out] at hj
 refine hj.mono ?_
 rintro e wr hpost
 obtain⟨vr,rfl,hown,hb⟩:=hpost.out
 have HOr:=hide (zAg hown HBc.out.size)
 replace HBc:=hT HBc hb
 refine hK.out _ _ hb ?_
 clear hK K hb hpost hown hj HS
 try simp only[pU]
 refine zAa 9 (some 2) rfl rfl (by kernel_rfl) rfl (by rfl) (fun W hW=>by go_simp<;>with_reducible rfl) ?_
 try simp only[pU]
 refine zAi (by kernel_rfl) ?_ _
 go_wp2
 go_ret
 exact⟨⟨_,rfl,zAg HOr.out HBw.out.size,HBw.out.trans (HBc.out.mono HBw.out.size)⟩⟩
theorem wfilter_any (t:FT):t.all=true->t.tiny->t.depth<=20->∀(w:World) (cs:List Value),FIn w w.heap.size t cs->Calls Tryz.prog 144 #[.agg cs.toArray] w (WPost (Wr.filterW t) w):=by
 induction t using FT.induct
 rename_i k a v f l an ps ih
 intro h hwee hdp w cs hF
 have hw:=FT.way h
 simp only[FT.all,Bool.and_eq_true] at h
 have hp:=FT.all_parts h.2
 simp only[FIn] at hF
 simp only[FT.tiny] at hwee
 simp only[FT.depth] at hdp
 obtain⟨A,c,D,d,xs,rfl,⟨hml,hnl⟩,hA,hD,hP⟩:=hF
 have hpw:=FT.tinyL_mem hwee.2.2
 simp only[Wr.filterW]
 rcases hw with hk | ⟨rfl,ha,hf,hl,hs⟩ | ⟨rfl,ha⟩ | ⟨hk,ha,hv⟩
 ·rw [if_pos hk,Wr.filtersGo_each]
  have key:∀(t:UInt8) (W:World),Below w.heap.size w W->Calls Tryz.prog 168 #[c8 t,.slice D ps.length d,.func (.func 144) #[] #[]] W (WPost (Ber.fieldOf t (Wr.eachGo Wr.filterW ps [])) W):=fun t W hW=>by
   have hD2:=(hD.below hW).upto hW.size
   have hP2:FsIn W W.heap.size ps xs:=(hP.below hW).upto hW.size
   refine wlistF_any t 144 #[] (fun args w=>by go_simp) Wr.filterW ps W D ps.length d ⟨D,d,xs,rfl,by omega,hD2.hasP,fs_row hP2⟩ (fun x hx=>?_) (fun x hx V cs hV hr=>?_)
   ·have h1:=filterW_len x (hp x hx)
    have h2:=FT.depth_mem hx
    have h3:=Nat.mul_le_mul_left 30000 (show x.depth<=20 by omega)
    omega
   ·have hr:FInP V (inB V) x cs:=hr
    simpa using ih x hx (hp x hx) (hpw x hx) (by have:=FT.depth_mem hx;omega) V cs (hr.fin (fun k hk=>hk))
  rcases hk with rfl | rfl | rfl
  ·exact wfilter_0 w _ _ _ _ A D an.length c ps.length d _ (hide fun W hW=>key 160 W hW)
  ·exact wfilter_1 w _ _ _ _ A D an.length c ps.length d _ (hide fun W hW=>key 161 W hW)
  ·exact wfilter_2 w _ _ _ _ A D an.length c ps.length d _ (hide fun W hW=>key 162 W hW)
 ·rw [if_neg (by omega),if_pos rfl]
  exact wfilter_4 w _ _ _ _ A D an.length c ps.length d _ _ (by have:=Wr.field_len 4 a;omega) (by have:=Wr.piecesW_len hf hl hs;omega) (hide fun W hW=>zA0 a (by omega) W)
   (hide fun W hW=>wpieces_any 4 _ _ f l an A c D ps.length d W (by omega) (by omega) (fun s hx=>by have:=hs s hx;omega) (by omega) ((hA.below hW).upto hW.size).hasP)
 ·rw [if_neg (by omega),if_neg (by omega),if_pos rfl]
  exact wfilter_7 w _ _ _ _ A D an.length c ps.length d _ (hide fun W hW=>zBb 0x87 a (by omega) W)
 ·rw [if_neg (by omega),if_neg (by omega),if_neg (by omega)]
  have ka:=Wr.field_len 4 a
  have kv:=Wr.field_len 4 v
  rcases hk with rfl | rfl | rfl | rfl
  ·exact wfilter_3 w _ _ _ _ A D an.length c ps.length d _ _ (by omega) (by omega) (hide fun W hW=>zA0 a (by omega) W) (hide fun W hW=>zA0 v (by omega) W)
  ·exact wfilter_5 w _ _ _ _ A D an.length c ps.length d _ _ (by omega) (by omega) (hide fun W hW=>zA0 a (by omega) W) (hide fun W hW=>zA0 v (by omega) W)
  ·exact wfilter_6 w _ _ _ _ A D an.length c ps.length d _ _ (by omega) (by omega) (hide fun W hW=>zA0 a (by omega) W) (hide fun W hW=>zA0 v (by omega) W)
  ·exact wfilter_8 w _ _ _ _ A D an.length c ps.length d _ _ (by omega) (by omega) (hide fun W hW=>zA0 a (by omega) W) (hide fun W hW=>zA0 v (by omega) W)
end Go.Proofs.YtcpjmgfloimfhaaGreat
