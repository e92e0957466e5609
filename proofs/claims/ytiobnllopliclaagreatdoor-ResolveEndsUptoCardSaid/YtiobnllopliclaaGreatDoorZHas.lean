/- Whether a list has an entry of a name, by the program. By an AI agent. -/
import Derived.Test.YtiobnllopliclaaGreatDoorZLead
set_option maxRecDepth 100000
set_option maxHeartbeats 32000000
namespace Go.Proofs.YtiobnllopliclaaGreatDoor
open Go.RowKit
set_option linter.unusedVariables false
set_option linter.unusedSimpArgs false
theorem indexn_any (g:Nat) (lb:Array Value) (eg:∀args w,(callFunc g args).run Tryz.prog w=.ok (.enter g args) w) (p:EN→Bool) (L:List EN) (w:World) (A:Option Addr) (n c:Nat) (xs:List Value) (hA:Has w w.heap.size 2 A n xs) (hL:ENs w w.heap.size xs L) (hn:n≤1000000)
  (hp:∀e∈L,∀W (U:Option Addr) (cu:Nat),Below w.heap.size w W→Calls Tryz.prog g (#[.agg #[.string (txt e.1),.slice U e.2.length cu]]++lb) W fun e2 w'=>e2=.returned (.bool (p e))∧Below W.heap.size W w') (B:Bool) (hB:L.any p=B):
  Calls Tryz.prog 124 #[.slice A n c,.func (.func g) #[] lb] w fun e w'=>∃x:Int,e=.returned (.int .i64 x)∧(0≤x↔B=true)∧Below w.heap.size w w':=by
 have hnl:=hA.ens_n hL
 have HA:=hide hA
 have HL:=hide hL
 have HN:=hide hnl
 have HP:=hide hp
 have HB0:=hide hB
 clear hA hL hnl hp hB
 go_enter Tryz.func124,Tryz.ntmps124
 go_wp2
 go_loopg [8] n (fun r s8 wx=>∃i:Nat,i+r=n∧s8=.int .i64 (i:Int)∧Hid (∀u∈L.take i,p u=false)∧Hid (Below w.heap.size w wx))
 case atStart=>exact⟨0,by omega,rfl,hide fun u hu=>(by simp at hu),hide (Below.refl _ _)⟩
 case round=>
  obtain⟨i,hig,rfl,hpre,hbr⟩:=hrel
  cases gk with
  | zero=>
   obtain rfl:n=i:=by omega
   have hiz:¬((n:Int)<(n:Int)):=by omega
   have hno:Hid (B=false):=hide (by
    rw[←HB0.out,List.any_eq_false]
    intro u hu h
    have:=hpre.out
    rw[List.take_of_length_le (by rw[HN.out];exact Nat.le_refl _)] at this
    rw[this u hu] at h
    cases h)
   clear hpre HA HL HN HP HB0
   go_wp2
   go_ret
   exact⟨-1,rfl,⟨fun h=>absurd h (by omega),fun h=>by rw[hno.out] at h;cases h⟩,hbr.out⟩
  | succ r=>
   have hi:i<n:=by omega
   have hiz:(i:Int)<(n:Int):=by omega
   obtain⟨u,hu⟩:∃u,L[i]?=some u:=⟨_,List.getElem?_eq_getElem (by rw[←HN.out];exact hi)⟩
   obtain⟨g1,o1,hAe,hg,hat⟩:=HA.out.en HL.out (fun h=>by rw[h] at hu;simp at hu)
   subst hAe
   obtain⟨U,cu,ys,hat⟩:=hat i u hu
   have e0:=(hbr.out.cell (p:=⟨g1,o1+i*2,none⟩) hg).trans hat.e0
   have e1:=(hbr.out.cell (p:=⟨g1,o1+i*2+1,none⟩) hg).trans hat.e1
   have hcall:=HP.out u (List.mem_of_getElem? hu) wr U cu hbr.out
   obtain⟨b,hb⟩:∃b,p u=b:=⟨_,rfl⟩
   rw[hb] at hcall
   generalize u.2.length=ku at *
   have Hcall:=hide hcall
   cases b with
   | true=>
    have hyes:Hid (B=true):=hide (by rw[←HB0.out];exact List.any_eq_true.2 ⟨u,List.mem_of_getElem? hu,hb⟩)
    generalize txt u.1=SU at *
    clear hcall hat hu hb hpre HA HL HN HP HB0
    go_wp2_with (go_at_fn g;fail)
    refine Hcall.out.mono ?_
    rintro e w3 ⟨rfl,hb3⟩
    have HE:=hide (hbr.out.trans (hb3.mono hbr.out.size))
    clear hb3 hbr Hcall e0 e1
    go_wp2
    go_ret
    exact⟨(i:Int),rfl,⟨fun _=>hyes.out,fun _=>by omega⟩,HE.out⟩
   | false=>
    have hnext:Hid (∀x∈L.take (i+1),p x=false):=hide (by
     rw[List.take_add_one,hu]
     intro x hx
     rcases List.mem_append.1 hx with h | h
     ·exact hpre.out x h
     ·obtain rfl:x=u:=by simpa using h
      exact hb)
    generalize txt u.1=SU at *
    clear hcall hat hu hb hpre
    go_wp2_with (go_at_fn g;fail)
    refine Hcall.out.mono ?_
    rintro e w3 ⟨rfl,hb3⟩
    have HE:=hide (hbr.out.trans (hb3.mono hbr.out.size))
    clear hb3 hbr Hcall e0 e1
    go_wp2
    go_roundg r
    case measure=>omega
    case rel=>exact⟨i+1,by omega,by go_num,hnext,HE⟩
theorem containsn_any (g:Nat) (lb:Array Value) (eg:∀args w,(callFunc g args).run Tryz.prog w=.ok (.enter g args) w) (p:EN→Bool) (L:List EN) (w:World) (A:Option Addr) (n c:Nat) (xs:List Value) (hA:Has w w.heap.size 2 A n xs) (hL:ENs w w.heap.size xs L) (hn:n≤1000000)
  (hp:∀e∈L,∀W (U:Option Addr) (cu:Nat),Below w.heap.size w W→Calls Tryz.prog g (#[.agg #[.string (txt e.1),.slice U e.2.length cu]]++lb) W fun e2 w'=>e2=.returned (.bool (p e))∧Below W.heap.size W w'):
  Calls Tryz.prog 94 #[.slice A n c,.func (.func g) #[] lb] w fun e w'=>e=.returned (.bool (L.any p))∧Below w.heap.size w w':=by
 obtain⟨B,hB⟩:∃B,L.any p=B:=⟨_,rfl⟩
 rw[hB]
 have HI:=hide (indexn_any g lb eg p L w A n c xs hA hL hn hp B hB)
 clear hA hL hn hp hB
 go_enter Tryz.func94,Tryz.ntmps94
 go_wp2_with (go_at_call 124;fail)
 refine HI.out.mono ?_
 rintro e w2 ⟨x,rfl,hx,hb⟩
 have Hx:=hide hx
 have HB:=hide hb
 clear HI hx hb
 cases B with
 | true=>
  have h:0≤x:=Hx.out.2 rfl
  clear Hx
  go_wp2
  go_ret
  exact⟨by simp;try omega,HB.out⟩
 | false=>
  have h:¬0≤x:=fun q=>by have:=Hx.out.1 q;cases this
  clear Hx
  go_wp2
  go_ret
  exact⟨by simp;try omega,HB.out⟩
theorem hasn1_any (x nm:List UInt8) (U:Option Addr) (k cu:Nat) (w:World) (h:Nat) (hh:w.cell? ⟨h,0,none⟩=some (.string (txt x))) (lh:h<w.heap.size):
  Calls Tryz.prog 95 #[.agg #[.string (txt nm),.slice U k cu],.pointer (some ⟨h,0,none⟩)] w fun e w'=>e=.returned (.bool (nm==x))∧Below w.heap.size w w':=by
 have hb1:=below1 w (.cells #[.string (txt nm),.slice U k cu] 26)
 have hX:=BoxE.new w (txt nm) U k cu 26
 have x0:=hX.c0
 have n0:=(hb1.cell (p:=⟨h,0,none⟩) lh).trans hh
 have q1:((txt nm).toList==(txt x).toList)=(nm==x):=by rw[txt_bytes,txt_bytes]
 have HB:=hide hb1
 generalize (nm==x)=b at *
 generalize txt nm=S at *
 generalize txt x=X at *
 clear hb1 hX hh
 go_enter Tryz.func95,Tryz.ntmps95
 go_wp2
 go_ret
 exact⟨rfl,HB.out⟩
theorem phasn_any (x:List UInt8) (L:List EN) (w:World) (A:Option Addr) (n c:Nat) (xs:List Value) (hA:Has w w.heap.size 2 A n xs) (hL:ENs w w.heap.size xs L) (hn:n≤1000000):
  Calls Tryz.prog 57 #[.slice A n c,.string (txt x)] w fun e w'=>e=.returned (.bool (L.any fun e=>e.1==x))∧Below w.heap.size w w':=by
 have hb1:=below1 w (.cells #[.string (txt x)] 9)
 have hN:(w.alloc (.cells #[.string (txt x)] 9)).cell? ⟨w.heap.size,0,none⟩=some (.string (txt x)):=by rw[World.cell?_alloc_at (hn:=by simp)];rfl
 have hNl:w.heap.size<(w.alloc (.cells #[.string (txt x)] 9)).heap.size:=by simp
 obtain⟨w1,hw1⟩:∃w1,w.alloc (.cells #[.string (txt x)] 9)=w1:=⟨_,rfl⟩
 rw[hw1] at hb1 hN hNl
 obtain⟨h,hh⟩:∃h,w.heap.size=h:=⟨_,rfl⟩
 have hC:=containsn_any 95 #[.pointer (some ⟨w.heap.size,0,none⟩)] (fun args w=>by go_simp) (fun e=>e.1==x) L w1 A n c xs ((hA.below hb1).upto hb1.size) (hL.grow hb1) hn
  (fun e he W U cu hW=>hasn1_any x e.1 U _ cu W w.heap.size ((hW.cell (p:=⟨w.heap.size,0,none⟩) hNl).trans hN) (Nat.lt_of_lt_of_le hNl hW.size))
 generalize (L.any fun e=>e.1==x)=b at *
 have HC:=hide hC
 have HB:=hide hb1
 have Hw1:=hide hw1
 generalize txt x=X at *
 clear hC hb1 hN hNl hw1 hA hL hh
 go_enter Tryz.func57,Tryz.ntmps57
 go_upto_region 1 with fail
 rw[Hw1.out]
 go_wp2_with (go_at_call 94;fail)
 refine HC.out.mono ?_
 rintro e w2 ⟨rfl,hb2⟩
 have HE:=hide (HB.out.trans (hb2.mono HB.out.size))
 clear hb2 HB HC
 go_wp2
 go_ret
 exact⟨rfl,HE.out⟩
end Go.Proofs.YtiobnllopliclaaGreatDoor
