/- What reads a filter. By an AI agent. -/
import Derived.Test.YtpkedjohgmnhhaaGreatM11
import Derived.Test.YtpkedjohgmnhhaaGreatJForm
set_option maxRecDepth 100000
set_option maxHeartbeats 32000000
set_option linter.unusedSimpArgs false
namespace Go.Proofs.YtpkedjohgmnhhaaGreat
open Go.RowKit
set_option linter.unusedVariables false
theorem filter_zero (F:List Fd):Rd.filterR 0 F=none:=rfl
theorem filter_nil (d:Nat):Rd.filterR d []=none:=by cases d<;>rfl
theorem filter_has (d:Nat) (c:List UInt8) (r:List Fd):Rd.filterR (d+1) ((135,c)::r)=(Rd.taggedR 135 ((135,c)::r)).map fun p=>(FT.mk 7 p.1 [] [] [] [] [],p.2):=by
 rw[Rd.filterR];simp only[if_true]
theorem rep_plain {w:World} {P:Nat→Prop} {k:Int} {a v f l:List UInt8}:repE elF w P (.mk k a v f l [] []) (.agg #[.int .i64 k,.string (txt a),.string (txt v),.string (txt f),.string (txt l),.slice none 0 0,.slice none 0 0]):=
 ⟨_,rfl,⟨none,0,none,0,[],rfl,⟨by unfold maxLen;simp,by unfold maxLen;simp⟩,HasP.none _,HasP.none _,rfl⟩⟩
theorem filter_any (d:Nat) (hd:d≤20):FiltP d:=by
 induction d with
 | zero=>
  intro w lo g b F φ h
  rw[show (((0:Nat):Int))=0 from rfl]
  have hgl:=h.log
  have hlt:=h.lt
  have hbk:=h.back
  have hblo:=h.blo
  have hfa:Fr (fun _=>False) w (w.alloc (.cells #[.int .i64 0] 3)):=Fr.alloc _ _ _
  have hcd:(w.alloc (.cells #[.int .i64 0] 3)).cell? ⟨w.heap.size,0,none⟩=some (.int .i64 0):=by rw[World.cell?_alloc_at (hn:=by simp)];rfl
  obtain⟨w1,hw1⟩:∃w1,w.alloc (.cells #[.int .i64 0] 3)=w1:=⟨_,rfl⟩
  have hs1:w1.heap.size=w.heap.size+1:=by rw[←hw1];simp
  rw[hw1] at hfa hcd
  have hfb:Fr (fun _=>False) w1 (w1.alloc (.cells #[.int .i64 0,.string ⟨#[]⟩,.string ⟨#[]⟩,.string ⟨#[]⟩,.string ⟨#[]⟩,.slice none 0 0,.slice none 0 0] 39)):=Fr.alloc _ _ _
  have hB2:Blk (w1.alloc (.cells #[.int .i64 0,.string ⟨#[]⟩,.string ⟨#[]⟩,.string ⟨#[]⟩,.string ⟨#[]⟩,.slice none 0 0,.slice none 0 0] 39)) w1.heap.size [.int .i64 0,.string ⟨#[]⟩,.string ⟨#[]⟩,.string ⟨#[]⟩,.string ⟨#[]⟩,.slice none 0 0,.slice none 0 0]:=Blk.new w1 [.int .i64 0,.string ⟨#[]⟩,.string ⟨#[]⟩,.string ⟨#[]⟩,.string ⟨#[]⟩,.slice none 0 0,.slice none 0 0] 39
  obtain⟨w2,hw2⟩:∃w2,w1.alloc (.cells #[.int .i64 0,.string ⟨#[]⟩,.string ⟨#[]⟩,.string ⟨#[]⟩,.string ⟨#[]⟩,.slice none 0 0,.slice none 0 0] 39)=w2:=⟨_,rfl⟩
  have hs2:w2.heap.size=w.heap.size+2:=by rw[←hw2];simp[hs1]
  rw[hw2] at hfb hB2
  rw[hs1] at hB2
  have hcd2:=(hfb.cell (p:=⟨w.heap.size,0,none⟩) (by simp only;omega) id).trans hcd
  have HR2:=hide (h.fr (hfa.trans hfb) id id (fun _ _ _=>id))
  have HF2:=hide (hfa.trans hfb)
  obtain⟨db,hdb⟩:∃db,w.heap.size=db:=⟨_,rfl⟩
  obtain⟨rb,hrb⟩:∃rb,w.heap.size+1=rb:=⟨_,rfl⟩
  rw[hdb] at hcd2
  rw[hrb] at hB2
  have Hn:=hide (And.intro hdb (And.intro hrb (And.intro hs1 (And.intro hs2 (And.intro hgl (And.intro hlt (And.intro hbk hblo)))))))
  have HB2:=hide hB2
  have Hw:=hide (And.intro hw1 hw2)
  clear hfa hfb hcd h hgl hlt hbk hblo hw1 hw2 hs1 hs2 hdb hrb hB2
  have hfl:=fail_any w2 lo g b F φ HR2.out
  go_enter Tryz.func173,Tryz.ntmps173
  go_upto_region 2 with fail
  rw[Hw.out.1,Hw.out.2]
  try rw[Hn.out.2.2.1]
  rw[Hn.out.2.1,Hn.out.1]
  have H1:Hid (∀u∈([.int .i64 0,.string ⟨#[]⟩,.string ⟨#[]⟩,.string ⟨#[]⟩,.string ⟨#[]⟩,.slice none 0 0,.slice none 0 0]:List Value),u.oneCell'=true):=hide (by intro u hu;simp only[List.mem_cons,List.not_mem_nil,or_false] at hu;rcases hu with rfl | rfl | rfl | rfl | rfl | rfl | rfl<;>rfl)
  go_wp2_with (go_at_call 78;fail)
  refine hfl.mono ?_
  rintro e w3 ⟨rfl,hr3,hf3⟩
  have hB3:=HB2.out.fr hf3 (by rintro (q | q)<;>(have:=Hn.out;omega))
  have HR3:=hide hr3
  have HB3:=hide hB3
  have HF3:=hide (HF2.out.mono (Y:=own2 g b) fun _ _ q=>q.elim)
  have Hf3:=hide hf3
  clear hfl hr3 hB3 hf3
  have q0:=HB3.out.cells 0 _ rfl
  have q1:=HB3.out.cells 1 _ rfl
  have q2:=HB3.out.cells 2 _ rfl
  have q3:=HB3.out.cells 3 _ rfl
  have q4:=HB3.out.cells 4 _ rfl
  have q5:=HB3.out.cells 5 _ rfl
  have q6:=HB3.out.cells 6 _ rfl
  have qz:=HB3.out.fz
  go_wp2
  change bodyPost _ _ _ _ _ (w3.setCells rb 0 [.int .i64 0,.string ⟨#[]⟩,.string ⟨#[]⟩,.string ⟨#[]⟩,.string ⟨#[]⟩,.slice none 0 0,.slice none 0 0])
  clear q0 q1 q2 q3 q4 q5 q6 qz
  have hBz:=HB3.out.sets 0 [.int .i64 0,.string ⟨#[]⟩,.string ⟨#[]⟩,.string ⟨#[]⟩,.string ⟨#[]⟩,.slice none 0 0,.slice none 0 0] (by simp) [.int .i64 0,.string ⟨#[]⟩,.string ⟨#[]⟩,.string ⟨#[]⟩,.string ⟨#[]⟩,.slice none 0 0,.slice none 0 0] (by simp)
  have hfz:Fr (fun k=>k=rb) w3 (w3.setCells rb 0 [.int .i64 0,.string ⟨#[]⟩,.string ⟨#[]⟩,.string ⟨#[]⟩,.string ⟨#[]⟩,.slice none 0 0,.slice none 0 0]):=Fr.setCells w3 rb 0 [.int .i64 0,.string ⟨#[]⟩,.string ⟨#[]⟩,.string ⟨#[]⟩,.string ⟨#[]⟩,.slice none 0 0,.slice none 0 0] rfl
  have HBz:=hide hBz
  have Hfz:=hide hfz
  clear hBz hfz
  generalize w3.setCells rb 0 [.int .i64 0,.string ⟨#[]⟩,.string ⟨#[]⟩,.string ⟨#[]⟩,.string ⟨#[]⟩,.slice none 0 0,.slice none 0 0]=wz at *
  refine bodyPost_ret (v:=.agg #[.int .i64 0,.string ⟨#[]⟩,.string ⟨#[]⟩,.string ⟨#[]⟩,.string ⟨#[]⟩,.slice none 0 0,.slice none 0 0]) ?_ rfl ?_
  ·exact results_cell1 rfl _ wz rb [.int .i64 0,.string ⟨#[]⟩,.string ⟨#[]⟩,.string ⟨#[]⟩,.string ⟨#[]⟩,.slice none 0 0,.slice none 0 0] _ rfl HBz.out.range Tryz.underlying39 rfl (by kernel_rfl)
  ·refine ⟨⟨.mk 0 [] [] [] [] [] [],_,F,rfl,rep_plain,?_,(HF3.out.trans Hf3.out).trans' Hfz.out (fun k hk q=>by have:=Hn.out;omega),?_⟩⟩
   ·have hrz:=HR3.out.fr Hfz.out (by have:=Hn.out;omega) (by have:=Hn.out;omega) (fun k h1 h2=>by have:=Hn.out;omega)
    rw[show (φ||(Rd.filterR 0 F).isNone)=true from by rw[filter_zero];simp]
    exact hrz
   ·intro h0 x0 F0 hh
    rw[filter_zero] at hh;cases hh
 | succ d ih=>
  intro w lo g b F φ h
  have hP:=ih (by omega)
  rw[show (((d+1:Nat):Int))=(d:Int)+1 by omega]
  have hgl:=h.log
  have hlt:=h.lt
  have hbk:=h.back
  have hblo:=h.blo
  have hfa:Fr (fun _=>False) w (w.alloc (.cells #[.int .i64 ((d:Int)+1)] 3)):=Fr.alloc _ _ _
  have hcd:(w.alloc (.cells #[.int .i64 ((d:Int)+1)] 3)).cell? ⟨w.heap.size,0,none⟩=some (.int .i64 ((d:Int)+1)):=by rw[World.cell?_alloc_at (hn:=by simp)];rfl
  obtain⟨w1,hw1⟩:∃w1,w.alloc (.cells #[.int .i64 ((d:Int)+1)] 3)=w1:=⟨_,rfl⟩
  have hs1:w1.heap.size=w.heap.size+1:=by rw[←hw1];simp
  rw[hw1] at hfa hcd
  have hfb:Fr (fun _=>False) w1 (w1.alloc (.cells #[.int .i64 0,.string ⟨#[]⟩,.string ⟨#[]⟩,.string ⟨#[]⟩,.string ⟨#[]⟩,.slice none 0 0,.slice none 0 0] 39)):=Fr.alloc _ _ _
  have hB2:Blk (w1.alloc (.cells #[.int .i64 0,.string ⟨#[]⟩,.string ⟨#[]⟩,.string ⟨#[]⟩,.string ⟨#[]⟩,.slice none 0 0,.slice none 0 0] 39)) w1.heap.size [.int .i64 0,.string ⟨#[]⟩,.string ⟨#[]⟩,.string ⟨#[]⟩,.string ⟨#[]⟩,.slice none 0 0,.slice none 0 0]:=Blk.new w1 [.int .i64 0,.string ⟨#[]⟩,.string ⟨#[]⟩,.string ⟨#[]⟩,.string ⟨#[]⟩,.slice none 0 0,.slice none 0 0] 39
  obtain⟨w2,hw2⟩:∃w2,w1.alloc (.cells #[.int .i64 0,.string ⟨#[]⟩,.string ⟨#[]⟩,.string ⟨#[]⟩,.string ⟨#[]⟩,.slice none 0 0,.slice none 0 0] 39)=w2:=⟨_,rfl⟩
  have hs2:w2.heap.size=w.heap.size+2:=by rw[←hw2];simp[hs1]
  rw[hw2] at hfb hB2
  rw[hs1] at hB2
  have hcd2:=(hfb.cell (p:=⟨w.heap.size,0,none⟩) (by simp only;omega) id).trans hcd
  have HR2:=hide (h.fr (hfa.trans hfb) id id (fun _ _ _=>id))
  have HF2:=hide (hfa.trans hfb)
  obtain⟨db,hdb⟩:∃db,w.heap.size=db:=⟨_,rfl⟩
  obtain⟨rb,hrb⟩:∃rb,w.heap.size+1=rb:=⟨_,rfl⟩
  rw[hdb] at hcd2
  rw[hrb] at hB2
  have Hn:=hide (And.intro hdb (And.intro hrb (And.intro hs1 (And.intro hs2 (And.intro hgl (And.intro hlt (And.intro hbk hblo)))))))
  have HB2:=hide hB2
  have Hw:=hide (And.intro hw1 hw2)
  clear hfa hfb hcd h hgl hlt hbk hblo hw1 hw2 hs1 hs2 hdb hrb hB2
  have hdz:(((d:Int)+1)==0)=false:=beq_false_of_ne (by omega)
  have hmo:=more_any w2 lo g b F φ HR2.out
  have hfl:=fail_any w2 lo g b F φ HR2.out
  cases hmb:moreB F φ with
  | false=>
   rw[hmb] at hmo
   have hno:φ=true∨F=[]:=by
    cases φ with
    | true=>exact .inl rfl
    | false=>cases F with
     | nil=>exact .inr rfl
     | cons f r=>cases hmb
   have Hno:=hide hno
   clear hmb hno
   go_enter Tryz.func173,Tryz.ntmps173
   go_upto_region 1 with fail
   rw[Hw.out.1,Hw.out.2]
   try rw[Hn.out.2.2.1]
   rw[Hn.out.2.1,Hn.out.1]
   go_wp2_with (go_at_call 79;fail)
   refine hmo.mono ?_
   rintro e w9 ⟨rfl,hw9⟩
   obtain rfl:=hw9.symm
   clear hmo hdz
   have H1:Hid (∀u∈([.int .i64 0,.string ⟨#[]⟩,.string ⟨#[]⟩,.string ⟨#[]⟩,.string ⟨#[]⟩,.slice none 0 0,.slice none 0 0]:List Value),u.oneCell'=true):=hide (by intro u hu;simp only[List.mem_cons,List.not_mem_nil,or_false] at hu;rcases hu with rfl | rfl | rfl | rfl | rfl | rfl | rfl<;>rfl)
   go_wp2_with (go_at_call 78;fail)
   refine hfl.mono ?_
   rintro e w3 ⟨rfl,hr3,hf3⟩
   have hB3:=HB2.out.fr hf3 (by rintro (q | q)<;>(have:=Hn.out;omega))
   have HR3:=hide hr3
   have HB3:=hide hB3
   have HF3:=hide (HF2.out.mono (Y:=own2 g b) fun _ _ q=>q.elim)
   have Hf3:=hide hf3
   clear hfl hr3 hB3 hf3
   have q0:=HB3.out.cells 0 _ rfl
   have q1:=HB3.out.cells 1 _ rfl
   have q2:=HB3.out.cells 2 _ rfl
   have q3:=HB3.out.cells 3 _ rfl
   have q4:=HB3.out.cells 4 _ rfl
   have q5:=HB3.out.cells 5 _ rfl
   have q6:=HB3.out.cells 6 _ rfl
   have qz:=HB3.out.fz
   go_wp2
   change bodyPost _ _ _ _ _ (w3.setCells rb 0 [.int .i64 0,.string ⟨#[]⟩,.string ⟨#[]⟩,.string ⟨#[]⟩,.string ⟨#[]⟩,.slice none 0 0,.slice none 0 0])
   clear q0 q1 q2 q3 q4 q5 q6 qz
   have hBz:=HB3.out.sets 0 [.int .i64 0,.string ⟨#[]⟩,.string ⟨#[]⟩,.string ⟨#[]⟩,.string ⟨#[]⟩,.slice none 0 0,.slice none 0 0] (by simp) [.int .i64 0,.string ⟨#[]⟩,.string ⟨#[]⟩,.string ⟨#[]⟩,.string ⟨#[]⟩,.slice none 0 0,.slice none 0 0] (by simp)
   have hfz:Fr (fun k=>k=rb) w3 (w3.setCells rb 0 [.int .i64 0,.string ⟨#[]⟩,.string ⟨#[]⟩,.string ⟨#[]⟩,.string ⟨#[]⟩,.slice none 0 0,.slice none 0 0]):=Fr.setCells w3 rb 0 [.int .i64 0,.string ⟨#[]⟩,.string ⟨#[]⟩,.string ⟨#[]⟩,.string ⟨#[]⟩,.slice none 0 0,.slice none 0 0] rfl
   have HBz:=hide hBz
   have Hfz:=hide hfz
   clear hBz hfz
   generalize w3.setCells rb 0 [.int .i64 0,.string ⟨#[]⟩,.string ⟨#[]⟩,.string ⟨#[]⟩,.string ⟨#[]⟩,.slice none 0 0,.slice none 0 0]=wz at *
   refine bodyPost_ret (v:=.agg #[.int .i64 0,.string ⟨#[]⟩,.string ⟨#[]⟩,.string ⟨#[]⟩,.string ⟨#[]⟩,.slice none 0 0,.slice none 0 0]) ?_ rfl ?_
   ·exact results_cell1 rfl _ wz rb [.int .i64 0,.string ⟨#[]⟩,.string ⟨#[]⟩,.string ⟨#[]⟩,.string ⟨#[]⟩,.slice none 0 0,.slice none 0 0] _ rfl HBz.out.range Tryz.underlying39 rfl (by kernel_rfl)
   ·refine ⟨⟨.mk 0 [] [] [] [] [] [],_,F,rfl,rep_plain,?_,(HF3.out.trans Hf3.out).trans' Hfz.out (fun k hk q=>by have:=Hn.out;omega),?_⟩⟩
    ·have hrz:=HR3.out.fr Hfz.out (by have:=Hn.out;omega) (by have:=Hn.out;omega) (fun k h1 h2=>by have:=Hn.out;omega)
     rw[show (φ||(Rd.filterR (d+1) F).isNone)=true from by rcases Hno.out with h | h;(rw[h];rfl);(rw[h,filter_nil];simp)]
     exact hrz
    ·intro h0 x0 F0 hh
     rcases Hno.out with h | h;(rw[h] at h0;cases h0);(rw[h,filter_nil] at hh;cases hh)
  | true=>
   rw[hmb] at hmo
   obtain⟨rfl,hne⟩:φ=false∧F≠[]:=by
    cases φ with
    | true=>cases hmb
    | false=>exact⟨rfl,fun e=>by subst e;cases hmb⟩
   obtain⟨⟨t,c⟩,r,rfl⟩:=List.exists_cons_of_ne_nil hne
   clear hmb hne hfl
   obtain⟨gt,ot,ct,gc,oc,cc,Bc,dc,e0,e1,k1,k2,k3,k4,k5⟩:=HR2.out.hd
   obtain⟨n,hn⟩:∃n,r.length+1=n:=⟨_,rfl⟩
   rw[hn] at e0
   have z0:(0:Int)<(n:Int):=by omega
   have zn:0<n:=by omega
   simp only[c8] at k1
   clear e1 k2 k3 k4 k5 hn
   by_cases ht:t=135
   ·subst ht
    have htg:=tagged_any w2 lo g b ((135,c)::r) false 135 HR2.out
    rw[show c8 135=.int .u8 135 from rfl] at htg
    rw[show (((135:UInt8).toNat:Nat):Int)=135 from rfl] at k1
    go_enter Tryz.func173,Tryz.ntmps173
    go_upto_region 1 with fail
    rw[Hw.out.1,Hw.out.2]
    try rw[Hn.out.2.2.1]
    rw[Hn.out.2.1,Hn.out.1]
    go_wp2_with (go_at_call 79;fail)
    refine hmo.mono ?_
    rintro e w9 ⟨rfl,hw9⟩
    obtain rfl:=hw9.symm
    clear hmo hdz
    go_wp2_with (go_at_call 128;fail)
    refine htg.mono ?_
    rintro e w3 hpost
    obtain⟨x,v,F',rfl,hrep,hr3,hf3,hq⟩:=hpost.out
    unfold repT at hrep
    subst hrep
    clear hpost htg
    have hB3:=HB2.out.fr hf3 (by rintro (q | q)<;>(have:=Hn.out;omega))
    have HR3:=hide hr3
    have HB3:=hide hB3
    have HF3:=hide (HF2.out.mono (Y:=own2 g b) fun _ _ q=>q.elim)
    have Hf3:=hide hf3
    have Hq:=hide hq
    clear hr3 hB3 hf3 hq e0 k1 z0 zn
    have H1:Hid (∀u∈([.int .i64 7,.string (txt x),.string ⟨#[]⟩,.string ⟨#[]⟩,.string ⟨#[]⟩,.slice none 0 0,.slice none 0 0]:List Value),u.oneCell'=true):=hide (by intro u hu;simp only[List.mem_cons,List.not_mem_nil,or_false] at hu;rcases hu with rfl | rfl | rfl | rfl | rfl | rfl | rfl<;>rfl)
    have q0:=HB3.out.cells 0 _ rfl
    have q1:=HB3.out.cells 1 _ rfl
    have q2:=HB3.out.cells 2 _ rfl
    have q3:=HB3.out.cells 3 _ rfl
    have q4:=HB3.out.cells 4 _ rfl
    have q5:=HB3.out.cells 5 _ rfl
    have q6:=HB3.out.cells 6 _ rfl
    have qz:=HB3.out.fz
    go_wp2
    change bodyPost _ _ _ _ _ (w3.setCells rb 0 [.int .i64 7,.string (txt x),.string ⟨#[]⟩,.string ⟨#[]⟩,.string ⟨#[]⟩,.slice none 0 0,.slice none 0 0])
    clear q0 q1 q2 q3 q4 q5 q6 qz
    have hBz:=HB3.out.sets 0 [.int .i64 7,.string (txt x),.string ⟨#[]⟩,.string ⟨#[]⟩,.string ⟨#[]⟩,.slice none 0 0,.slice none 0 0] (by simp) [.int .i64 7,.string (txt x),.string ⟨#[]⟩,.string ⟨#[]⟩,.string ⟨#[]⟩,.slice none 0 0,.slice none 0 0] (by simp)
    have hfz:Fr (fun k=>k=rb) w3 (w3.setCells rb 0 [.int .i64 7,.string (txt x),.string ⟨#[]⟩,.string ⟨#[]⟩,.string ⟨#[]⟩,.slice none 0 0,.slice none 0 0]):=Fr.setCells w3 rb 0 [.int .i64 7,.string (txt x),.string ⟨#[]⟩,.string ⟨#[]⟩,.string ⟨#[]⟩,.slice none 0 0,.slice none 0 0] rfl
    have HBz:=hide hBz
    have Hfz:=hide hfz
    clear hBz hfz
    generalize w3.setCells rb 0 [.int .i64 7,.string (txt x),.string ⟨#[]⟩,.string ⟨#[]⟩,.string ⟨#[]⟩,.slice none 0 0,.slice none 0 0]=wz at *
    refine bodyPost_ret (v:=.agg #[.int .i64 7,.string (txt x),.string ⟨#[]⟩,.string ⟨#[]⟩,.string ⟨#[]⟩,.slice none 0 0,.slice none 0 0]) ?_ rfl ?_
    ·exact results_cell1 rfl _ wz rb [.int .i64 7,.string (txt x),.string ⟨#[]⟩,.string ⟨#[]⟩,.string ⟨#[]⟩,.slice none 0 0,.slice none 0 0] _ rfl HBz.out.range Tryz.underlying39 rfl (by kernel_rfl)
    ·have hfin:(false||(Rd.taggedR 135 ((135,c)::r)).isNone)=(false||(Rd.filterR (d+1) ((135,c)::r)).isNone)∧(false=false→∀x0 F0,Rd.filterR (d+1) ((135,c)::r)=some (x0,F0)→FT.mk 7 x [] [] [] [] []=x0∧F'=F0):=by
      rw[filter_has]
      cases hp:Rd.taggedR 135 ((135,c)::r) with
      | none=>exact⟨rfl,fun _ x0 F0 h0=>by cases h0⟩
      | some q=>
       obtain⟨y,G⟩:=q
       obtain⟨rfl,rfl⟩:=Hq.out (by first | rfl | trivial) _ _ hp
       exact⟨rfl,fun _ x0 F0 h0=>by simpa using h0⟩
     refine⟨⟨.mk 7 x [] [] [] [] [],_,F',rfl,rep_plain,?_,(HF3.out.trans Hf3.out).trans' Hfz.out (fun k hk q=>by have:=Hn.out;omega),hfin.2⟩⟩
     rw[←hfin.1]
     exact HR3.out.fr Hfz.out (by have:=Hn.out;omega) (by have:=Hn.out;omega) (fun k h1 h2=>by have:=Hn.out;omega)
   ·have hbody:=filter_body d t c r ht
    have htt:((t.toNat:Int)==135)=false:=beq_false_of_ne fun e=>ht (UInt8.toNat_inj.1 (by have:(135:UInt8).toNat=135:=rfl;omega))
    have hwr:IntKind.i64.wrap ((t.toNat:Int)-160)=(t.toNat:Int)-160:=IntWalk.i64_in _ (by have:=t.toNat_lt;omega)
    have hwr2:IntKind.i64.wrap (t.toNat:Int)=(t.toNat:Int):=IntWalk.i64_in _ (by have:=t.toNat_lt;omega)
    go_enter Tryz.func173,Tryz.ntmps173
    go_upto_region 1 with fail
    rw[Hw.out.1,Hw.out.2]
    try rw[Hn.out.2.2.1]
    rw[Hn.out.2.1,Hn.out.1]
    go_wp2_with (go_at_call 79;fail)
    refine hmo.mono ?_
    rintro e w9 ⟨rfl,hw9⟩
    obtain rfl:=hw9.symm
    clear hmo hdz
    have hfc:Fr (fun _=>False) w2 (w2.alloc (.cells #[.int .i64 ((t.toNat:Int)-160),.string ⟨#[]⟩,.string ⟨#[]⟩,.string ⟨#[]⟩,.string ⟨#[]⟩,.slice none 0 0,.slice none 0 0] 39)):=Fr.alloc _ _ _
    have hBf:Blk (w2.alloc (.cells #[.int .i64 ((t.toNat:Int)-160),.string ⟨#[]⟩,.string ⟨#[]⟩,.string ⟨#[]⟩,.string ⟨#[]⟩,.slice none 0 0,.slice none 0 0] 39)) w2.heap.size [.int .i64 ((t.toNat:Int)-160),.string ⟨#[]⟩,.string ⟨#[]⟩,.string ⟨#[]⟩,.string ⟨#[]⟩,.slice none 0 0,.slice none 0 0]:=Blk.new w2 [.int .i64 ((t.toNat:Int)-160),.string ⟨#[]⟩,.string ⟨#[]⟩,.string ⟨#[]⟩,.string ⟨#[]⟩,.slice none 0 0,.slice none 0 0] 39
    obtain⟨w3,hw3⟩:∃w3,w2.alloc (.cells #[.int .i64 ((t.toNat:Int)-160),.string ⟨#[]⟩,.string ⟨#[]⟩,.string ⟨#[]⟩,.string ⟨#[]⟩,.slice none 0 0,.slice none 0 0] 39)=w3:=⟨_,rfl⟩
    have hs3:w3.heap.size=w2.heap.size+1:=by rw[←hw3];simp
    rw[hw3] at hfc hBf
    obtain⟨fb,hfb⟩:∃fb,w2.heap.size=fb:=⟨_,rfl⟩
    rw[hfb] at hBf
    have hr3:=HR2.out.fr hfc id id (fun _ _ _=>id)
    have hcd3:=(hfc.cell (p:=⟨db,0,none⟩) (by simp only;have:=Hn.out;omega) id).trans hcd2
    have hB3:=HB2.out.fr hfc id
    have hin:=inner_any (fun y W=>StE elF fb (fb+1) y W) (fun k=>k=fb) (Rd.bodyR d ((t.toNat:Int)-160)) w3 lo g b ((t,c)::r) false t 182 #[.pointer (some ⟨fb,0,none⟩),.pointer (some ⟨db,0,none⟩)] (fun args w=>by go_simp) hr3
     (fun W hW=>filtC_all d (by omega) hP ((t.toNat:Int)-160) W b fb db (fb+1) (by omega) (by have:=hW.size;omega) (by have:=Hn.out;omega) (by have:=Hn.out;omega) (by have:=Hn.out;omega) (by have:=Hn.out;omega) (by have:=Hn.out;omega) (hBf.fr hW (by rintro (q | q)<;>(have:=Hn.out;omega))) ((hW.cell (p:=⟨db,0,none⟩) (by simp only;have:=Hn.out;omega) (by rintro (q | q)<;>(simp only at q;have:=Hn.out;omega))).trans hcd3))
     (fun y Wa Wb q1 q2=>StE.fr (x:=y) (W:=Wa) (W':=Wb) (X:=fun k=>k=b) q1 q2 (by have:=Hn.out;omega) (fun k hk=>by have:=Hn.out;omega)) (fun k hk=>by subst hk;have:=Hn.out;exact⟨by omega,by omega,by omega⟩)
    have Hbody:=hide hbody
    simp only[c8] at hin
    have Hin:=hide hin
    have Hw3:=hide hw3
    have HB3:=hide hB3
    have Hfb:=hide (And.intro hfb hs3)
    have Hf3:=hide hfc
    clear hin hw3 hB3 hfb hs3 hfc hr3 hcd3 hBf hP ih hbody hcd2
    go_upto_region 8 with fail
    rw[Hw3.out]
    try rw[Hfb.out.1]
    go_wp2_with (go_at_call 28;fail)
    refine Hin.out.mono ?_
    rintro e w4 hpost
    obtain⟨y,F',rfl,hst,hr4,hf4,hq⟩:=hpost.out
    obtain⟨cs,hrep,hB4⟩:=hst.out
    have hrep2:=hrep
    have hrep3:=hrep
    have hl7:=FInP.len hrep
    have hfin4:=FInP.fin (B:=w4.heap.size) (fun k hk=>hk.2) hrep2
    obtain⟨y0,y1,y2,y3,y4,y5,y6,rfl⟩:=seven hl7
    obtain⟨yk,ya,yv,yf,yl,yA,ym,yc,yD,yn,yd,rfl,rfl,rfl,rfl,rfl,rfl,rfl⟩:=hfin4.shape
    have hB4r:=HB3.out.fr hf4 (by rintro (q | q | q)<;>(have:=Hn.out;have:=Hfb.out;omega))
    have HE:=hide hrep
    have HR4:=hide hr4
    have HQ:=hide hq
    have HB4r:=hide hB4r
    have HF4:Hid (Fr (own2 g b) w w4):=hide (((HF2.out.trans Hf3.out).mono (Y:=own2 g b) fun _ _ q=>q.elim).trans' hf4 fun k hk q=>by rcases q with q | q | q;exact .inl q;exact .inr q;(have:=Hn.out;have:=Hfb.out;omega))
    have p0:=hB4.cells 0 _ rfl
    have p1:=hB4.cells 1 _ rfl
    have p2:=hB4.cells 2 _ rfl
    have p3:=hB4.cells 3 _ rfl
    have p4:=hB4.cells 4 _ rfl
    have p5:=hB4.cells 5 _ rfl
    have p6:=hB4.cells 6 _ rfl
    have q0:=HB4r.out.cells 0 _ rfl
    have q1:=HB4r.out.cells 1 _ rfl
    have q2:=HB4r.out.cells 2 _ rfl
    have q3:=HB4r.out.cells 3 _ rfl
    have q4:=HB4r.out.cells 4 _ rfl
    have q5:=HB4r.out.cells 5 _ rfl
    have q6:=HB4r.out.cells 6 _ rfl
    have qz:=HB4r.out.fz
    clear hpost hst hr4 hf4 hq hB4 hB4r hrep hrep2 hrep3 hl7 hfin4 Hin Hw3 HB3 HF2 HR2 HB2 Hf3 e0 k1 z0 zn htt hwr hwr2 Hw
    go_wp2
    change bodyPost _ _ _ _ _ (w4.setCells rb 0 [.int .i64 yk,.string ya,.string yv,.string yf,.string yl,.slice yA ym yc,.slice yD yn yd])
    clear q0 q1 q2 q3 q4 q5 q6 qz p0 p1 p2 p3 p4 p5 p6
    have hBz:=HB4r.out.sets 0 [.int .i64 yk,.string ya,.string yv,.string yf,.string yl,.slice yA ym yc,.slice yD yn yd] (by simp) [.int .i64 yk,.string ya,.string yv,.string yf,.string yl,.slice yA ym yc,.slice yD yn yd] (by simp)
    have hfz:Fr (fun k=>k=rb) w4 (w4.setCells rb 0 [.int .i64 yk,.string ya,.string yv,.string yf,.string yl,.slice yA ym yc,.slice yD yn yd]):=Fr.setCells w4 rb 0 [.int .i64 yk,.string ya,.string yv,.string yf,.string yl,.slice yA ym yc,.slice yD yn yd] rfl
    have HBz:=hide hBz
    have Hfz:=hide hfz
    clear hBz hfz
    generalize w4.setCells rb 0 [.int .i64 yk,.string ya,.string yv,.string yf,.string yl,.slice yA ym yc,.slice yD yn yd]=wz at *
    refine bodyPost_ret (v:=.agg #[.int .i64 yk,.string ya,.string yv,.string yf,.string yl,.slice yA ym yc,.slice yD yn yd]) ?_ rfl ?_
    ·exact results_cell1 rfl _ wz rb [.int .i64 yk,.string ya,.string yv,.string yf,.string yl,.slice yA ym yc,.slice yD yn yd] _ rfl HBz.out.range Tryz.underlying39 rfl (by kernel_rfl)
    ·have hsz:=Hfz.out.size
     refine⟨⟨y,_,F',rfl,⟨_,rfl,FInP.move (fun p hp=>Hfz.out.cell hp.2 (by have:=hp.1;have:=Hn.out;have:=Hfb.out;omega)) (fun k hk=>⟨by have:=Hn.out;have:=Hfb.out;omega,by omega⟩) HE.out⟩,?_,HF4.out.trans' Hfz.out (fun k hk q=>by have:=Hn.out;omega),fun h0 x0 F0 hh=>HQ.out (by first | rfl | trivial) x0 F0 (by rw[←Hbody.out];exact hh)⟩⟩
     rw[Hbody.out]
     exact HR4.out.fr Hfz.out (by have:=Hn.out;omega) (by have:=Hn.out;omega) (fun k h1 h2=>by have:=Hn.out;omega)
end Go.Proofs.YtpkedjohgmnhhaaGreat
