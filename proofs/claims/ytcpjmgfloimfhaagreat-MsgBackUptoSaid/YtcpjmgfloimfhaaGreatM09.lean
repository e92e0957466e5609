/- Several texts in one: LFilter, LListC, LControl. By an AI agent. -/
import Derived.Test.YtcpjmgfloimfhaaGreatM07
import Derived.Test.YtcpjmgfloimfhaaGreatM08
import Derived.Test.YtcpjmgfloimfhaaGreatM04
import Derived.Test.YtcpjmgfloimfhaaGreatM05
set_option linter.unusedSimpArgs false
set_option linter.unusedVariables false
set_option maxRecDepth 100000
set_option maxHeartbeats 32000000
namespace Go.Proofs.YtcpjmgfloimfhaaGreat
open Go.RowKit
theorem filter_zero (F:List Fd):Rd.filterR 0 F=none:=rfl
theorem filter_nil (d:Nat):Rd.filterR d []=none:=by cases d<;>rfl
theorem filter_has (d:Nat) (c:List UInt8) (r:List Fd):Rd.filterR (d+1) ((135,c)::r)=(Rd.taggedR 135 ((135,c)::r)).map fun p=>(FT.mk 7 p.1 [] [] [] [] [],p.2):=by
 rw[Rd.filterR];simp only[if_true]
theorem rep_plain {w:World} {P:Nat->Prop} {k:Int} {a v f l:List UInt8}:repE elF w P (.mk k a v f l [] []) (.agg #[.int .i64 k,.string (txt a),.string (txt v),.string (txt f),.string (txt l),.slice none 0 0,.slice none 0 0]):=
 ⟨_,rfl,⟨none,0,none,0,[],rfl,⟨by unfold maxLen;simp,by unfold maxLen;simp⟩,HasP.none _,HasP.none _,rfl⟩⟩
theorem filter_any (d:Nat) (hd:d<=20):FiltP d:=by
 induction d with
 | zero=>
  intro w lo g b F φ h
  rw[show (((0:Nat):Int))=0 from rfl]
  have hgl:=h.log
  have hlt:=h.lt
  have hbk:=h.back
  have hblo:=h.blo
  have hfa:Fr (fun _=>False) w (w.alloc (.cells #[.int .i64 0] 3)):=Fr.alloc _ _ _
  have hcd:(w.alloc (.cells #[.int .i64 0] 3)).cell? ⟨w.heap.size,0,none⟩=some (.int .i64 0):=by rw[World.cell?_alloc_at (hn:=by simp)];rfl
  obtain⟨w1,hw1⟩:∃w1,w.alloc (.cells #[.int .i64 0] 3)=w1:=⟨_,rfl⟩
  have hs1:w1.heap.size=w.heap.size+1:=by rw[<-hw1];simp
  rw[hw1] at hfa hcd
  have hfb:Fr (fun _=>False) w1 (w1.alloc (.cells #[.int .i64 0,.string ⟨#[]⟩,.string ⟨#[]⟩,.string ⟨#[]⟩,.string ⟨#[]⟩,.slice none 0 0,.slice none 0 0] 39)):=Fr.alloc _ _ _
  have hB2:Blk (w1.alloc (.cells #[.int .i64 0,.string ⟨#[]⟩,.string ⟨#[]⟩,.string ⟨#[]⟩,.string ⟨#[]⟩,.slice none 0 0,.slice none 0 0] 39)) w1.heap.size [.int .i64 0,.string ⟨#[]⟩,.string ⟨#[]⟩,.string ⟨#[]⟩,.string ⟨#[]⟩,.slice none 0 0,.slice none 0 0]:=Blk.new w1 [.int .i64 0,.string ⟨#[]⟩,.string ⟨#[]⟩,.string ⟨#[]⟩,.string ⟨#[]⟩,.slice none 0 0,.slice none 0 0] 39
  obtain⟨w2,hw2⟩:∃w2,w1.alloc (.cells #[.int .i64 0,.string ⟨#[]⟩,.string ⟨#[]⟩,.string ⟨#[]⟩,.string ⟨#[]⟩,.slice none 0 0,.slice none 0 0] 39)=w2:=⟨_,rfl⟩
  have hs2:w2.heap.size=w.heap.size+2:=by rw[<-hw2];simp[hs1]
  rw[hw2] at hfb hB2
  rw[hs1] at hB2
  have hcd2:=(hfb.cell (p:=⟨w.heap.size,0,none⟩) (by simp only;omega) id).trans hcd
  have HR2:=hide (h.fr (hfa.trans hfb) id id (fun _ _ _=>id))
  have HF2:=hide (hfa.trans hfb)
  obtain⟨db,hdb⟩:∃db,w.heap.size=db:=⟨_,rfl⟩
  obtain⟨rb,hrb⟩:∃rb,w.heap.size+1=rb:=⟨_,rfl⟩
  rw[hdb] at hcd2
  rw[hrb] at hB2
  have Hn:=hide (And.intro hdb (And.intro hrb (And.intro hs1 (And.intro hs2 (And.intro hgl (And.intro hlt (And.intro hbk hblo)))))))
  have HB2:=hide hB2
  have Hw:=hide (And.intro hw1 hw2)
  clear hfa hfb hcd h hgl hlt hbk hblo hw1 hw2 hs1 hs2 hdb hrb hB2
  have hfl:=zBi w2 lo g b F φ HR2.out
  go_enter Tryz.func173,Tryz.ntmps173
  go_upto_region 2 with fail
  rw[Hw.out.1,Hw.out.2]
  try rw[Hn.out.2.2.1]
  rw[Hn.out.2.1,Hn.out.1]
  have H1:Hid (∀u∈([.int .i64 0,.string ⟨#[]⟩,.string ⟨#[]⟩,.string ⟨#[]⟩,.string ⟨#[]⟩,.slice none 0 0,.slice none 0 0]:List Value),u.oneCell'=true):=hide (by intro u hu;simp only[List.mem_cons,List.not_mem_nil,or_false] at hu;rcases hu with rfl | rfl | rfl | rfl | rfl | rfl | rfl<;>rfl)
  go_wp2_with (go_at_call 78;fail)
  refine hfl.mono ?_
  rintro e w3 ⟨rfl,hr3,hf3⟩
  have hB3:=HB2.out.fr hf3 (by rintro (q | q)<;>(have:=Hn.out;omega))
  have HR3:=hide hr3
  have HB3:=hide hB3
  have HF3:=hide (HF2.out.mono (Y:=own2 g b) fun _ _ q=>q.elim)
  have Hf3:=hide hf3
  clear hfl hr3 hB3 hf3
  have q0:=HB3.out.cells 0 _ rfl
  have q1:=HB3.out.cells 1 _ rfl
  have q2:=HB3.out.cells 2 _ rfl
  have q3:=HB3.out.cells 3 _ rfl
  have q4:=HB3.out.cells 4 _ rfl
  have q5:=HB3.out.cells 5 _ rfl
  have q6:=HB3.out.cells 6 _ rfl
  have qz:=HB3.out.fz
  go_wp2
  change bodyPost _ _ _ _ _ (w3.setCells rb 0 [.int .i64 0,.string ⟨#[]⟩,.string ⟨#[]⟩,.string ⟨#[]⟩,.string ⟨#[]⟩,.slice none 0 0,.slice none 0 0])
  clear q0 q1 q2 q3 q4 q5 q6 qz
  have hBz:=HB3.out.sets 0 [.int .i64 0,.string ⟨#[]⟩,.string ⟨#[]⟩,.string ⟨#[]⟩,.string ⟨#[]⟩,.slice none 0 0,.slice none 0 0] (by simp) [.int .i64 0,.string ⟨#[]⟩,.string ⟨#[]⟩,.string ⟨#[]⟩,.string ⟨#[]⟩,.slice none 0 0,.slice none 0 0] (by simp)
  have hfz:Fr (fun k=>k=rb) w3 (w3.setCells rb 0 [.int .i64 0,.string ⟨#[]⟩,.string ⟨#[]⟩,.string ⟨#[]⟩,.string ⟨#[]⟩,.slice none 0 0,.slice none 0 0]):=Fr.setCells w3 rb 0 [.int .i64 0,.string ⟨#[]⟩,.string ⟨#[]⟩,.string ⟨#[]⟩,.string ⟨#[]⟩,.slice none 0 0,.slice none 0 0] rfl
  have HBz:=hide hBz
  have Hfz:=hide hfz
  clear hBz hfz
  generalize w3.setCells rb 0 [.int .i64 0,.string ⟨#[]⟩,.string ⟨#[]⟩,.string ⟨#[]⟩,.string ⟨#[]⟩,.slice none 0 0,.slice none 0 0]=wz at *
  refine bodyPost_ret (v:=.agg #[.int .i64 0,.string ⟨#[]⟩,.string ⟨#[]⟩,.string ⟨#[]⟩,.string ⟨#[]⟩,.slice none 0 0,.slice none 0 0]) ?_ rfl ?_
  ·exact zAy rfl _ wz rb [.int .i64 0,.string ⟨#[]⟩,.string ⟨#[]⟩,.string ⟨#[]⟩,.string ⟨#[]⟩,.slice none 0 0,.slice none 0 0] _ rfl HBz.out.range Tryz.underlying39 rfl (by kernel_rfl)
  ·refine ⟨⟨.mk 0 [] [] [] [] [] [],_,F,rfl,rep_plain,?_,(HF3.out.trans Hf3.out).trans' Hfz.out (fun k hk q=>by have:=Hn.out;omega),?_⟩⟩
   ·have hrz:=HR3.out.fr Hfz.out (by have:=Hn.out;omega) (by have:=Hn.out;omega) (fun k h1 h2=>by have:=Hn.out;omega)
    rw[show (φ||(Rd.filterR 0 F).isNone)=true from by rw[filter_zero];simp]
    exact hrz
   ·intro h0 x0 F0 hh
    rw[filter_zero] at hh;cases hh
 | succ d ih=>
  intro w lo g b F φ h
  have hP:=ih (by omega)
  rw[show (((d+1:Nat):Int))=(d:Int)+1 by omega]
  have hgl:=h.log
  have hlt:=h.lt
  have hbk:=h.back
  have hblo:=h.blo
  have hfa:Fr (fun _=>False) w (w.alloc (.cells #[.int .i64 ((d:Int)+1)] 3)):=Fr.alloc _ _ _
  have hcd:(w.alloc (.cells #[.int .i64 ((d:Int)+1)] 3)).cell? ⟨w.heap.size,0,none⟩=some (.int .i64 ((d:Int)+1)):=by rw[World.cell?_alloc_at (hn:=by simp)];rfl
  obtain⟨w1,hw1⟩:∃w1,w.alloc (.cells #[.int .i64 ((d:Int)+1)] 3)=w1:=⟨_,rfl⟩
  have hs1:w1.heap.size=w.heap.size+1:=by rw[<-hw1];simp
  rw[hw1] at hfa hcd
  have hfb:Fr (fun _=>False) w1 (w1.alloc (.cells #[.int .i64 0,.string ⟨#[]⟩,.string ⟨#[]⟩,.string ⟨#[]⟩,.string ⟨#[]⟩,.slice none 0 0,.slice none 0 0] 39)):=Fr.alloc _ _ _
  have hB2:Blk (w1.alloc (.cells #[.int .i64 0,.string ⟨#[]⟩,.string ⟨#[]⟩,.string ⟨#[]⟩,.string ⟨#[]⟩,.slice none 0 0,.slice none 0 0] 39)) w1.heap.size [.int .i64 0,.string ⟨#[]⟩,.string ⟨#[]⟩,.string ⟨#[]⟩,.string ⟨#[]⟩,.slice none 0 0,.slice none 0 0]:=Blk.new w1 [.int .i64 0,.string ⟨#[]⟩,.string ⟨#[]⟩,.string ⟨#[]⟩,.string ⟨#[]⟩,.slice none 0 0,.slice none 0 0] 39
  obtain⟨w2,hw2⟩:∃w2,w1.alloc (.cells #[.int .i64 0,.string ⟨#[]⟩,.string ⟨#[]⟩,.string ⟨#[]⟩,.string ⟨#[]⟩,.slice none 0 0,.slice none 0 0] 39)=w2:=⟨_,rfl⟩
  have hs2:w2.heap.size=w.heap.size+2:=by rw[<-hw2];simp[hs1]
  rw[hw2] at hfb hB2
  rw[hs1] at hB2
  have hcd2:=(hfb.cell (p:=⟨w.heap.size,0,none⟩) (by simp only;omega) id).trans hcd
  have HR2:=hide (h.fr (hfa.trans hfb) id id (fun _ _ _=>id))
  have HF2:=hide (hfa.trans hfb)
  obtain⟨db,hdb⟩:∃db,w.heap.size=db:=⟨_,rfl⟩
  obtain⟨rb,hrb⟩:∃rb,w.heap.size+1=rb:=⟨_,rfl⟩
  rw[hdb] at hcd2
  rw[hrb] at hB2
  have Hn:=hide (And.intro hdb (And.intro hrb (And.intro hs1 (And.intro hs2 (And.intro hgl (And.intro hlt (And.intro hbk hblo)))))))
  have HB2:=hide hB2
  have Hw:=hide (And.intro hw1 hw2)
  clear hfa hfb hcd h hgl hlt hbk hblo hw1 hw2 hs1 hs2 hdb hrb hB2
  have hdz:(((d:Int)+1)==0)=false:=beq_false_of_ne (by omega)
  have hmo:=zA6 w2 lo g b F φ HR2.out
  have hfl:=zBi w2 lo g b F φ HR2.out
  cases hmb:moreB F φ with
  | false=>
   rw[hmb] at hmo
   have hno:φ=true\/F=[]:=by
    cases φ with
    | true=>exact .inl rfl
    | false=>cases F with
     | nil=>exact .inr rfl
     | cons f r=>cases hmb
   have Hno:=hide hno
   clear hmb hno
   go_enter Tryz.func173,Tryz.ntmps173
   go_upto_region 1 with fail
   rw[Hw.out.1,Hw.out.2]
   try rw[Hn.out.2.2.1]
   rw[Hn.out.2.1,Hn.out.1]
   go_wp2_with (go_at_call 79;fail)
   refine hmo.mono ?_
   rintro e w9 ⟨rfl,hw9⟩
   obtain rfl:=hw9.symm
   clear hmo hdz
   have H1:Hid (∀u∈([.int .i64 0,.string ⟨#[]⟩,.string ⟨#[]⟩,.string ⟨#[]⟩,.string ⟨#[]⟩,.slice none 0 0,.slice none 0 0]:List Value),u.oneCell'=true):=hide (by intro u hu;simp only[List.mem_cons,List.not_mem_nil,or_false] at hu;rcases hu with rfl | rfl | rfl | rfl | rfl | rfl | rfl<;>rfl)
   go_wp2_with (go_at_call 78;fail)
   refine hfl.mono ?_
   rintro e w3 ⟨rfl,hr3,hf3⟩
   have hB3:=HB2.out.fr hf3 (by rintro (q | q)<;>(have:=Hn.out;omega))
   have HR3:=hide hr3
   have HB3:=hide hB3
   have HF3:=hide (HF2.out.mono (Y:=own2 g b) fun _ _ q=>q.elim)
   have Hf3:=hide hf3
   clear hfl hr3 hB3 hf3
   have q0:=HB3.out.cells 0 _ rfl
   have q1:=HB3.out.cells 1 _ rfl
   have q2:=HB3.out.cells 2 _ rfl
   have q3:=HB3.out.cells 3 _ rfl
   have q4:=HB3.out.cells 4 _ rfl
   have q5:=HB3.out.cells 5 _ rfl
   have q6:=HB3.out.cells 6 _ rfl
   have qz:=HB3.out.fz
   go_wp2
   change bodyPost _ _ _ _ _ (w3.setCells rb 0 [.int .i64 0,.string ⟨#[]⟩,.string ⟨#[]⟩,.string ⟨#[]⟩,.string ⟨#[]⟩,.slice none 0 0,.slice none 0 0])
   clear q0 q1 q2 q3 q4 q5 q6 qz
   have hBz:=HB3.out.sets 0 [.int .i64 0,.string ⟨#[]⟩,.string ⟨#[]⟩,.string ⟨#[]⟩,.string ⟨#[]⟩,.slice none 0 0,.slice none 0 0] (by simp) [.int .i64 0,.string ⟨#[]⟩,.string ⟨#[]⟩,.string ⟨#[]⟩,.string ⟨#[]⟩,.slice none 0 0,.slice none 0 0] (by simp)
   have hfz:Fr (fun k=>k=rb) w3 (w3.setCells rb 0 [.int .i64 0,.string ⟨#[]⟩,.string ⟨#[]⟩,.string ⟨#[]⟩,.string ⟨#[]⟩,.slice none 0 0,.slice none 0 0]):=Fr.setCells w3 rb 0 [.int .i64 0,.string ⟨#[]⟩,.string ⟨#[]⟩,.string ⟨#[]⟩,.string ⟨#[]⟩,.slice none 0 0,.slice none 0 0] rfl
   have HBz:=hide hBz
   have Hfz:=hide hfz
   clear hBz hfz
   generalize w3.setCells rb 0 [.int .i64 0,.string ⟨#[]⟩,.string ⟨#[]⟩,.string ⟨#[]⟩,.string ⟨#[]⟩,.slice none 0 0,.slice none 0 0]=wz at *
   refine bodyPost_ret (v:=.agg #[.int .i64 0,.string ⟨#[]⟩,.string ⟨#[]⟩,.string ⟨#[]⟩,.string ⟨#[]⟩,.slice none 0 0,.slice none 0 0]) ?_ rfl ?_
   ·exact zAy rfl _ wz rb [.int .i64 0,.string ⟨#[]⟩,.string ⟨#[]⟩,.string ⟨#[]⟩,.string ⟨#[]⟩,.slice none 0 0,.slice none 0 0] _ rfl HBz.out.range Tryz.underlying39 rfl (by kernel_rfl)
   ·refine ⟨⟨.mk 0 [] [] [] [] [] [],_,F,rfl,rep_plain,?_,(HF3.out.trans Hf3.out).trans' Hfz.out (fun k hk q=>by have:=Hn.out;omega),?_⟩⟩
    ·have hrz:=HR3.out.fr Hfz.out (by have:=Hn.out;omega) (by have:=Hn.out;omega) (fun k h1 h2=>by have:=Hn.out;omega)
     rw[show (φ||(Rd.filterR (d+1) F).isNone)=true from by rcases Hno.out with h | h;(rw[h];rfl);(rw[h,filter_nil];simp)]
     exact hrz
    ·intro h0 x0 F0 hh
     rcases Hno.out with h | h;(rw[h] at h0;cases h0);(rw[h,filter_nil] at hh;cases hh)
  | true=>
   rw[hmb] at hmo
   obtain⟨rfl,hne⟩:φ=false/\F≠[]:=by
    cases φ with
    | true=>cases hmb
    | false=>exact⟨rfl,fun e=>by subst e;cases hmb⟩
   obtain⟨⟨t,c⟩,r,rfl⟩:=List.exists_cons_of_ne_nil hne
   clear hmb hne hfl
   obtain⟨gt,ot,ct,gc,oc,cc,Bc,dc,e0,e1,k1,k2,k3,k4,k5⟩:=HR2.out.hd
   obtain⟨n,hn⟩:∃n,r.length+1=n:=⟨_,rfl⟩
   rw[hn] at e0
   have z0:(0:Int)<(n:Int):=by omega
   have zn:0<n:=by omega
   simp only[c8] at k1
   clear e1 k2 k3 k4 k5 hn
   by_cases ht:t=135
   ·subst ht
    have htg:=tagged_any w2 lo g b ((135,c)::r) false 135 HR2.out
    rw[show c8 135=.int .u8 135 from rfl] at htg
    rw[show (((135:UInt8).toNat:Nat):Int)=135 from rfl] at k1
    go_enter Tryz.func173,Tryz.ntmps173
    go_upto_region 1 with fail
    rw[Hw.out.1,Hw.out.2]
    try rw[Hn.out.2.2.1]
    rw[Hn.out.2.1,Hn.out.1]
    go_wp2_with (go_at_call 79;fail)
    refine hmo.mono ?_
    rintro e w9 ⟨rfl,hw9⟩
    obtain rfl:=hw9.symm
    clear hmo hdz
    go_wp2_with (go_at_call 128;fail)
    refine htg.mono ?_
    rintro e w3 hpost
    obtain⟨x,v,F',rfl,hrep,hr3,hf3,hq⟩:=hpost.out
    unfold repT at hrep
    subst hrep
    clear hpost htg
    have hB3:=HB2.out.fr hf3 (by rintro (q | q)<;>(have:=Hn.out;omega))
    have HR3:=hide hr3
    have HB3:=hide hB3
    have HF3:=hide (HF2.out.mono (Y:=own2 g b) fun _ _ q=>q.elim)
    have Hf3:=hide hf3
    have Hq:=hide hq
    clear hr3 hB3 hf3 hq e0 k1 z0 zn
    have H1:Hid (∀u∈([.int .i64 7,.string (txt x),.string ⟨#[]⟩,.string ⟨#[]⟩,.string ⟨#[]⟩,.slice none 0 0,.slice none 0 0]:List Value),u.oneCell'=true):=hide (by intro u hu;simp only[List.mem_cons,List.not_mem_nil,or_false] at hu;rcases hu with rfl | rfl | rfl | rfl | rfl | rfl | rfl<;>rfl)
    have q0:=HB3.out.cells 0 _ rfl
    have q1:=HB3.out.cells 1 _ rfl
    have q2:=HB3.out.cells 2 _ rfl
    have q3:=HB3.out.cells 3 _ rfl
    have q4:=HB3.out.cells 4 _ rfl
    have q5:=HB3.out.cells 5 _ rfl
    have q6:=HB3.out.cells 6 _ rfl
    have qz:=HB3.out.fz
    go_wp2
    change bodyPost _ _ _ _ _ (w3.setCells rb 0 [.int .i64 7,.string (txt x),.string ⟨#[]⟩,.string ⟨#[]⟩,.string ⟨#[]⟩,.slice none 0 0,.slice none 0 0])
    clear q0 q1 q2 q3 q4 q5 q6 qz
    have hBz:=HB3.out.sets 0 [.int .i64 7,.string (txt x),.string ⟨#[]⟩,.string ⟨#[]⟩,.string ⟨#[]⟩,.slice none 0 0,.slice none 0 0] (by simp) [.int .i64 7,.string (txt x),.string ⟨#[]⟩,.string ⟨#[]⟩,.string ⟨#[]⟩,.slice none 0 0,.slice none 0 0] (by simp)
    have hfz:Fr (fun k=>k=rb) w3 (w3.setCells rb 0 [.int .i64 7,.string (txt x),.string ⟨#[]⟩,.string ⟨#[]⟩,.string ⟨#[]⟩,.slice none 0 0,.slice none 0 0]):=Fr.setCells w3 rb 0 [.int .i64 7,.string (txt x),.string ⟨#[]⟩,.string ⟨#[]⟩,.string ⟨#[]⟩,.slice none 0 0,.slice none 0 0] rfl
    have HBz:=hide hBz
    have Hfz:=hide hfz
    clear hBz hfz
    generalize w3.setCells rb 0 [.int .i64 7,.string (txt x),.string ⟨#[]⟩,.string ⟨#[]⟩,.string ⟨#[]⟩,.slice none 0 0,.slice none 0 0]=wz at *
    refine bodyPost_ret (v:=.agg #[.int .i64 7,.string (txt x),.string ⟨#[]⟩,.string ⟨#[]⟩,.string ⟨#[]⟩,.slice none 0 0,.slice none 0 0]) ?_ rfl ?_
    ·exact zAy rfl _ wz rb [.int .i64 7,.string (txt x),.string ⟨#[]⟩,.string ⟨#[]⟩,.string ⟨#[]⟩,.slice none 0 0,.slice none 0 0] _ rfl HBz.out.range Tryz.underlying39 rfl (by kernel_rfl)
    ·have hfin:(false||(Rd.taggedR 135 ((135,c)::r)).isNone)=(false||(Rd.filterR (d+1) ((135,c)::r)).isNone)/\(false=false->∀x0 F0,Rd.filterR (d+1) ((135,c)::r)=some (x0,F0)->FT.mk 7 x [] [] [] [] []=x0/\F'=F0):=by
      rw[filter_has]
      cases hp:Rd.taggedR 135 ((135,c)::r) with
      | none=>exact⟨rfl,fun _ x0 F0 h0=>by cases h0⟩
      | some q=>
       obtain⟨y,G⟩:=q
       obtain⟨rfl,rfl⟩:=Hq.out (by first | rfl | trivial) _ _ hp
       exact⟨rfl,fun _ x0 F0 h0=>by simpa using h0⟩
     refine⟨⟨.mk 7 x [] [] [] [] [],_,F',rfl,rep_plain,?_,(HF3.out.trans Hf3.out).trans' Hfz.out (fun k hk q=>by have:=Hn.out;omega),hfin.2⟩⟩
     rw[<-hfin.1]
     exact HR3.out.fr Hfz.out (by have:=Hn.out;omega) (by have:=Hn.out;omega) (fun k h1 h2=>by have:=Hn.out;omega)
   ·have hbody:=filter_body d t c r ht
    have htt:((t.toNat:Int)==135)=false:=beq_false_of_ne fun e=>ht (UInt8.toNat_inj.1 (by have:(135:UInt8).toNat=135:=rfl;omega))
    have hwr:IntKind.i64.wrap ((t.toNat:Int)-160)=(t.toNat:Int)-160:=IntWalk.i64_in _ (by have:=t.toNat_lt;omega)
    have hwr2:IntKind.i64.wrap (t.toNat:Int)=(t.toNat:Int):=IntWalk.i64_in _ (by have:=t.toNat_lt;omega)
    go_enter Tryz.func173,Tryz.ntmps173
    go_upto_region 1 with fail
    rw[Hw.out.1,Hw.out.2]
    try rw[Hn.out.2.2.1]
    rw[Hn.out.2.1,Hn.out.1]
    go_wp2_with (go_at_call 79;fail)
    refine hmo.mono ?_
    rintro e w9 ⟨rfl,hw9⟩
    obtain rfl:=hw9.symm
    clear hmo hdz
    have hfc:Fr (fun _=>False) w2 (w2.alloc (.cells #[.int .i64 ((t.toNat:Int)-160),.string ⟨#[]⟩,.string ⟨#[]⟩,.string ⟨#[]⟩,.string ⟨#[]⟩,.slice none 0 0,.slice none 0 0] 39)):=Fr.alloc _ _ _
    have hBf:Blk (w2.alloc (.cells #[.int .i64 ((t.toNat:Int)-160),.string ⟨#[]⟩,.string ⟨#[]⟩,.string ⟨#[]⟩,.string ⟨#[]⟩,.slice none 0 0,.slice none 0 0] 39)) w2.heap.size [.int .i64 ((t.toNat:Int)-160),.string ⟨#[]⟩,.string ⟨#[]⟩,.string ⟨#[]⟩,.string ⟨#[]⟩,.slice none 0 0,.slice none 0 0]:=Blk.new w2 [.int .i64 ((t.toNat:Int)-160),.string ⟨#[]⟩,.string ⟨#[]⟩,.string ⟨#[]⟩,.string ⟨#[]⟩,.slice none 0 0,.slice none 0 0] 39
    obtain⟨w3,hw3⟩:∃w3,w2.alloc (.cells #[.int .i64 ((t.toNat:Int)-160),.string ⟨#[]⟩,.string ⟨#[]⟩,.string ⟨#[]⟩,.string ⟨#[]⟩,.slice none 0 0,.slice none 0 0] 39)=w3:=⟨_,rfl⟩
    have hs3:w3.heap.size=w2.heap.size+1:=by rw[<-hw3];simp
    rw[hw3] at hfc hBf
    obtain⟨fb,hfb⟩:∃fb,w2.heap.size=fb:=⟨_,rfl⟩
    rw[hfb] at hBf
    have hr3:=HR2.out.fr hfc id id (fun _ _ _=>id)
    have hcd3:=(hfc.cell (p:=⟨db,0,none⟩) (by simp only;have:=Hn.out;omega) id).trans hcd2
    have hB3:=HB2.out.fr hfc id
    have hin:=zBk (fun y W=>StE elF fb (fb+1) y W) (fun k=>k=fb) (Rd.bodyR d ((t.toNat:Int)-160)) w3 lo g b ((t,c)::r) false t 182 #[.pointer (some ⟨fb,0,none⟩),.pointer (some ⟨db,0,none⟩)] (fun args w=>by go_simp) hr3
     (fun W hW=>filtC_all d (by omega) hP ((t.toNat:Int)-160) W b fb db (fb+1) (by omega) (by have:=hW.size;omega) (by have:=Hn.out;omega) (by have:=Hn.out;omega) (by have:=Hn.out;omega) (by have:=Hn.out;omega) (by have:=Hn.out;omega) (hBf.fr hW (by rintro (q | q)<;>(have:=Hn.out;omega))) ((hW.cell (p:=⟨db,0,none⟩) (by simp only;have:=Hn.out;omega) (by rintro (q | q)<;>(simp only at q;have:=Hn.out;omega))).trans hcd3))
     (fun y Wa Wb q1 q2=>StE.fr (x:=y) (W:=Wa) (W':=Wb) (X:=fun k=>k=b) q1 q2 (by have:=Hn.out;omega) (fun k hk=>by have:=Hn.out;omega)) (fun k hk=>by subst hk;have:=Hn.out;exact⟨by omega,by omega,by omega⟩)
    have Hbody:=hide hbody
    simp only[c8] at hin
    have Hin:=hide hin
    have Hw3:=hide hw3
    have HB3:=hide hB3
    have Hfb:=hide (And.intro hfb hs3)
    have Hf3:=hide hfc
    clear hin hw3 hB3 hfb hs3 hfc hr3 hcd3 hBf hP ih hbody hcd2
    go_upto_region 8 with fail
    rw[Hw3.out]
    try rw[Hfb.out.1]
    go_wp2_with (go_at_call 28;fail)
    refine Hin.out.mono ?_
    rintro e w4 hpost
    obtain⟨y,F',rfl,hst,hr4,hf4,hq⟩:=hpost.out
    obtain⟨cs,hrep,hB4⟩:=hst.out
    have hrep2:=hrep
    have hrep3:=hrep
    have hl7:=FInP.len hrep
    have hfin4:=FInP.fin (B:=w4.heap.size) (fun k hk=>hk.2) hrep2
    obtain⟨y0,y1,y2,y3,y4,y5,y6,rfl⟩:=seven hl7
    obtain⟨yk,ya,yv,yf,yl,yA,ym,yc,yD,yn,yd,rfl,rfl,rfl,rfl,rfl,rfl,rfl⟩:=hfin4.shape
    have hB4r:=HB3.out.fr hf4 (by rintro (q | q | q)<;>(have:=Hn.out;have:=Hfb.out;omega))
    have HE:=hide hrep
    have HR4:=hide hr4
    have HQ:=hide hq
    have HB4r:=hide hB4r
    have HF4:Hid (Fr (own2 g b) w w4):=hide (((HF2.out.trans Hf3.out).mono (Y:=own2 g b) fun _ _ q=>q.elim).trans' hf4 fun k hk q=>by rcases q with q | q | q;exact .inl q;exact .inr q;(have:=Hn.out;have:=Hfb.out;omega))
    have p0:=hB4.cells 0 _ rfl
    have p1:=hB4.cells 1 _ rfl
    have p2:=hB4.cells 2 _ rfl
    have p3:=hB4.cells 3 _ rfl
    have p4:=hB4.cells 4 _ rfl
    have p5:=hB4.cells 5 _ rfl
    have p6:=hB4.cells 6 _ rfl
    have q0:=HB4r.out.cells 0 _ rfl
    have q1:=HB4r.out.cells 1 _ rfl
    have q2:=HB4r.out.cells 2 _ rfl
    have q3:=HB4r.out.cells 3 _ rfl
    have q4:=HB4r.out.cells 4 _ rfl
    have q5:=HB4r.out.cells 5 _ rfl
    have q6:=HB4r.out.cells 6 _ rfl
    have qz:=HB4r.out.fz
    clear hpost hst hr4 hf4 hq hB4 hB4r hrep hrep2 hrep3 hl7 hfin4 Hin Hw3 HB3 HF2 HR2 HB2 Hf3 e0 k1 z0 zn htt hwr hwr2 Hw
    go_wp2
    change bodyPost _ _ _ _ _ (w4.setCells rb 0 [.int .i64 yk,.string ya,.string yv,.string yf,.string yl,.slice yA ym yc,.slice yD yn yd])
    clear q0 q1 q2 q3 q4 q5 q6 qz p0 p1 p2 p3 p4 p5 p6
    have hBz:=HB4r.out.sets 0 [.int .i64 yk,.string ya,.string yv,.string yf,.string yl,.slice yA ym yc,.slice yD yn yd] (by simp) [.int .i64 yk,.string ya,.string yv,.string yf,.string yl,.slice yA ym yc,.slice yD yn yd] (by simp)
    have hfz:Fr (fun k=>k=rb) w4 (w4.setCells rb 0 [.int .i64 yk,.string ya,.string yv,.string yf,.string yl,.slice yA ym yc,.slice yD yn yd]):=Fr.setCells w4 rb 0 [.int .i64 yk,.string ya,.string yv,.string yf,.string yl,.slice yA ym yc,.slice yD yn yd] rfl
    have HBz:=hide hBz
    have Hfz:=hide hfz
    clear hBz hfz
    generalize w4.setCells rb 0 [.int .i64 yk,.string ya,.string yv,.string yf,.string yl,.slice yA ym yc,.slice yD yn yd]=wz at *
    refine bodyPost_ret (v:=.agg #[.int .i64 yk,.string ya,.string yv,.string yf,.string yl,.slice yA ym yc,.slice yD yn yd]) ?_ rfl ?_
    ·exact zAy rfl _ wz rb [.int .i64 yk,.string ya,.string yv,.string yf,.string yl,.slice yA ym yc,.slice yD yn yd] _ rfl HBz.out.range Tryz.underlying39 rfl (by kernel_rfl)
    ·have hsz:=Hfz.out.size
     refine⟨⟨y,_,F',rfl,⟨_,rfl,FInP.move (fun p hp=>Hfz.out.cell hp.2 (by have:=hp.1;have:=Hn.out;have:=Hfb.out;omega)) (fun k hk=>⟨by have:=Hn.out;have:=Hfb.out;omega,by omega⟩) HE.out⟩,?_,HF4.out.trans' Hfz.out (fun k hk q=>by have:=Hn.out;omega),fun h0 x0 F0 hh=>HQ.out (by first | rfl | trivial) x0 F0 (by rw[<-Hbody.out];exact hh)⟩⟩
     rw[Hbody.out]
     exact HR4.out.fr Hfz.out (by have:=Hn.out;omega) (by have:=Hn.out;omega) (fun k h1 h2=>by have:=Hn.out;omega)
theorem infoC8:(Tryz.prog.info? 67).map (fun i=>(i.zero,i.size,i.bytes))=some (some (.agg #[.string .empty,.bool false,.bool false,.string .empty]),4,40):=by kernel_rfl
def ReadsC (p:Rdr Ct) (w:World) (b:Nat):Prop:=∀(W:World) (lo g:Nat) (F:List Fd) (φ:Bool),w.heap.size<=W.heap.size->RdS W lo g b F φ->Calls Tryz.prog 84 #[.pointer (some ⟨g,0,none⟩)] W (RdPost (repE elC) p W (own2 g b) lo g b F φ)
theorem lclC_any (p:Rdr Ct) (he:Eats p) (w:World) (b bl bx lo2:Nat) (hbl:bl<lo2) (hlo:lo2<=w.heap.size) (hbb:b≠bl) (hbx:bx<lo2) (hxb:bx≠b) (hxl:bx≠bl)
  (hc:w.cell? ⟨bl,0,none⟩=some (.slice none 0 0)) (hfz:∀i,w.frozen? ⟨bl,i,none⟩=false) (hf:w.cell? ⟨bx,0,none⟩=some (.func (.func 84) #[] #[])) (hrd:ReadsC p w b):
  ClosedBy (LstS elC 67 bl lo2) (fun k=>k=bl) (Rd.manyR p) w b 161 #[.pointer (some ⟨bl,0,none⟩),.pointer (some ⟨bx,0,none⟩)]:=by
 intro W lo g F φ hfr hwl hr
 have hgl:=hr.log
 have hlt:=hr.lt
 have hsm:=hr.small.1
 have hcW:W.cell? ⟨bl,0,none⟩=some (.slice none 0 0):=(hfr.cell (p:=⟨bl,0,none⟩) (by simp only;omega) (fun e=>hbb e.symm)).trans hc
 have hfW:W.cell? ⟨bx,0,none⟩=some (.func (.func 84) #[] #[]):=(hfr.cell (p:=⟨bx,0,none⟩) (by simp only;omega) hxb).trans hf
 have hzW:∀i,W.frozen? ⟨bl,i,none⟩=false:=fun i=>(hfr.frozen (p:=⟨bl,i,none⟩) (by simp only;omega) (fun e=>hbb e.symm)).trans (hfz i)
 have hL0:LstS elC 67 bl W.heap.size [] W:=⟨by omega,by omega,hzW,⟨_,[],hcW,World.ownsRow_nil _ _ _ _,rfl⟩,by simp⟩
 have Hrd:=hide (fun (W':World) (h:W.heap.size<=W'.heap.size) (lo' g':Nat) (F1:List Fd) (φ1:Bool) (h1:RdS W' lo' g' b F1 φ1)=>hrd W' lo' g' F1 φ1 (Nat.le_trans hfr.size h) h1)
 have Hn:=hide (And.intro hbl (And.intro hlo (And.intro hbb (And.intro hbx (And.intro hxb (And.intro hxl (And.intro hwl (And.intro hgl (And.intro hlt hr.blo)))))))))
 have HM:=hide (Many.start p F φ hsm)
 have HL:=hide hL0
 have HR:=hide hr
 have HfW:=hide hfW
 have He:=hide he
 try simp only[List.append_toArray,List.cons_append,List.nil_append]
 clear hfr hwl hr hgl hlt hsm hcW hfW hzW hL0 hrd hbl hlo hbb hbx hxb hxl hc hfz hf he
 go_enter Tryz.func161,Tryz.ntmps161
 go_wp2
 go_loopg [] (if φ then 0 else F.length+1) (fun k wx=>∃(F':List Fd) (φ':Bool) (acc:List Ct),Hid (RdS wx lo g b F' φ')/\Hid (LstS elC 67 bl W.heap.size acc wx)/\Hid (Fr (own3 (fun k=>k=bl) g b) W wx)/\Hid (wx.cell? ⟨bx,0,none⟩=some (.func (.func 84) #[] #[]))/\Hid (Many p F φ F' φ' acc)/\Hid ((if φ' then 0 else F'.length+1)<=k))
 case atStart=>exact⟨F,φ,[],HR,HL,hide (Fr.refl _ _),HfW,HM,hide (Nat.le_refl _)⟩
 case round=>
  obtain⟨F',φ',acc,hR,hL,hF,hX,hM,hK⟩:=hrel
  clear HR HL HfW HM
  have hmore:=zA6 wr lo g b F' φ' hR.out
  cases hmb:moreB F' φ' with
  | false=>
   rw[hmb] at hmore
   have hd:=hM.out.done hmb
   have Hd:=hide hd
   clear hmb hd
   go_wp2_with (go_at_call 79;fail)
   refine hmore.mono ?_
   rintro e w1 ⟨rfl,hw1⟩
   obtain rfl:=hw1
   clear hmore
   go_wp2
   go_returns
   refine⟨⟨acc,F',rfl,hL.out.low (by have:=Hn.out;omega) Hn.out.1,?_,hF.out,Hd.out.2⟩⟩
   rw[<-Hd.out.1]
   exact hR.out
  | true=>
   rw[hmb] at hmore
   obtain⟨rfl,hne⟩:φ'=false/\F'≠[]:=by
    cases φ' with
    | true=>cases hmb
    | false=>exact⟨rfl,fun e=>by subst e;cases hmb⟩
   have Hne:=hide hne
   obtain⟨v,xs,hv,hown,hrow⟩:=hL.out.row
   obtain⟨Av,cv,rfl,_,_⟩:=own_form hown
   have Hv:=hide hv
   have Hown:=hide hown
   have Hrow:=hide hrow
   clear hmb hne hv hown hrow
   go_wp2_with (go_at_call 79;fail)
   refine hmore.mono ?_
   rintro e w1 ⟨rfl,hw1⟩
   obtain rfl:=hw1
   clear hmore
   go_wp2_with fail
   refine zAp (wayCC ⟨bl,0,none⟩ (.slice Av acc.length cv) ⟨bx,0,none⟩ (.func (.func 84) #[] #[])) [6] (by kernel_rfl) ?_
   have Hd:=hide (hR.out.fr (Fr.drew (fun _=>False) w1) id id (fun _ _ _=>id))
   have Hfd:=hide (hF.out.trans (Fr.drew _ w1))
   replace Hv:Hid (w1.drew.cell? ⟨bl,0,none⟩=some (.slice Av acc.length cv)):=hide Hv.out
   replace Hown:=hide (own_fr Hown.out (Fr.drew (fun _=>False) w1) (fun _ _=>id))
   replace Hrow:=hide (Hrow.out.move (w:=w1) (w':=w1.drew) (P':=fun k=>W.heap.size<=k/\k<w1.drew.heap.size/\(Value.slice Av acc.length cv).ownBlock≠some k) (fun _ _=>rfl) (fun _ h=>h))
   replace hL:=hide (hL.out.fr (X:=fun _=>False) (Fr.drew _ w1) id (fun _ _=>id))
   replace hX:Hid (w1.drew.cell? ⟨bx,0,none⟩=some (.func (.func 84) #[] #[])):=hide hX.out
   clear hR hF
   generalize w1.drew=wd at *
   refine zAm 0 (some 6) (v:=?vl0) rfl rfl (by kernel_rfl) rfl (by kernel_rfl) (by rfl) (fun Wq hW=>?yl0) ?_
   case yl0=>
    have vW:Wq.cell? ⟨bl,0,none⟩=some (.slice Av acc.length cv):=hW.1 Hv.out
    go_simp<;>with_reducible rfl
   try simp only[pU]
   refine zAm 1 (some 7) (v:=?vl1) rfl rfl (by kernel_rfl) rfl (by kernel_rfl) (by rfl) (fun Wq hW=>?yl1) ?_
   case yl1=>
    have xW:Wq.cell? ⟨bx,0,none⟩=some (.func (.func 84) #[] #[]):=hW.2 hX.out
    go_simp<;>with_reducible rfl
   try simp only[pU]
   refine zAe 2 (some 8) rfl rfl (by kernel_rfl) rfl (by rfl) (fun Wq=>by go_simp<;>with_reducible rfl) ?_
   try simp only[pU]
   refine zAf 3 rfl (by kernel_rfl) (fun K hK2=>?_)
   go_simp
   refine (Hrd.out wd (Hfd.out.size) lo g F' false Hd.out).mono ?_
   rintro e w2 hpost
   obtain⟨x,v9,F2,rfl,hrep,hr2,hf2,hq⟩:=hpost.out
   clear hpost
   rw[Bool.false_or] at hr2
   obtain⟨cs,rfl,hE⟩:=hrep
   have hE2:=hE
   unfold elC at hE2
   simp only at hE2
   subst hE2
   obtain⟨xo,xc,xh,xv⟩:=x
   have hs2:=hf2.size
   have hlW:=(Hfd.out.size)
   have hv2:w2.cell? ⟨bl,0,none⟩=some (.slice Av acc.length cv):=(hf2.cell (p:=⟨bl,0,none⟩) (by simp only;have:=Hn.out;omega) (by rintro (h | h)<;>(simp only at h;have:=Hn.out;omega))).trans Hv.out
   have hx2:w2.cell? ⟨bx,0,none⟩=some (.func (.func 84) #[] #[]):=(hf2.cell (p:=⟨bx,0,none⟩) (by simp only;have:=Hn.out;omega) (by rintro (h | h)<;>(simp only at h;have:=Hn.out;omega))).trans hX.out
   have hz2:∀i,w2.frozen? ⟨bl,i,none⟩=false:=fun i=>(hf2.frozen (p:=⟨bl,i,none⟩) (by simp only;have:=Hn.out;omega) (by rintro (h | h)<;>(simp only at h;have:=Hn.out;omega))).trans (hL.out.fz i)
   have hown2:=own_fr Hown.out hf2 (fun k hk h=>by rcases h with h | h<;>(have:=Hn.out;omega))
   have hrow2:=Hrow.out.move (P':=fun k=>W.heap.size<=k/\k<w2.heap.size/\(Value.slice Av acc.length cv).ownBlock≠some k) (fun q hq=>hf2.cell hq.2.1 (by rintro (h | h)<;>(have:=Hn.out;have:=hq.1;omega))) (fun k hk=>⟨hk.1,Nat.lt_of_lt_of_le hk.2.1 hs2,hk.2.2⟩)
   have hE':=elC.move (w:=w2) (w':=w2) (P':=fun k=>W.heap.size<=k/\k<w2.heap.size/\(Value.slice Av acc.length cv).ownBlock≠some k) (fun _ _=>rfl) (fun k hk=>⟨by omega,hk.2,zBu Hown.out k hk.1⟩) hE
   have Hr2:=hide hr2
   have Hf2:=hide hf2
   have Hq:=hide hq
   have Hz2:=hide hz2
   have Hown2:=hide hown2
   have Hrow2:=hide hrow2
   have HE:=hide hE'
   have Hs2:=hide (And.intro hs2 hlW)
   have Hv2:=hide hv2
   have Hx2:=hide hx2
   refine hK2.out _ _ (fun _=>⟨fun _=>Hv2.out,fun _=>Hx2.out⟩) ?_
   clear hK2 K hr2 hf2 hq hz2 hown2 hrow2 hE hE' hs2 hlW hv2 hx2
   try simp only[pU]
   refine zAf 4 rfl (by kernel_rfl) (fun K hK2=>?_)
   go_simp
   have hfa:Fr (fun _=>False) w2 (w2.alloc (.cells #[.string (txt xo),.bool xc,.bool xh,.string (txt xv)] 67)):=Fr.alloc _ _ _
   refine hK2.out _ _ (fun _=>⟨fun h=>(hfa.cell (p:=⟨bl,0,none⟩) (by simp only;have:=Hn.out;have:=Hs2.out;omega) id).trans h,fun h=>(hfa.cell (p:=⟨bx,0,none⟩) (by simp only;have:=Hn.out;have:=Hs2.out;omega) id).trans h⟩) ?_
   clear hK2 K hfa
   have hlit:=World.ownsRow_lit (e:=67) (size:=4) w2 #[.string (txt xo),.bool xc,.bool xh,.string (txt xv)] 1 (Nat.le_refl _) (by unfold maxLen;omega) rfl
   have hown3:=own_fr Hown2.out (Fr.alloc (fun _=>False) w2 (.cells #[.string (txt xo),.bool xc,.bool xh,.string (txt xv)] 67)) (fun _ _=>id)
   try simp only[pU]
   refine zAf 5 rfl (by kernel_rfl) (fun K hK2=>?_)
   have h1c:∀u∈([.string (txt xo),.bool xc,.bool xh,.string (txt xv)]:List Value),u.oneCell'=true:=elC.one HE.out
   refine stepA _ 40 67 _ 4 40 Tryz.underlying40 infoC8 rfl (by omega) (by omega) (some 11) rfl rfl (.tmp 6) (.tmp 10) rfl W.heap.size _ acc.length xs rfl hown3 _ _ 1 1 [.string (txt xo),.bool xc,.bool xh,.string (txt xv)] rfl (Has.own hlit) h1c (by have:=hM.out.all;omega) (by have:=Hs2.out;simp;omega) ?_
   intro v4 w4 h4 hb4 hg4 ht4
   have hn4:acc.length+1<=20000:=by have:=hM.out.all;omega
   have hls:=LstS.snoc (E:=elC) (ety:=67) (bl:=bl) (lo:=W.heap.size) (L:=acc) (x:=⟨xo,xc,xh,xv⟩) (by have:=Hn.out;omega) (by have:=Hs2.out;omega) Hz2.out Hv2.out Hown2.out Hrow2.out HE.out h4 hg4 ht4 hn4
   have hfg:Fr (fun k=>(Value.slice Av acc.length cv).ownBlock=some k) w2 w4:=(Fr.alloc _ w2 (.cells #[.string (txt xo),.bool xc,.bool xh,.string (txt xv)] 67)).trans (Fr.grown hg4 fun k hk=>hk)
   have hro:∀k,(Value.slice Av acc.length cv).ownBlock=some k->W.heap.size<=k:=fun k hk=>(Hown2.out.lt k hk).1
   have hfs:Fr (fun k=>k=bl\/W.heap.size<=k) w2 (w4.setCell ⟨bl,0,none⟩ v4):=(hfg.mono fun k _ hk=>.inr (hro k hk)).trans ((Fr.setCell (X:=fun k=>k=bl) _ _ _ rfl).mono fun k _ hk=>.inl hk)
   have hr4:=Hr2.out.fr hfs (by rintro (h | h)<;>(have:=Hn.out;omega)) (by rintro (h | h)<;>(have:=Hn.out;have:=Hr2.out.back;omega)) (fun k h1 h2=>by rintro (h | h)<;>(have:=Hn.out;omega))
   have hx4:(w4.setCell ⟨bl,0,none⟩ v4).cell? ⟨bx,0,none⟩=some (.func (.func 84) #[] #[]):=(hfs.cell (p:=⟨bx,0,none⟩) (by simp only;have:=Hn.out;have:=Hs2.out;omega) (by rintro (h | h)<;>(simp only at h;have:=Hn.out;omega))).trans Hx2.out
   have hF4:Fr (own3 (fun k=>k=bl) g b) W (w4.setCell ⟨bl,0,none⟩ v4):=(Hfd.out.trans (Hf2.out.mono (Y:=own3 (fun k=>k=bl) g b) fun k _ h=>by rcases h with h | h;exact .inl h;exact .inr (.inl h))).trans' hfs fun k hk h=>by rcases h with h | h;exact .inr (.inr h);omega
   have hst:=hM.out.step (x:=⟨xo,xc,xh,xv⟩) (G:=F2) He.out Hne.out (fun x0 F0 h0=>Hq.out rfl x0 F0 h0)
   have Hls:=hide hls
   have Hr4:=hide hr4
   have Hx4:=hide hx4
   have HF4:=hide hF4
   have Hst:=hide hst
   have hc4:w4.cell? ⟨bl,0,none⟩=some (.slice Av acc.length cv):=(hfg.cell (p:=⟨bl,0,none⟩) (by simp only;have:=Hn.out;have:=Hs2.out;omega) (fun e=>by have:=hro bl e;have:=Hn.out;omega)).trans Hv2.out
   have hz4:∀i,w4.frozen? ⟨bl,i,none⟩=false:=fun i=>(hfg.frozen (p:=⟨bl,i,none⟩) (by simp only;have:=Hn.out;have:=Hs2.out;omega) (fun e=>by have:=hro bl e;have:=Hn.out;omega)).trans (Hz2.out i)
   have hx4':w4.cell? ⟨bx,0,none⟩=some (.func (.func 84) #[] #[]):=(hfg.cell (p:=⟨bx,0,none⟩) (by simp only;have:=Hn.out;have:=Hs2.out;omega) (fun e=>by have:=hro bx e;have:=Hn.out;omega)).trans Hx2.out
   obtain⟨A4,c4,rfl,_,_⟩:=own_form h4
   refine hK2.out _ _ (fun _=>⟨fun _=>hc4,fun _=>hx4'⟩) ?_
   clear hK2 K h4 hb4 hg4 ht4 hls hfg hro hfs hr4 hx4 hF4 hst h1c hown3 hlit hx4' hn4
   try simp only[pU]
   refine zAf 6 rfl (by kernel_rfl) (fun K hK2=>?_)
   go_simp
   refine hK2.out _ _ (fun h=>absurd (by decide) h) ?_
   clear hK2 K
   try simp only[pU]
   refine zAj (by kernel_rfl) ?_ _
   go_wp2
   go_roundg (if (p F').isNone then 0 else F2.length+1)
   case measure=>have h1:=Hst.out.2;have h2:=hK.out;simp only[Bool.false_eq_true,if_false] at h2;omega
   case rel=>exact⟨F2,(p F').isNone,acc++[⟨xo,xc,xh,xv⟩],Hr4,Hls,HF4,Hx4,hide Hst.out.1,hide (Nat.le_refl _)⟩
theorem listC_any (p:Rdr Ct) (he:Eats p) (w:World) (lo g b:Nat) (F:List Fd) (φ:Bool) (t:UInt8) (h:RdS w lo g b F φ) (hrd:ReadsC p w b):
  Calls Tryz.prog 133 #[.pointer (some ⟨g,0,none⟩),c8 t,(.func (.func 84) #[] #[])] w (RdPost (repL elC) (Rd.listR t p) w (own2 g b) lo g b F φ):=by
 have hgl:=h.log
 have hlt:=h.lt
 have hbk:=h.back
 have hblo:=h.blo
 have hfa:Fr (fun _=>False) w (w.alloc (.cells #[(.func (.func 84) #[] #[])] 129)):=Fr.alloc _ _ _
 have hcx:(w.alloc (.cells #[(.func (.func 84) #[] #[])] 129)).cell? ⟨w.heap.size,0,none⟩=some (.func (.func 84) #[] #[]):=by rw[World.cell?_alloc_at (hn:=by simp)];rfl
 obtain⟨w1,hw1⟩:∃w1,w.alloc (.cells #[(.func (.func 84) #[] #[])] 129)=w1:=⟨_,rfl⟩
 have hs1:w1.heap.size=w.heap.size+1:=by rw[<-hw1];simp
 rw[hw1] at hfa hcx
 have hfb:Fr (fun _=>False) w1 (w1.alloc (.cells #[.slice none 0 0] 40)):=Fr.alloc _ _ _
 have hcl:(w1.alloc (.cells #[.slice none 0 0] 40)).cell? ⟨w1.heap.size,0,none⟩=some (.slice none 0 0):=by rw[World.cell?_alloc_at (hn:=by simp)];rfl
 have hzl:∀i,(w1.alloc (.cells #[.slice none 0 0] 40)).frozen? ⟨w1.heap.size,i,none⟩=false:=fun i=>World.frozen?_alloc_at _ _ _ _ rfl
 obtain⟨w2,hw2⟩:∃w2,w1.alloc (.cells #[.slice none 0 0] 40)=w2:=⟨_,rfl⟩
 have hs2:w2.heap.size=w.heap.size+2:=by rw[<-hw2];simp[hs1]
 rw[hw2] at hfb hcl hzl
 rw[hs1] at hcl hzl
 have hcx2:=(hfb.cell (p:=⟨w.heap.size,0,none⟩) (by simp only;omega) id).trans hcx
 have hf2:=hfa.trans hfb
 have hr2:=h.fr hf2 id id (fun _ _ _=>id)
 obtain⟨bx,hbx⟩:∃bx,w.heap.size=bx:=⟨_,rfl⟩
 obtain⟨bl,hbl⟩:∃bl,w.heap.size+1=bl:=⟨_,rfl⟩
 rw[hbx] at hcx2
 rw[hbl] at hcl hzl
 have hC:∀W,Fr (own2 g b) w2 W->ClosedBy (LstS elC 67 bl (bl+1)) (fun k=>k=bl) (Rd.manyR p) W b 161 #[.pointer (some ⟨bl,0,none⟩),.pointer (some ⟨bx,0,none⟩)]:=fun W hW=>
  lclC_any p he W b bl bx (bl+1) (by omega) (by have:=hW.size;omega) (by omega) (by omega) (by omega) (by omega)
   ((hW.cell (p:=⟨bl,0,none⟩) (by simp only;omega) (by rintro (q | q)<;>(simp only at q;omega))).trans hcl) (fun i=>(hW.frozen (p:=⟨bl,i,none⟩) (by simp only;omega) (by rintro (q | q)<;>(simp only at q;omega))).trans (hzl i))
   ((hW.cell (p:=⟨bx,0,none⟩) (by simp only;omega) (by rintro (q | q)<;>(simp only at q;omega))).trans hcx2) (fun W' lo' g' F1 φ1 q1 q2=>hrd W' lo' g' F1 φ1 (by have:=hW.size;omega) q2)
 have hin:=zBk (LstS elC 67 bl (bl+1)) (fun k=>k=bl) (Rd.manyR p) w2 lo g b F φ t 161 #[.pointer (some ⟨bl,0,none⟩),.pointer (some ⟨bx,0,none⟩)] (fun args w=>by go_simp) hr2 hC
  (fun x W W' q1 q2=>q1.fr q2 (by omega) (fun k hk=>by omega)) (fun k hk=>by subst hk;exact⟨by omega,by omega,by omega⟩)
 have Hin:=hide hin
 have Hw1:=hide hw1
 have Hw2:=hide hw2
 have Hbb:=hide (And.intro hbx hbl)
 have Hf2:=hide hf2
 have Hs:=hide (And.intro hs1 hs2)
 clear hin hC hr2 hf2 hcx2 hs2 hs1 hzl hcl hfb hcx hfa h hrd he hw1 hw2 hbx hbl hgl hlt hbk hblo
 go_enter Tryz.func133,Tryz.ntmps133
 go_upto_region 2 with fail
 rw[Hw1.out,Hw2.out]
 try rw[Hs.out.1]
 rw[Hbb.out.2,Hbb.out.1]
 go_wp2_with (go_at_call 28;fail)
 refine Hin.out.mono ?_
 rintro e w3 hpost
 obtain⟨L,F',rfl,hl,hr3,hf3,hq⟩:=hpost.out
 obtain⟨v,xs,hv,hown,hrow⟩:=hl.row
 have hl2:=hl.len
 obtain⟨A,c,rfl,hLc,hHP⟩:=zA5 hown
 have HR:=hide hr3
 have HQ:=hide hq
 have HF:Hid (Fr (own2 g b) w w3):=hide ((Hf2.out.mono (Y:=own2 g b) fun _ _ q=>q.elim).trans' hf3 fun k hk q=>by rcases q with q | q | q;exact .inl q;exact .inr q;(have:=Hbb.out;omega))
 have HRep:Hid (repL elC w3 (fun k=>w.heap.size<=k/\k<w3.heap.size) L (.slice A L.length c)):=hide ⟨A,c,xs,rfl,hl2,hHP.move (fun _ _=>rfl) (fun k hk=>⟨by have:=Hbb.out;omega,hk.2⟩),hrow.move (fun _ _=>rfl) (fun k hk=>⟨by have:=Hbb.out;omega,hk.2.1⟩)⟩
 clear hpost Hin hq hr3 hf3 hl hown hrow hHP hLc Hf2 Hs Hw1 Hw2
 go_wp2
 go_ret
 exact⟨⟨L,_,F',rfl,HRep.out,HR.out,HF.out,HQ.out⟩⟩
theorem someC_any (p:Rdr Ct) (he:Eats p) (w:World) (lo g b:Nat) (F:List Fd) (φ:Bool) (t:UInt8) (h:RdS w lo g b F φ) (hrd:ReadsC p w b):
  Calls Tryz.prog 83 #[.pointer (some ⟨g,0,none⟩),c8 t,(.func (.func 84) #[] #[])] w (RdPost (repL elC) (Rd.someR t p) w (own2 g b) lo g b F φ):=by
 have hl:=listC_any p he w lo g b F φ t h hrd
 clear h hrd
 go_enter Tryz.func83,Tryz.ntmps83
 go_wp2_with (go_at_call 133;fail)
 refine hl.mono ?_
 rintro e w1 hpost
 obtain⟨L,v,F',rfl,hrep,hr,hf,hq⟩:=hpost.out
 have hrep2:=hrep
 obtain⟨A,c,xs,rfl,hl2,_,_⟩:=hrep2
 have hfl:=zBi w1 lo g b F' _ hr
 have HRep:=hide hrep
 have HF:=hide hf
 have Hl2:=hide hl2
 clear hpost hl hrep hf hl2
 cases L with
 | nil=>
  have hfin:(φ||(Rd.someR t p F).isNone)=true/\(φ=false->∀x0 F0,Rd.someR t p F=some (x0,F0)->([]:List Ct)=x0/\F'=F0):=by
   cases φ with
   | true=>exact⟨rfl,fun h=>by cases h⟩
   | false=>
    have hn:Rd.someR t p F=none:=by
     unfold Rd.someR
     cases hp:Rd.listR t p F with
     | none=>rfl
     | some q=>
      obtain⟨y,G⟩:=q
      obtain⟨rfl,rfl⟩:=hq rfl _ _ hp
      rfl
    rw[hn]
    exact⟨rfl,fun _ x0 F0 h0=>by cases h0⟩
  have Hfin:=hide hfin
  simp only[List.length_nil] at HRep ⊢
  clear hq hfin hr
  go_wp2_with (go_at_call 78;fail)
  refine hfl.mono ?_
  rintro e w2 ⟨rfl,hr2,hf2⟩
  clear hfl
  go_wp2
  go_ret
  exact⟨⟨[],_,F',rfl,⟨A,c,[],rfl,by simp,⟨by simp,.inl rfl⟩,rfl⟩,by rw[Hfin.out.1];exact hr2,HF.out.trans hf2,Hfin.out.2⟩⟩
 | cons y L=>
  have hfin:(φ||(Rd.someR t p F).isNone)=(φ||(Rd.listR t p F).isNone)/\(φ=false->∀x0 F0,Rd.someR t p F=some (x0,F0)->(y::L)=x0/\F'=F0):=by
   cases φ with
   | true=>exact⟨rfl,fun h=>by cases h⟩
   | false=>
    unfold Rd.someR
    cases hp:Rd.listR t p F with
    | none=>exact⟨rfl,fun _ x0 F0 h0=>by cases h0⟩
    | some q=>
     obtain⟨z,G⟩:=q
     obtain⟨rfl,rfl⟩:=hq rfl _ _ hp
     exact⟨rfl,fun _ x0 F0 h0=>by simpa using h0⟩
  rw[<-hfin.1] at hr
  have Hfin:=hide hfin.2
  have HR:=hide hr
  obtain⟨n,hn⟩:∃n,(y::L).length=n:=⟨_,rfl⟩
  have hn0:1<=n:=by rw[<-hn];simp
  have z:((n:Int)==0)=false:=beq_false_of_ne (by omega)
  rw[hn] at HRep ⊢
  have hn1:n<=20000:=by have:=Hl2.out;omega
  clear hq hfin hr hfl hn hn0
  go_wp2
  go_ret
  exact⟨⟨y::L,_,F',rfl,HRep.out,HR.out,HF.out,Hfin.out⟩⟩
namespace Rd
def controlB:Rdr Ct:=andR (andR textR critR Prod.mk) valueR fun a v=>⟨a.1,a.2,v.1,v.2⟩
end Rd
theorem control_eats:Eats Rd.controlR:=inner_eats 48 Rd.controlB
theorem crit_skip {F:List Fd} {φ:Bool} (h:(!φ&&Rd.nextIs 1 F)=false):(φ||(Rd.critR F).isNone)=φ/\(φ=false->∀x0 F0,Rd.critR F=some (x0,F0)->false=x0/\F=F0):=by
 unfold Rd.critR
 cases φ with
 | true=>exact⟨rfl,fun h=>by cases h⟩
 | false=>
  have hn:Rd.nextIs 1 F=false:=by simpa using h
  rw[hn]
  exact⟨rfl,fun _ x0 F0 h0=>by simpa using h0⟩
theorem crit_flag {F:List Fd} {φ:Bool} (h:(!φ&&Rd.nextIs 1 F)=true):Rd.critR F=Rd.flagR F:=by
 unfold Rd.critR
 have hn:Rd.nextIs 1 F=true:=by cases φ<;>simp_all
 rw[hn];rfl
theorem value_skip {F:List Fd} {φ:Bool} (h:moreB F φ=false):(φ||(Rd.valueR F).isNone)=φ/\(φ=false->∀x0 F0,Rd.valueR F=some (x0,F0)->(false,[])=x0/\F=F0):=by
 unfold Rd.valueR
 cases φ with
 | true=>exact⟨rfl,fun h=>by cases h⟩
 | false=>
  cases F with
  | cons f r=>cases h
  | nil=>exact⟨rfl,fun _ x0 F0 h0=>by simpa using h0⟩
theorem value_text {F G:List Fd} {φ:Bool} {x:List UInt8} (h:moreB F φ=true) (hq:φ=false->∀x0 F0,Rd.textR F=some (x0,F0)->x=x0/\G=F0):
  (φ||(Rd.textR F).isNone)=(φ||(Rd.valueR F).isNone)/\(φ=false->∀x0 F0,Rd.valueR F=some (x0,F0)->(true,x)=x0/\G=F0):=by
 unfold Rd.valueR
 have hn:F≠[]:=fun e=>by subst e;cases φ<;>cases h
 rw[if_neg hn]
 cases φ with
 | true=>exact⟨rfl,fun h=>by cases h⟩
 | false=>
  cases ht:Rd.textR F with
  | none=>exact⟨rfl,fun _ x0 F0 h0=>by cases h0⟩
  | some q=>
   obtain⟨y,H⟩:=q
   obtain⟨rfl,rfl⟩:=hq rfl _ _ ht
   exact⟨rfl,fun _ x0 F0 h0=>by simpa using h0⟩
theorem controlCl (w:World) (b ab lo2:Nat) (hab:ab<lo2) (hlo:lo2<=w.heap.size) (hba:b≠ab) (hbl:b<lo2) (hB:Blk w ab [.string ⟨#[]⟩,.bool false,.bool false,.string ⟨#[]⟩]):
  ClosedBy (StE elC ab lo2) (fun k=>k=ab) Rd.controlB w b 134 #[.pointer (some ⟨ab,0,none⟩)]:=by
 intro W lo g F φ hfr hwl hr
 have hgl:=hr.log
 have hlt:=hr.lt
 have hbo:=hr.blo
 have HB0:=hide (hB.fr hfr (fun e=>hba e.symm))
 have Hn:=hide (And.intro hab (And.intro hlo (And.intro hba (And.intro hbl (And.intro hwl (And.intro hgl (And.intro hlt (And.intro hbo hfr.size))))))))
 have HR0:=hide hr
 have HF0:Hid (Fr (own3 (fun k=>k=ab) g b) W W):=hide (Fr.refl _ _)
 try simp only[List.append_toArray,List.cons_append,List.nil_append]
 clear hfr hwl hr hgl hlt hbo hB hab hlo hba hbl
 go_enter Tryz.func134,Tryz.ntmps134
 go_wp2_with (go_at_call 130;fail)
 refine (zA3 W lo g b F φ HR0.out).mono ?_
 rintro e w1 hpost1
 obtain⟨x1,v1,F1,rfl,hrep1,hr1,hf1,hq1⟩:=hpost1.out
 clear hpost1
 unfold repT at hrep1
 subst hrep1
 have hB1:=HB0.out.fr hf1 (by rintro (q | q)<;>(have:=Hn.out;omega))
 have hs1:=hf1.size
 have HB1:=hide (hB1.set 0 (.string (txt x1)) (by simp))
 have HR1:=hide (hr1.fr (Fr.setCell (X:=fun k=>k=ab) w1 ⟨ab,0,none⟩ (.string (txt x1)) rfl) (by have:=Hn.out;omega) (by have:=Hn.out;omega) (fun k h1 h2=>by have:=Hn.out;omega))
 have HF1:=hide ((HF0.out.trans (hf1.mono (Y:=own3 (fun k=>k=ab) g b) fun k _ q=>by rcases q with q | q;exact .inl q;exact .inr (.inl q))).trans (Fr.setCell (X:=own3 (fun k=>k=ab) g b) w1 ⟨ab,0,none⟩ (.string (txt x1)) (.inr (.inr rfl))))
 have HQ1:=hide hq1
 have k1:=hB1.cells 0 _ rfl
 have z1:=hB1.fz
 have Hs1:=hide hs1
 clear hr1 hf1 hq1 hB1 hs1
 have hN:=next_any (w1.setCell ⟨ab,0,none⟩ (.string (txt x1))) lo g b F1 (φ||(Rd.textR F).isNone) 1 HR1.out
 rw[show c8 1=.int .u8 1 from rfl] at hN
 cases hnx:(!(φ||(Rd.textR F).isNone)&&Rd.nextIs 1 F1) with
 | false=>
  rw[hnx] at hN
  go_wp2_with (go_at_call 126;fail)
  refine hN.mono ?_
  rintro e w5 ⟨rfl,hw5⟩
  obtain rfl:=hw5
  clear hN
  have hM:=zA6 (w1.setCell ⟨ab,0,none⟩ (.string (txt x1))) lo g b F1 (φ||(Rd.textR F).isNone) HR1.out
  cases hmb:moreB F1 (φ||(Rd.textR F).isNone) with
  | false=>
   rw[hmb] at hM
   go_wp2_with (go_at_call 79;fail)
   refine hM.mono ?_
   rintro e w7 ⟨rfl,hw7⟩
   obtain rfl:=hw7
   clear hM
   go_wp2
   go_returns
   have hc:=crit_skip hnx
   have hap2:=zA4 (p:=Rd.textR) (q:=Rd.critR) (f:=Prod.mk) (x2:=false) HQ1.out hc.2
   rw[hc.1] at hap2
   have hv:=value_skip hmb
   have hap3:=zA4 (p:=Rd.andR Rd.textR Rd.critR Prod.mk) (q:=Rd.valueR) (f:=fun a v=>(⟨a.1,a.2,v.1,v.2⟩:Ct)) (x1:=(x1,false)) (x2:=(false,[])) hap2.2 (fun h0=>hv.2 (by rw[<-hap2.1] at h0;exact h0))
   have hrr:=HR1.out
   rw[<-hv.1,hap2.1,hap3.1] at hrr
   exact⟨⟨⟨x1,false,false,[]⟩,F1,rfl,⟨_,rfl,HB1.out⟩,hrr,HF1.out,hap3.2⟩⟩
  | true=>
   rw[hmb] at hM
   have kk:=HB1.out.cells 2 _ rfl
   have zz:=HB1.out.fz
   have HB8:=hide (HB1.out.set 2 (.bool true) (by simp))
   have HR8:=hide (HR1.out.fr (Fr.setCell (X:=fun k=>k=ab) (w1.setCell ⟨ab,0,none⟩ (.string (txt x1))) ⟨ab,2,none⟩ (.bool true) rfl) (by have:=Hn.out;omega) (by have:=Hn.out;omega) (fun k h1 h2=>by have:=Hn.out;omega))
   have HF8:=hide (HF1.out.trans (Fr.setCell (X:=own3 (fun k=>k=ab) g b) (w1.setCell ⟨ab,0,none⟩ (.string (txt x1))) ⟨ab,2,none⟩ (.bool true) (.inr (.inr rfl))))
   go_wp2_with (go_at_call 79;fail)
   refine hM.mono ?_
   rintro e w7 ⟨rfl,hw7⟩
   obtain rfl:=hw7
   clear hM
   go_wp2_with (go_at_call 130;fail)
   refine (zA3 ((w1.setCell ⟨ab,0,none⟩ (.string (txt x1))).setCell ⟨ab,2,none⟩ (.bool true)) lo g b F1 (φ||(Rd.textR F).isNone) HR8.out).mono ?_
   rintro e w9 hpost9
   obtain⟨x9,v9,F9,rfl,hrep9,hr9,hf9,hq9⟩:=hpost9.out
   clear hpost9
   unfold repT at hrep9
   subst hrep9
   have hB9:=HB8.out.fr hf9 (by rintro (q | q)<;>(have:=Hn.out;omega))
   have hs9:=hf9.size
   have HB9:=hide (hB9.set 3 (.string (txt x9)) (by simp))
   have HR9:=hide (hr9.fr (Fr.setCell (X:=fun k=>k=ab) w9 ⟨ab,3,none⟩ (.string (txt x9)) rfl) (by have:=Hn.out;omega) (by have:=Hn.out;omega) (fun k h1 h2=>by have:=Hn.out;omega))
   have HF9:=hide ((HF8.out.trans (hf9.mono (Y:=own3 (fun k=>k=ab) g b) fun k _ q=>by rcases q with q | q;exact .inl q;exact .inr (.inl q))).trans (Fr.setCell (X:=own3 (fun k=>k=ab) g b) w9 ⟨ab,3,none⟩ (.string (txt x9)) (.inr (.inr rfl))))
   have HQ9:=hide hq9
   have k9:=hB9.cells 3 _ rfl
   have z9:=hB9.fz
   have Hs9:=hide hs9
   clear hr9 hf9 hq9 hB9 hs9
   go_wp2
   go_returns
   have hc:=crit_skip hnx
   have hap2:=zA4 (p:=Rd.textR) (q:=Rd.critR) (f:=Prod.mk) (x2:=false) HQ1.out hc.2
   rw[hc.1] at hap2
   have hv:=value_text hmb HQ9.out
   have hap3:=zA4 (p:=Rd.andR Rd.textR Rd.critR Prod.mk) (q:=Rd.valueR) (f:=fun a v=>(⟨a.1,a.2,v.1,v.2⟩:Ct)) (x1:=(x1,false)) (x2:=(true,x9)) hap2.2 (fun h0=>hv.2 (by rw[<-hap2.1] at h0;exact h0))
   have hrr:=HR9.out
   rw[hv.1,hap2.1,hap3.1] at hrr
   exact⟨⟨⟨x1,false,true,x9⟩,F9,rfl,⟨_,rfl,HB9.out⟩,hrr,HF9.out,hap3.2⟩⟩
 | true=>
  rw[hnx] at hN
  go_wp2_with (go_at_call 126;fail)
  refine hN.mono ?_
  rintro e w5 ⟨rfl,hw5⟩
  obtain rfl:=hw5
  clear hN
  go_wp2_with (go_at_call 135;fail)
  refine (flag_any (w1.setCell ⟨ab,0,none⟩ (.string (txt x1))) lo g b F1 (φ||(Rd.textR F).isNone) HR1.out).mono ?_
  rintro e w2 hpost2
  obtain⟨x2,v2,F2,rfl,hrep2,hr2,hf2,hq2⟩:=hpost2.out
  clear hpost2
  unfold repB at hrep2
  subst hrep2
  have hB2:=HB1.out.fr hf2 (by rintro (q | q)<;>(have:=Hn.out;omega))
  have hs2:=hf2.size
  have HB2:=hide (hB2.set 1 (.bool x2) (by simp))
  have HR2:=hide (hr2.fr (Fr.setCell (X:=fun k=>k=ab) w2 ⟨ab,1,none⟩ (.bool x2) rfl) (by have:=Hn.out;omega) (by have:=Hn.out;omega) (fun k h1 h2=>by have:=Hn.out;omega))
  have HF2:=hide ((HF1.out.trans (hf2.mono (Y:=own3 (fun k=>k=ab) g b) fun k _ q=>by rcases q with q | q;exact .inl q;exact .inr (.inl q))).trans (Fr.setCell (X:=own3 (fun k=>k=ab) g b) w2 ⟨ab,1,none⟩ (.bool x2) (.inr (.inr rfl))))
  have HQ2:=hide hq2
  have k2:=hB2.cells 1 _ rfl
  have z2:=hB2.fz
  have Hs2:=hide hs2
  clear hr2 hf2 hq2 hB2 hs2 k1 z1
  rw[<-crit_flag hnx] at HR2 HQ2
  have hM:=zA6 (w2.setCell ⟨ab,1,none⟩ (.bool x2)) lo g b F2 ((φ||(Rd.textR F).isNone)||(Rd.critR F1).isNone) HR2.out
  cases hmb:moreB F2 ((φ||(Rd.textR F).isNone)||(Rd.critR F1).isNone) with
  | false=>
   rw[hmb] at hM
   go_wp2_with (go_at_call 79;fail)
   refine hM.mono ?_
   rintro e w7 ⟨rfl,hw7⟩
   obtain rfl:=hw7
   clear hM
   go_wp2
   go_returns
   have hap2:=zA4 (p:=Rd.textR) (q:=Rd.critR) (f:=Prod.mk) HQ1.out HQ2.out
   have hv:=value_skip hmb
   have hap3:=zA4 (p:=Rd.andR Rd.textR Rd.critR Prod.mk) (q:=Rd.valueR) (f:=fun a v=>(⟨a.1,a.2,v.1,v.2⟩:Ct)) (x1:=(x1,x2)) (x2:=(false,[])) hap2.2 (fun h0=>hv.2 (by rw[<-hap2.1] at h0;exact h0))
   have hrr:=HR2.out
   rw[<-hv.1,hap2.1,hap3.1] at hrr
   exact⟨⟨⟨x1,x2,false,[]⟩,F2,rfl,⟨_,rfl,HB2.out⟩,hrr,HF2.out,hap3.2⟩⟩
  | true=>
   rw[hmb] at hM
   have kk:=HB2.out.cells 2 _ rfl
   have zz:=HB2.out.fz
   have HB8:=hide (HB2.out.set 2 (.bool true) (by simp))
   have HR8:=hide (HR2.out.fr (Fr.setCell (X:=fun k=>k=ab) (w2.setCell ⟨ab,1,none⟩ (.bool x2)) ⟨ab,2,none⟩ (.bool true) rfl) (by have:=Hn.out;omega) (by have:=Hn.out;omega) (fun k h1 h2=>by have:=Hn.out;omega))
   have HF8:=hide (HF2.out.trans (Fr.setCell (X:=own3 (fun k=>k=ab) g b) (w2.setCell ⟨ab,1,none⟩ (.bool x2)) ⟨ab,2,none⟩ (.bool true) (.inr (.inr rfl))))
   go_wp2_with (go_at_call 79;fail)
   refine hM.mono ?_
   rintro e w7 ⟨rfl,hw7⟩
   obtain rfl:=hw7
   clear hM
   go_wp2_with (go_at_call 130;fail)
   refine (zA3 ((w2.setCell ⟨ab,1,none⟩ (.bool x2)).setCell ⟨ab,2,none⟩ (.bool true)) lo g b F2 ((φ||(Rd.textR F).isNone)||(Rd.critR F1).isNone) HR8.out).mono ?_
   rintro e w9 hpost9
   obtain⟨x9,v9,F9,rfl,hrep9,hr9,hf9,hq9⟩:=hpost9.out
   clear hpost9
   unfold repT at hrep9
   subst hrep9
   have hB9:=HB8.out.fr hf9 (by rintro (q | q)<;>(have:=Hn.out;omega))
   have hs9:=hf9.size
   have HB9:=hide (hB9.set 3 (.string (txt x9)) (by simp))
   have HR9:=hide (hr9.fr (Fr.setCell (X:=fun k=>k=ab) w9 ⟨ab,3,none⟩ (.string (txt x9)) rfl) (by have:=Hn.out;omega) (by have:=Hn.out;omega) (fun k h1 h2=>by have:=Hn.out;omega))
   have HF9:=hide ((HF8.out.trans (hf9.mono (Y:=own3 (fun k=>k=ab) g b) fun k _ q=>by rcases q with q | q;exact .inl q;exact .inr (.inl q))).trans (Fr.setCell (X:=own3 (fun k=>k=ab) g b) w9 ⟨ab,3,none⟩ (.string (txt x9)) (.inr (.inr rfl))))
   have HQ9:=hide hq9
   have k9:=hB9.cells 3 _ rfl
   have z9:=hB9.fz
   have Hs9:=hide hs9
   clear hr9 hf9 hq9 hB9 hs9
   go_wp2
   go_returns
   have hap2:=zA4 (p:=Rd.textR) (q:=Rd.critR) (f:=Prod.mk) HQ1.out HQ2.out
   have hv:=value_text hmb HQ9.out
   have hap3:=zA4 (p:=Rd.andR Rd.textR Rd.critR Prod.mk) (q:=Rd.valueR) (f:=fun a v=>(⟨a.1,a.2,v.1,v.2⟩:Ct)) (x1:=(x1,x2)) (x2:=(true,x9)) hap2.2 (fun h0=>hv.2 (by rw[<-hap2.1] at h0;exact h0))
   have hrr:=HR9.out
   rw[hv.1,hap2.1,hap3.1] at hrr
   exact⟨⟨⟨x1,x2,true,x9⟩,F9,rfl,⟨_,rfl,HB9.out⟩,hrr,HF9.out,hap3.2⟩⟩
theorem control_any (w:World) (lo g b:Nat) (F:List Fd) (φ:Bool) (h:RdS w lo g b F φ):
  Calls Tryz.prog 84 #[.pointer (some ⟨g,0,none⟩)] w (RdPost (repE elC) Rd.controlR w (own2 g b) lo g b F φ):=by
 have hgl:=h.log
 have hlt:=h.lt
 have hbk:=h.back
 have hblo:=h.blo
 have hfa:Fr (fun _=>False) w (w.alloc (.cells #[.string ⟨#[]⟩,.bool false,.bool false,.string ⟨#[]⟩] 67)):=Fr.alloc _ _ _
 have hB1:Blk (w.alloc (.cells #[.string ⟨#[]⟩,.bool false,.bool false,.string ⟨#[]⟩] 67)) w.heap.size [.string ⟨#[]⟩,.bool false,.bool false,.string ⟨#[]⟩]:=Blk.new w [.string ⟨#[]⟩,.bool false,.bool false,.string ⟨#[]⟩] 67
 obtain⟨w1,hw1⟩:∃w1,w.alloc (.cells #[.string ⟨#[]⟩,.bool false,.bool false,.string ⟨#[]⟩] 67)=w1:=⟨_,rfl⟩
 have hs1:w1.heap.size=w.heap.size+1:=by rw[<-hw1];simp
 rw[hw1] at hfa hB1
 have hfb:Fr (fun _=>False) w1 (w1.alloc (.cells #[.string ⟨#[]⟩,.bool false,.bool false,.string ⟨#[]⟩] 67)):=Fr.alloc _ _ _
 have hB2:Blk (w1.alloc (.cells #[.string ⟨#[]⟩,.bool false,.bool false,.string ⟨#[]⟩] 67)) w1.heap.size [.string ⟨#[]⟩,.bool false,.bool false,.string ⟨#[]⟩]:=Blk.new w1 [.string ⟨#[]⟩,.bool false,.bool false,.string ⟨#[]⟩] 67
 obtain⟨w2,hw2⟩:∃w2,w1.alloc (.cells #[.string ⟨#[]⟩,.bool false,.bool false,.string ⟨#[]⟩] 67)=w2:=⟨_,rfl⟩
 have hs2:w2.heap.size=w.heap.size+2:=by rw[<-hw2];simp[hs1]
 rw[hw2] at hfb hB2
 rw[hs1] at hB2
 have hB1':=hB1.fr hfb id
 have hf2:=hfa.trans hfb
 have hr2:=h.fr hf2 id id (fun _ _ _=>id)
 obtain⟨rb,hrb⟩:∃rb,w.heap.size=rb:=⟨_,rfl⟩
 obtain⟨ab,hab⟩:∃ab,w.heap.size+1=ab:=⟨_,rfl⟩
 rw[hrb] at hB1'
 rw[hab] at hB2
 have hC:∀W,Fr (own2 g b) w2 W->ClosedBy (StE elC ab (ab+1)) (fun k=>k=ab) Rd.controlB W b 134 #[.pointer (some ⟨ab,0,none⟩)]:=fun W hW=>
  controlCl W b ab (ab+1) (by omega) (by have:=hW.size;omega) (by omega) (by omega) (hB2.fr hW (by rintro (q | q)<;>omega))
 have hin:=zBk (StE elC ab (ab+1)) (fun k=>k=ab) Rd.controlB w2 lo g b F φ 48 134 #[.pointer (some ⟨ab,0,none⟩)] (fun args w=>by go_simp) hr2 hC
  (fun x W W' q1 q2=>q1.fr q2 (by omega) (fun k hk=>by omega)) (fun k hk=>by subst hk;exact⟨by omega,by omega,by omega⟩)
 rw[show c8 48=.int .u8 48 from rfl] at hin
 have Hin:=hide hin
 have Hw1:=hide hw1
 have Hw2:=hide hw2
 have Hn:=hide (And.intro hrb (And.intro hab (And.intro hs1 hs2)))
 have Hf2:=hide hf2
 have HBr:=hide hB1'
 have Hlt:=hide (And.intro hlt hbk)
 clear hin hC hr2 hf2 hB1' hB2 hB1 hs2 hs1 hfb hfa h hw1 hw2 hrb hab hgl hlt hbk hblo
 go_enter Tryz.func84,Tryz.ntmps84
 go_upto_region 2 with fail
 rw[Hw1.out,Hw2.out]
 try rw[Hn.out.2.2.1]
 rw[Hn.out.2.1,Hn.out.1]
 go_wp2_with (go_at_call 28;fail)
 refine Hin.out.mono ?_
 rintro e w3 hpost
 obtain⟨x,F',rfl,hst,hr3,hf3,hq⟩:=hpost.out
 obtain⟨cs,hrep,hB3⟩:=hst.out
 obtain rfl:=hrep
 have hBr3:=HBr.out.fr hf3 (by rintro (q | q | q)<;>(have:=Hn.out;have:=Hlt.out;omega))
 have h1c:∀u∈([.string (txt x.oid),.bool x.crit,.bool x.hasv,.string (txt x.value)]:List Value),u.oneCell'=true:=elC.one (w:=w3) (P:=fun k=>ab+1<=k/\k<w3.heap.size) (x:=x) rfl
 have HRg:=hide (hB3.range)
 have HBr3:=hide hBr3
 have HR:=hide hr3
 have HQ:=hide hq
 have H1:=hide h1c
 have HF:Hid (Fr (own2 g b) w w3):=hide ((Hf2.out.mono (Y:=own2 g b) fun _ _ q=>q.elim).trans' hf3 fun k hk q=>by rcases q with q | q | q;exact .inl q;exact .inr q;(have:=Hn.out;omega))
 clear hpost Hin hq hr3 hf3 hst hB3 hBr3 h1c Hf2 Hw1 Hw2 HBr
 go_wp2_with (first | (refine wpList_load_mid rfl 67 (.tmp 3) rfl ab 0 rfl [.string (txt x.oid),.bool x.crit,.bool x.hasv,.string (txt x.value)] _ HRg.out Tryz.underlying67 rfl (by kernel_rfl) ?_) | (refine storeB w3 rfl 67 (.tmp 2) (.tmp 7) rfl rb 0 _ [.string (txt x.oid),.bool x.crit,.bool x.hasv,.string (txt x.value)] rfl rfl HBr3.out (by simp) (by kernel_rfl) H1.out ?_))
 have hBz:=HBr3.out.sets 0 [.string (txt x.oid),.bool x.crit,.bool x.hasv,.string (txt x.value)] (by simp) [.string (txt x.oid),.bool x.crit,.bool x.hasv,.string (txt x.value)] (by simp)
 have hfz:Fr (fun k=>k=rb) w3 (w3.setCells rb 0 [.string (txt x.oid),.bool x.crit,.bool x.hasv,.string (txt x.value)]):=Fr.setCells w3 rb 0 [.string (txt x.oid),.bool x.crit,.bool x.hasv,.string (txt x.value)] rfl
 have HBz:=hide hBz
 have Hfz:=hide hfz
 clear hBz hfz HRg HBr3
 generalize w3.setCells rb 0 [.string (txt x.oid),.bool x.crit,.bool x.hasv,.string (txt x.value)]=wz at *
 refine bodyPost_ret (v:=.agg #[.string (txt x.oid),.bool x.crit,.bool x.hasv,.string (txt x.value)]) ?_ rfl ?_
 ·exact zAy rfl _ wz rb [.string (txt x.oid),.bool x.crit,.bool x.hasv,.string (txt x.value)] _ rfl HBz.out.range Tryz.underlying67 rfl (by kernel_rfl)
 ·have hsz:=Hfz.out.size
  refine⟨⟨x,_,F',rfl,⟨[.string (txt x.oid),.bool x.crit,.bool x.hasv,.string (txt x.value)],rfl,?_⟩,HR.out.fr Hfz.out (by have:=Hn.out;have:=Hlt.out;omega) (by have:=Hn.out;have:=Hlt.out;omega) (fun k h1 h2=>by have:=Hn.out;have:=Hlt.out;omega),HF.out.trans' Hfz.out fun k hk q=>by have:=Hn.out;omega,HQ.out⟩⟩
  exact rfl
theorem readsC (w:World) (b:Nat):ReadsC Rd.controlR w b:=fun W lo g F φ _ h=>control_any W lo g b F φ h
end Go.Proofs.YtcpjmgfloimfhaaGreat
