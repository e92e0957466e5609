/- What reads a message; Decode. By an AI agent. -/
import Derived.Test.YtpkedjohgmnhhaaGreatM18
import Derived.Test.YtpkedjohgmnhhaaGreatM13
set_option maxRecDepth 100000
set_option maxHeartbeats 32000000
set_option linter.unusedSimpArgs false
namespace Go.Proofs.YtpkedjohgmnhhaaGreat
open Go.RowKit
set_option linter.unusedVariables false
def zeroM:MT:={ id:=0,kind:=0 }
namespace Rd
def ctlsR:MR:=fun m F=>if F=[] then some (m,F) else (someR 0xa0 controlR F).map fun q=>({ m with ctls:=q.1 },q.2)
def idR:MR:=updR (numR 2 2147483647) fun m x=>{ m with id:=x }
def messageM:MR:=thenR (thenR idR operR) ctlsR
def messageR:Rdr MT:=messageM zeroM
def decode (b:List UInt8):Option MT:=if b.length≤16384 then wholeR b (innerR 48 messageR) else none
end Rd
def zeroCells:List Value:=[.int .i64 0,.int .i64 0,.string ⟨#[]⟩,.string ⟨#[]⟩,.int .i64 0,.int .i64 0,.int .i64 0,.int .i64 0,.int .i64 0,.bool false,.int .i64 0,.string ⟨#[]⟩,.string ⟨#[]⟩,.string ⟨#[]⟩,.string ⟨#[]⟩,.slice none 0 0,.slice none 0 0,.slice none 0 0,.slice none 0 0,.slice none 0 0,.string ⟨#[]⟩,.bool false,.bool false,.string ⟨#[]⟩,.string ⟨#[]⟩,.string ⟨#[]⟩,.int .i64 0,.int .i64 0,.string ⟨#[]⟩,.string ⟨#[]⟩,.slice none 0 0,.slice none 0 0]
theorem zero_cells:zeroCells=(mcells zeroM (.int .i64 0) (.string ⟨#[]⟩) (.string ⟨#[]⟩) (.string ⟨#[]⟩) (.string ⟨#[]⟩) (.slice none 0 0) (.slice none 0 0) (.slice none 0 0) (.slice none 0 0) (.slice none 0 0) (.slice none 0 0) (.slice none 0 0)):=rfl
def repM:World→(Nat→Prop)→MT→Value→Prop:=fun W P m v=>∃f0 f1 f2 f3 f4 f5 f6 va vl vc vr vk,v=.agg (mcells m f0 f1 f2 f3 f4 f5 f6 va vl vc vr vk).toArray∧MReps W P m f0 f1 f2 f3 f4 f5 f6 va vl vc vr vk
theorem repL_one {α:Type} {E:Elem α} {W:World} {P:Nat→Prop} {L:List α} {v:Value} (h:repL E W P L v):v.oneCell'=true:=by
 obtain⟨A,c,xs,rfl,_⟩:=h;rfl
theorem MReps.one {W:World} {P:Nat→Prop} {m:MT} {f0 f1 f2 f3 f4 f5 f6 va vl vc vr vk:Value} (h:MReps W P m f0 f1 f2 f3 f4 f5 f6 va vl vc vr vk):∀u∈mcells m f0 f1 f2 f3 f4 f5 f6 va vl vc vr vk,u.oneCell'=true:=by
 intro u hu
 have hf:=FInP.one h.filt
 have ha:=repL_one h.attrs
 have hl:=repL_one h.lst
 have hc:=repL_one h.chs
 have hr:=repL_one h.refs
 have hk:=repL_one h.ctls
 have hu2:u∈([.int .i64 m.id,.int .i64 m.kind,.string (txt m.name),.string (txt m.pw),.int .i64 m.ver,.int .i64 m.scope,.int .i64 m.deref,.int .i64 m.size,.int .i64 m.time,.bool m.tonly]:List Value)++([f0,f1,f2,f3,f4,f5,f6]++([va,vl,vc]++(([.string (txt m.nrdn),.bool m.delold,.bool m.hassup,.string (txt m.sup),.string (txt m.attr),.string (txt m.value),.int .i64 m.target,.int .i64 m.code,.string (txt m.matched),.string (txt m.text)]:List Value)++[vr,vk]))):=hu
 rcases List.mem_append.1 hu2 with h1 | h1
 ·simp only[List.mem_cons,List.not_mem_nil,or_false] at h1
  rcases h1 with rfl | rfl | rfl | rfl | rfl | rfl | rfl | rfl | rfl | rfl<;>rfl
 rcases List.mem_append.1 h1 with h1 | h1
 ·exact hf u h1
 rcases List.mem_append.1 h1 with h1 | h1
 ·simp only[List.mem_cons,List.not_mem_nil,or_false] at h1
  rcases h1 with rfl | rfl | rfl<;>assumption
 rcases List.mem_append.1 h1 with h1 | h1
 ·simp only[List.mem_cons,List.not_mem_nil,or_false] at h1
  rcases h1 with rfl | rfl | rfl | rfl | rfl | rfl | rfl | rfl | rfl | rfl<;>rfl
 ·simp only[List.mem_cons,List.not_mem_nil,or_false] at h1
  rcases h1 with rfl | rfl<;>assumption
theorem results_msg {fn:Func} {p:Tmp} (h:fn.results=#[.cell p 42]) (tmps:Array Value) (w:World) (b:Nat) (cs:List Value)
  (hp:tmps.getD p undef=.pointer (some ⟨b,0,none⟩)) (hc:w.rangeAt b 0 cs) (hn:cs.length=32):(results fn tmps).run Tryz.prog w=.ok (.agg cs.toArray) w:=
 results_cell1 h tmps w b cs _ hp hc Tryz.underlying42 rfl (by rw[hn];kernel_rfl)
theorem loadM {ops:Array Oper} {rest:List Oper} {op:Oper} {a:Act} {w:World} {Q:Exit→Act→World→Prop} (hgd:op.guard=none) (x:Operand) (ho:op.op=.load 42 x)
  (b:Nat) (hx:a.eval x=.pointer (some ⟨b,0,none⟩)) (cs:List Value) (hc:Blk w b cs) (hn:cs.length=32)
  (h:wpList Tryz.prog ops Q rest (a.put op.dst (.agg cs.toArray)) w):wpList Tryz.prog ops Q (op::rest) a w:=
 wpList_load_mid hgd 42 x ho b 0 hx cs _ hc.range Tryz.underlying42 rfl (by rw[hn];kernel_rfl) h
theorem storeM {ops:Array Oper} {rest:List Oper} {o:Oper} {a:Act} {Q:Exit→Act→World→Prop} (w:World) (hgd:o.guard=none) (x y:Operand) (ho:o.op=.store 42 x y)
  (h:Nat) (us:List Value) (cs:List Value) (hx:a.eval x=.pointer (some ⟨h,0,none⟩)) (hy:a.eval y=.agg cs.toArray) (hB:Blk w h us) (hl:us.length=32) (hn:cs.length=32) (h1:∀u∈cs,u.oneCell'=true)
  (H:∀wz,wz=w.setCells h 0 cs→wpList Tryz.prog ops Q rest (a.put o.dst undef) wz):wpList Tryz.prog ops Q (o::rest) a w:=
 storeB w hgd 42 x y ho h 0 us cs hx hy hB (by omega) (by rw[hn];kernel_rfl) h1 H
theorem message_any (w:World) (lo g b:Nat) (F:List Fd) (φ:Bool) (h:RdS w lo g b F φ):
  Calls Tryz.prog 30 #[.pointer (some ⟨g,0,none⟩)] w (RdPost repM Rd.messageR w (own2 g b) lo g b F φ):=by
 have hgl:=h.log
 have hlt:=h.lt
 have hbk:=h.back
 have hblo:=h.blo
 have hfa:Fr (fun _=>False) w (w.alloc (.cells #[.int .i64 0,.int .i64 0,.string ⟨#[]⟩,.string ⟨#[]⟩,.int .i64 0,.int .i64 0,.int .i64 0,.int .i64 0,.int .i64 0,.bool false,.int .i64 0,.string ⟨#[]⟩,.string ⟨#[]⟩,.string ⟨#[]⟩,.string ⟨#[]⟩,.slice none 0 0,.slice none 0 0,.slice none 0 0,.slice none 0 0,.slice none 0 0,.string ⟨#[]⟩,.bool false,.bool false,.string ⟨#[]⟩,.string ⟨#[]⟩,.string ⟨#[]⟩,.int .i64 0,.int .i64 0,.string ⟨#[]⟩,.string ⟨#[]⟩,.slice none 0 0,.slice none 0 0] 42)):=Fr.alloc _ _ _
 have hB1:Blk (w.alloc (.cells #[.int .i64 0,.int .i64 0,.string ⟨#[]⟩,.string ⟨#[]⟩,.int .i64 0,.int .i64 0,.int .i64 0,.int .i64 0,.int .i64 0,.bool false,.int .i64 0,.string ⟨#[]⟩,.string ⟨#[]⟩,.string ⟨#[]⟩,.string ⟨#[]⟩,.slice none 0 0,.slice none 0 0,.slice none 0 0,.slice none 0 0,.slice none 0 0,.string ⟨#[]⟩,.bool false,.bool false,.string ⟨#[]⟩,.string ⟨#[]⟩,.string ⟨#[]⟩,.int .i64 0,.int .i64 0,.string ⟨#[]⟩,.string ⟨#[]⟩,.slice none 0 0,.slice none 0 0] 42)) w.heap.size zeroCells:=Blk.new w zeroCells 42
 obtain⟨w1,hw1⟩:∃w1,(w.alloc (.cells #[.int .i64 0,.int .i64 0,.string ⟨#[]⟩,.string ⟨#[]⟩,.int .i64 0,.int .i64 0,.int .i64 0,.int .i64 0,.int .i64 0,.bool false,.int .i64 0,.string ⟨#[]⟩,.string ⟨#[]⟩,.string ⟨#[]⟩,.string ⟨#[]⟩,.slice none 0 0,.slice none 0 0,.slice none 0 0,.slice none 0 0,.slice none 0 0,.string ⟨#[]⟩,.bool false,.bool false,.string ⟨#[]⟩,.string ⟨#[]⟩,.string ⟨#[]⟩,.int .i64 0,.int .i64 0,.string ⟨#[]⟩,.string ⟨#[]⟩,.slice none 0 0,.slice none 0 0] 42))=w1:=⟨_,rfl⟩
 have hs1:w1.heap.size=w.heap.size+1:=by rw[←hw1];simp
 rw[hw1] at hfa hB1
 have hfb:Fr (fun _=>False) w1 (w1.alloc (.cells #[.int .i64 0,.int .i64 0,.string ⟨#[]⟩,.string ⟨#[]⟩,.int .i64 0,.int .i64 0,.int .i64 0,.int .i64 0,.int .i64 0,.bool false,.int .i64 0,.string ⟨#[]⟩,.string ⟨#[]⟩,.string ⟨#[]⟩,.string ⟨#[]⟩,.slice none 0 0,.slice none 0 0,.slice none 0 0,.slice none 0 0,.slice none 0 0,.string ⟨#[]⟩,.bool false,.bool false,.string ⟨#[]⟩,.string ⟨#[]⟩,.string ⟨#[]⟩,.int .i64 0,.int .i64 0,.string ⟨#[]⟩,.string ⟨#[]⟩,.slice none 0 0,.slice none 0 0] 42)):=Fr.alloc _ _ _
 have hB2:Blk (w1.alloc (.cells #[.int .i64 0,.int .i64 0,.string ⟨#[]⟩,.string ⟨#[]⟩,.int .i64 0,.int .i64 0,.int .i64 0,.int .i64 0,.int .i64 0,.bool false,.int .i64 0,.string ⟨#[]⟩,.string ⟨#[]⟩,.string ⟨#[]⟩,.string ⟨#[]⟩,.slice none 0 0,.slice none 0 0,.slice none 0 0,.slice none 0 0,.slice none 0 0,.string ⟨#[]⟩,.bool false,.bool false,.string ⟨#[]⟩,.string ⟨#[]⟩,.string ⟨#[]⟩,.int .i64 0,.int .i64 0,.string ⟨#[]⟩,.string ⟨#[]⟩,.slice none 0 0,.slice none 0 0] 42)) w1.heap.size zeroCells:=Blk.new w1 zeroCells 42
 obtain⟨w2,hw2⟩:∃w2,(w1.alloc (.cells #[.int .i64 0,.int .i64 0,.string ⟨#[]⟩,.string ⟨#[]⟩,.int .i64 0,.int .i64 0,.int .i64 0,.int .i64 0,.int .i64 0,.bool false,.int .i64 0,.string ⟨#[]⟩,.string ⟨#[]⟩,.string ⟨#[]⟩,.string ⟨#[]⟩,.slice none 0 0,.slice none 0 0,.slice none 0 0,.slice none 0 0,.slice none 0 0,.string ⟨#[]⟩,.bool false,.bool false,.string ⟨#[]⟩,.string ⟨#[]⟩,.string ⟨#[]⟩,.int .i64 0,.int .i64 0,.string ⟨#[]⟩,.string ⟨#[]⟩,.slice none 0 0,.slice none 0 0] 42))=w2:=⟨_,rfl⟩
 have hs2:w2.heap.size=w.heap.size+2:=by rw[←hw2];simp[hs1]
 rw[hw2] at hfb hB2
 rw[hs1] at hB2
 have hB1b:=hB1.fr hfb id
 have HR0:=hide (h.fr (hfa.trans hfb) id id (fun _ _ _=>id))
 have HF2:=hide (hfa.trans hfb)
 obtain⟨rb,hrb⟩:∃rb,w.heap.size=rb:=⟨_,rfl⟩
 obtain⟨mb,hmb⟩:∃mb,w.heap.size+1=mb:=⟨_,rfl⟩
 rw[hrb] at hB1b
 rw[hmb] at hB2
 have Hn:=hide (And.intro hrb (And.intro hmb (And.intro hs1 (And.intro hs2 (And.intro hgl (And.intro hlt (And.intro hbk hblo)))))))
 have HBr:=hide hB1b
 have HM0:Hid (MtIn0 mb zeroM w2):=hide ⟨hB2,rfl,rfl,rfl,rfl,rfl,rfl⟩
 have HF0:Hid (Fr (own3 (fun k=>k=mb) g b) w2 w2):=hide (Fr.refl _ _)
 have hk0:=hB2.cells 0 _ rfl
 have hz0:=hB2.fz
 have Hw:=hide (And.intro hw1 hw2)
 have hnum:=number_any w2 lo g b F φ 2 2147483647 HR0.out
 rw[show c8 2=.int .u8 2 from rfl] at hnum
 have Hnum:=hide hnum
 clear hfa hfb hB1 hB1b hB2 h hgl hlt hbk hblo hw1 hw2 hs1 hs2 hrb hmb hnum
 go_enter Tryz.func30,Tryz.ntmps30
 go_upto_region 2 with fail
 rw[Hw.out.1,Hw.out.2]
 try rw[Hn.out.2.2.1]
 rw[Hn.out.2.1,Hn.out.1]
 clear Hw
 go_wp2_with (go_at_call 81;fail)
 refine Hnum.out.mono ?_
 rintro e w3 hpost
 obtain⟨x1,v1,F1,rfl,hrep,hr3,hf3,hq1⟩:=hpost.out
 unfold repI at hrep
 subst hrep
 clear hpost Hnum
 have hM1:=HM0.out.fr hf3 (by rintro (q | q)<;>(have:=Hn.out;omega))
 have k1:=hM1.blk.cells 0 _ rfl
 have z1:=hM1.blk.fz
 obtain⟨wz,hwz⟩:∃wz,w3.setCell ⟨mb,0,none⟩ (.int .i64 x1)=wz:=⟨_,rfl⟩
 have hsw:Fr (fun k=>k=mb) w3 wz:=by rw[←hwz];exact Fr.setCell w3 ⟨mb,0,none⟩ _ rfl
 have HM1:Hid (MtIn0 mb ({ zeroM with id:=x1 }:MT) wz):=hide (by rw[←hwz];exact hM1.put 0 (by omega) (.int .i64 x1) ⟨rfl,rfl,rfl,rfl,rfl,rfl⟩ (fun _ _ _ _ _ _ _ _ _ _ _ _=>rfl))
 have HR1:=hide (hr3.fr hsw (by have:=Hn.out;omega) (by have:=Hn.out;omega) (fun k h1 h2=>by have:=Hn.out;omega))
 have HF1:=hide ((HF0.out.trans (hf3.mono (Y:=own3 (fun k=>k=mb) g b) fun k _ q=>by rcases q with q | q;exact .inl q;exact .inr (.inl q))).trans (hsw.mono (Y:=own3 (fun k=>k=mb) g b) fun _ _ q=>.inr (.inr q)))
 have HQ1:=hide hq1
 have Hwz:=hide hwz
 have hop:=operation_any wz lo g b F1 (φ||(Rd.numR 2 2147483647 F).isNone) mb _ HR1.out HM1.out (by have:=Hn.out;omega)
 have Hop:=hide hop
 clear hop hr3 hf3 hq1 hwz hsw HR0 HM0 HF0 hM1 hk0 hz0
 go_upto_region 3 with fail
 rw[Hwz.out]
 clear k1 z1 Hwz
 go_wp2_with (go_at_call 82;fail)
 refine Hop.out.mono ?_
 rintro e w4 hpost
 obtain⟨m2,F2,rfl,hst,hr4,hf4,hq2⟩:=hpost.out
 clear hpost Hop
 have HM2:=hide hst
 have HR2:=hide hr4
 have hf24:=HF1.out.trans hf4
 have Hz2:Hid (mb<wz.heap.size):=hide HM1.out.blk.lt
 have HF4:=hide hf24
 have HQ2:=hide hq2
 clear hst hr4 hf4 hq2 HR1 HF1 hf24
 have q1:=HQ1.out
 have p1:=upd_post (u:=fun (m:MT) (x:Int)=>({ m with id:=x }:MT)) (m:=zeroM) q1
 have q2:=HQ2.out
 rw[p1.1] at q2
 have hr2:=HR2.out
 rw[p1.1] at hr2
 have t2:=then_post (b:=Rd.operR) p1.2 q2
 rw[t2.1] at hr2
 have HR2:=hide hr2
 have HT2:=hide t2.2
 clear q1 p1 q2 hr2 t2 HQ1 HQ2
 change Hid (RdS w4 lo g b F2 (φ||(Rd.thenR Rd.idR Rd.operR zeroM F).isNone)) at HR2
 change Hid (φ=false→∀m0 F0,Rd.thenR Rd.idR Rd.operR zeroM F=some (m0,F0)→m2=m0∧F2=F0) at HT2
 obtain⟨ψ,hψ⟩:∃ψ,(φ||(Rd.thenR Rd.idR Rd.operR zeroM F).isNone)=ψ:=⟨_,rfl⟩
 rw[hψ] at HR2
 have Hψ:=hide hψ
 clear hψ
 have hmo:=more_any w4 lo g b F2 ψ HR2.out
 cases hmb:moreB F2 ψ with
 | false=>
  rw[hmb] at hmo
  go_wp2_with (go_at_call 79;fail)
  refine hmo.mono ?_
  rintro e w9 ⟨rfl,hw9⟩
  obtain rfl:=hw9.symm
  clear hmo
  have hno:=if_no (m:=m2) (X:=(Rd.someR 0xa0 Rd.controlR F2).map fun q=>(({ m2 with ctls:=q.1 }:MT),q.2)) hmb
  have hq:(φ||(Rd.thenR Rd.idR Rd.operR zeroM F).isNone)=false→∀m0 F0,Rd.ctlsR m2 F2=some (m0,F0)→m2=m0∧F2=F0:=fun hf=>hno.2 (Hψ.out.symm.trans hf)
  have tt:=then_post (b:=Rd.ctlsR) HT2.out hq
  have hrr:=HR2.out
  rw[hno.1] at hrr
  rw[←Hψ.out] at hrr
  change RdS w4 lo g b F2 ((φ||(Rd.thenR Rd.idR Rd.operR zeroM F).isNone)||(Rd.ctlsR m2 F2).isNone) at hrr
  rw[tt.1] at hrr
  have HRx:=hide hrr
  have HTx:=hide tt.2
  have HMx:=hide (HM2.out.down (show wz.heap.size≤wz.heap.size from Nat.le_refl _))
  have HFx:=hide HF4.out
  clear hno hq tt hrr hmb HR2 HT2 HM2 HF4
  obtain⟨f0,f1,f2,f3,f4,f5,f6,va,vl,vc,vr,vk,hBm,hre⟩:=HMx.out.out
  have h1c:=hre.one
  have HRe:=hide hre
  have HBm:=hide hBm
  have H1c:=hide h1c
  obtain⟨cs,hcs⟩:∃cs,mcells m2 f0 f1 f2 f3 f4 f5 f6 va vl vc vr vk=cs:=⟨_,rfl⟩
  have hn32:cs.length=32:=by rw[←hcs];rfl
  rw[hcs] at HBm H1c
  have Hcs:=hide hcs
  have HBq:=hide (HBr.out.fr HFx.out (by rintro (q | q | q)<;>(have:=Hn.out;omega)))
  clear hcs hre hBm h1c HMx
  go_wp2_with (first | (refine loadM rfl (.tmp 3) rfl mb rfl cs HBm.out hn32 ?_) | (refine storeM w4 rfl (.tmp 2) (.tmp 14) rfl rb zeroCells cs rfl rfl HBq.out rfl hn32 H1c.out ?_))
  have HBz:=hide (HBq.out.sets 0 cs (by rw[hn32];exact Nat.le_refl _) cs (by rw[List.drop_eq_nil_of_le (by rw[hn32];exact Nat.le_refl _)];simp))
  have Hfz:=hide (Fr.setCells (X:=fun k=>k=rb) w4 rb 0 cs rfl)
  clear HBq HBm H1c
  generalize World.setCells (w4) rb 0 cs=wz at *
  refine bodyPost_ret (v:=.agg cs.toArray) ?_ rfl ?_
  ·exact results_msg rfl _ wz rb cs rfl HBz.out.range hn32
  ·have hsz:=Hfz.out.size
   refine⟨⟨m2,_,F2,rfl,⟨f0,f1,f2,f3,f4,f5,f6,va,vl,vc,vr,vk,by rw[Hcs.out],HRe.out.move (fun p hp=>Hfz.out.cell hp.2 (by have:=hp.1;have:=Hn.out;have:=Hz2.out;omega)) (fun k hk=>⟨by have:=Hn.out;have:=Hz2.out;omega,by omega⟩)⟩,?_,((HF2.out.mono (Y:=own2 g b) fun _ _ q=>q.elim).trans' HFx.out fun k hk q=>by rcases q with q | q | q;exact .inl q;exact .inr q;(have:=Hn.out;omega)).trans' Hfz.out (fun k hk q=>by have:=Hn.out;omega),HTx.out⟩⟩
   exact (HRx.out).fr Hfz.out (by have:=Hn.out;omega) (by have:=Hn.out;omega) (fun k h1 h2=>by have:=Hn.out;omega)
 | true=>
  rw[hmb] at hmo
  have hmy:=more_yes hmb
  have hso:=someC_any Rd.controlR control_eats w4 lo g b F2 ψ 160 HR2.out (readsC _ b)
  rw[show c8 160=.int .u8 160 from rfl] at hso
  have Hso:=hide hso
  clear hso
  go_wp2_with (go_at_call 79;fail)
  refine hmo.mono ?_
  rintro e w9 ⟨rfl,hw9⟩
  obtain rfl:=hw9.symm
  clear hmo hmb
  go_upto_region 5 with fail
  go_wp2_with (go_at_call 83;fail)
  refine Hso.out.mono ?_
  rintro e w5 hpost
  obtain⟨L,v,F3,rfl,hrep,hr5,hf5,hq3⟩:=hpost.out
  have hrepx:=hrep
  obtain⟨A3,c3,xs3,rfl,-⟩:=hrepx
  clear hpost Hso
  have hm5:=HM2.out.fr hf5 (by rintro (q | q)<;>(have:=Hn.out;omega)) (fun k hk=>by rintro (q | q)<;>(have:=Hn.out;have:=Hz2.out;omega))
  have hs5:=hf5.size
  have hs4:=HF4.out.size
  obtain⟨W5,hW5⟩:∃W5,w5.setCell ⟨mb,31,none⟩ (.slice A3 L.length c3)=W5:=⟨_,rfl⟩
  have hsw:Fr (fun k=>k=mb) w5 W5:=by rw[←hW5];exact Fr.setCell w5 ⟨mb,31,none⟩ _ rfl
  have hmz:MtIn mb (mb+1) ({ m2 with ctls:=L }:MT) W5:=by
   rw[←hW5]
   exact (hm5.down (show mb+1≤wz.heap.size from Hz2.out)).putCtls (by omega) (repL_move (fun _ _=>rfl) (fun k hk=>⟨by have:=Hn.out;omega,hk.2⟩) hrep)
  obtain⟨f0,f1,f2,f3,f4,f5,f6,va,vl,vc,vr,vk,hBm0,hre0⟩:=hm5.out
  have k31:=hBm0.cells 31 _ rfl
  have z31:=hBm0.fz
  clear hBm0 hre0 f0 f1 f2 f3 f4 f5 f6 va vl vc vr
  have hr5z:=hr5.fr hsw (by have:=Hn.out;omega) (by have:=Hn.out;omega) (fun k h1 h2=>by have:=Hn.out;omega)
  have hf5z:=(HF4.out.trans (hf5.mono (Y:=own3 (fun k=>k=mb) g b) fun k _ q=>by rcases q with q | q;exact .inl q;exact .inr (.inl q))).trans (hsw.mono (Y:=own3 (fun k=>k=mb) g b) fun _ _ q=>.inr (.inr q))
  have q3:(φ||(Rd.thenR Rd.idR Rd.operR zeroM F).isNone)=false→∀m0 F0,Rd.ctlsR m2 F2=some (m0,F0)→({ m2 with ctls:=L }:MT)=m0∧F3=F0:=fun hf m0 F0 h0=>by
   have h1:=hq3 (Hψ.out.symm.trans hf)
   unfold Rd.ctlsR at h0
   rw[if_neg hmy.2] at h0
   cases hsm:Rd.someR 0xa0 Rd.controlR F2 with
   | none=>rw[hsm] at h0;cases h0
   | some q=>
    obtain⟨y,G⟩:=q
    obtain⟨rfl,rfl⟩:=h1 _ _ hsm
    rw[hsm] at h0
    simpa using h0
  have tt:=then_post (b:=Rd.ctlsR) HT2.out q3
  have hrr:=hr5z
  rw[show (Rd.someR 160 Rd.controlR F2).isNone=(Rd.ctlsR m2 F2).isNone from by unfold Rd.ctlsR;rw[if_neg hmy.2];cases Rd.someR 160 Rd.controlR F2<;>rfl] at hrr
  rw[←Hψ.out,tt.1] at hrr
  have HRx:=hide hrr
  have HTx:=hide tt.2
  have HMx:=hide hmz
  have HFx:=hide hf5z
  have HW5:=hide hW5
  have Hz2:Hid (mb<mb+1):=hide (by omega)
  clear q3 tt hrr hr5z hf5z hmz hsw hW5 hs5 hs4 hm5 hr5 hf5 hq3 hrep HR2 HT2 HM2 HF4
  go_upto_region 6 with fail
  rw[HW5.out]
  clear k31 z31 HW5
  obtain⟨f0,f1,f2,f3,f4,f5,f6,va,vl,vc,vr,vk,hBm,hre⟩:=HMx.out.out
  have h1c:=hre.one
  have HRe:=hide hre
  have HBm:=hide hBm
  have H1c:=hide h1c
  obtain⟨cs,hcs⟩:∃cs,mcells ({ m2 with ctls:=L }:MT) f0 f1 f2 f3 f4 f5 f6 va vl vc vr vk=cs:=⟨_,rfl⟩
  have hn32:cs.length=32:=by rw[←hcs];rfl
  rw[hcs] at HBm H1c
  have Hcs:=hide hcs
  have HBq:=hide (HBr.out.fr HFx.out (by rintro (q | q | q)<;>(have:=Hn.out;omega)))
  clear hcs hre hBm h1c HMx
  go_wp2_with (first | (refine loadM rfl (.tmp 3) rfl mb rfl cs HBm.out hn32 ?_) | (refine storeM W5 rfl (.tmp 2) (.tmp 14) rfl rb zeroCells cs rfl rfl HBq.out rfl hn32 H1c.out ?_))
  have HBz:=hide (HBq.out.sets 0 cs (by rw[hn32];exact Nat.le_refl _) cs (by rw[List.drop_eq_nil_of_le (by rw[hn32];exact Nat.le_refl _)];simp))
  have Hfz:=hide (Fr.setCells (X:=fun k=>k=rb) W5 rb 0 cs rfl)
  clear HBq HBm H1c
  generalize World.setCells (W5) rb 0 cs=wz at *
  refine bodyPost_ret (v:=.agg cs.toArray) ?_ rfl ?_
  ·exact results_msg rfl _ wz rb cs rfl HBz.out.range hn32
  ·have hsz:=Hfz.out.size
   refine⟨⟨({ m2 with ctls:=L }:MT),_,F3,rfl,⟨f0,f1,f2,f3,f4,f5,f6,va,vl,vc,vr,vk,by rw[Hcs.out],HRe.out.move (fun p hp=>Hfz.out.cell hp.2 (by have:=hp.1;have:=Hn.out;have:=Hz2.out;omega)) (fun k hk=>⟨by have:=Hn.out;have:=Hz2.out;omega,by omega⟩)⟩,?_,((HF2.out.mono (Y:=own2 g b) fun _ _ q=>q.elim).trans' HFx.out fun k hk q=>by rcases q with q | q | q;exact .inl q;exact .inr q;(have:=Hn.out;omega)).trans' Hfz.out (fun k hk q=>by have:=Hn.out;omega),HTx.out⟩⟩
   exact (HRx.out).fr Hfz.out (by have:=Hn.out;omega) (by have:=Hn.out;omega) (fun k h1 h2=>by have:=Hn.out;omega)
end Go.Proofs.YtpkedjohgmnhhaaGreat
