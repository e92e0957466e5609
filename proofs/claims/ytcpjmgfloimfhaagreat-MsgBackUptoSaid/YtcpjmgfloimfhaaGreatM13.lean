/- Several texts in one: LMessage, LRows, LSameW, OpenFilter. By an AI agent. -/
import Derived.Test.YtcpjmgfloimfhaaGreatM12
import Derived.Test.YtcpjmgfloimfhaaGreatM09
import Derived.Test.YtcpjmgfloimfhaaGreatM04
import Derived.Test.YtcpjmgfloimfhaaGreatM02
import Derived.Test.YtcpjmgfloimfhaaGreatOpens
import Derived.Deep.SlicePairs
set_option linter.unusedSimpArgs false
set_option linter.unusedVariables false
set_option maxRecDepth 100000
set_option maxHeartbeats 32000000
namespace Go.Proofs.YtcpjmgfloimfhaaGreat
open Go.RowKit
def zeroM:MT:={ id:=0,kind:=0 }
namespace Rd
def ctlsR:MR:=fun m F=>if F=[] then some (m,F) else (someR 0xa0 controlR F).map fun q=>({ m with ctls:=q.1 },q.2)
def idR:MR:=updR (numR 2 2147483647) fun m x=>{ m with id:=x }
def messageM:MR:=thenR (thenR idR operR) ctlsR
def messageR:Rdr MT:=messageM zeroM
def decode (b:List UInt8):Option MT:=if b.length<=16384 then wholeR b (innerR 48 messageR) else none
end Rd
def zeroCells:List Value:=[.int .i64 0,.int .i64 0,.string ⟨#[]⟩,.string ⟨#[]⟩,.int .i64 0,.int .i64 0,.int .i64 0,.int .i64 0,.int .i64 0,.bool false,.int .i64 0,.string ⟨#[]⟩,.string ⟨#[]⟩,.string ⟨#[]⟩,.string ⟨#[]⟩,.slice none 0 0,.slice none 0 0,.slice none 0 0,.slice none 0 0,.slice none 0 0,.string ⟨#[]⟩,.bool false,.bool false,.string ⟨#[]⟩,.string ⟨#[]⟩,.string ⟨#[]⟩,.int .i64 0,.int .i64 0,.string ⟨#[]⟩,.string ⟨#[]⟩,.slice none 0 0,.slice none 0 0]
def repM:World->(Nat->Prop)->MT->Value->Prop:=fun W P m v=>∃f0 f1 f2 f3 f4 f5 f6 va vl vc vr vk,v=.agg (mcells m f0 f1 f2 f3 f4 f5 f6 va vl vc vr vk).toArray/\MReps W P m f0 f1 f2 f3 f4 f5 f6 va vl vc vr vk
theorem repL_one {α:Type} {E:Elem α} {W:World} {P:Nat->Prop} {L:List α} {v:Value} (h:repL E W P L v):v.oneCell'=true:=by
 obtain⟨A,c,xs,rfl,_⟩:=h;rfl
theorem MReps.one {W:World} {P:Nat->Prop} {m:MT} {f0 f1 f2 f3 f4 f5 f6 va vl vc vr vk:Value} (h:MReps W P m f0 f1 f2 f3 f4 f5 f6 va vl vc vr vk):∀u∈mcells m f0 f1 f2 f3 f4 f5 f6 va vl vc vr vk,u.oneCell'=true:=by
 intro u hu
 have hf:=FInP.one h.filt
 have ha:=repL_one h.attrs
 have hl:=repL_one h.lst
 have hc:=repL_one h.chs
 have hr:=repL_one h.refs
 have hk:=repL_one h.ctls
 have hu2:u∈([.int .i64 m.id,.int .i64 m.kind,.string (txt m.name),.string (txt m.pw),.int .i64 m.ver,.int .i64 m.scope,.int .i64 m.deref,.int .i64 m.size,.int .i64 m.time,.bool m.tonly]:List Value)++([f0,f1,f2,f3,f4,f5,f6]++([va,vl,vc]++(([.string (txt m.nrdn),.bool m.delold,.bool m.hassup,.string (txt m.sup),.string (txt m.attr),.string (txt m.value),.int .i64 m.target,.int .i64 m.code,.string (txt m.matched),.string (txt m.text)]:List Value)++[vr,vk]))):=hu
 rcases List.mem_append.1 hu2 with h1 | h1
 ·simp only[List.mem_cons,List.not_mem_nil,or_false] at h1
  rcases h1 with rfl | rfl | rfl | rfl | rfl | rfl | rfl | rfl | rfl | rfl<;>rfl
 rcases List.mem_append.1 h1 with h1 | h1
 ·exact hf u h1
 rcases List.mem_append.1 h1 with h1 | h1
 ·simp only[List.mem_cons,List.not_mem_nil,or_false] at h1
  rcases h1 with rfl | rfl | rfl<;>assumption
 rcases List.mem_append.1 h1 with h1 | h1
 ·simp only[List.mem_cons,List.not_mem_nil,or_false] at h1
  rcases h1 with rfl | rfl | rfl | rfl | rfl | rfl | rfl | rfl | rfl | rfl<;>rfl
 ·simp only[List.mem_cons,List.not_mem_nil,or_false] at h1
  rcases h1 with rfl | rfl<;>assumption
theorem results_msg {fn:Func} {p:Tmp} (h:fn.results=#[.cell p 42]) (tmps:Array Value) (w:World) (b:Nat) (cs:List Value)
  (hp:tmps.getD p undef=.pointer (some ⟨b,0,none⟩)) (hc:w.rangeAt b 0 cs) (hn:cs.length=32):(results fn tmps).run Tryz.prog w=.ok (.agg cs.toArray) w:=
 zAy h tmps w b cs _ hp hc Tryz.underlying42 rfl (by rw[hn];kernel_rfl)
theorem loadM {ops:Array Oper} {rest:List Oper} {op:Oper} {a:Act} {w:World} {Q:Exit->Act->World->Prop} (hgd:op.guard=none) (x:Operand) (ho:op.op=.load 42 x)
  (b:Nat) (hx:a.eval x=.pointer (some ⟨b,0,none⟩)) (cs:List Value) (hc:Blk w b cs) (hn:cs.length=32)
  (h:wpList Tryz.prog ops Q rest (a.put op.dst (.agg cs.toArray)) w):wpList Tryz.prog ops Q (op::rest) a w:=
 wpList_load_mid hgd 42 x ho b 0 hx cs _ hc.range Tryz.underlying42 rfl (by rw[hn];kernel_rfl) h
theorem storeM {ops:Array Oper} {rest:List Oper} {o:Oper} {a:Act} {Q:Exit->Act->World->Prop} (w:World) (hgd:o.guard=none) (x y:Operand) (ho:o.op=.store 42 x y)
  (h:Nat) (us:List Value) (cs:List Value) (hx:a.eval x=.pointer (some ⟨h,0,none⟩)) (hy:a.eval y=.agg cs.toArray) (hB:Blk w h us) (hl:us.length=32) (hn:cs.length=32) (h1:∀u∈cs,u.oneCell'=true)
  (H:∀wz,wz=w.setCells h 0 cs->wpList Tryz.prog ops Q rest (a.put o.dst undef) wz):wpList Tryz.prog ops Q (o::rest) a w:=
 storeB w hgd 42 x y ho h 0 us cs hx hy hB (by omega) (by rw[hn];kernel_rfl) h1 H
theorem message_any (w:World) (lo g b:Nat) (F:List Fd) (φ:Bool) (h:RdS w lo g b F φ):
  Calls Tryz.prog 30 #[.pointer (some ⟨g,0,none⟩)] w (RdPost repM Rd.messageR w (own2 g b) lo g b F φ):=by
 have hgl:=h.log
 have hlt:=h.lt
 have hbk:=h.back
 have hblo:=h.blo
 have hfa:Fr (fun _=>False) w (w.alloc (.cells #[.int .i64 0,.int .i64 0,.string ⟨#[]⟩,.string ⟨#[]⟩,.int .i64 0,.int .i64 0,.int .i64 0,.int .i64 0,.int .i64 0,.bool false,.int .i64 0,.string ⟨#[]⟩,.string ⟨#[]⟩,.string ⟨#[]⟩,.string ⟨#[]⟩,.slice none 0 0,.slice none 0 0,.slice none 0 0,.slice none 0 0,.slice none 0 0,.string ⟨#[]⟩,.bool false,.bool false,.string ⟨#[]⟩,.string ⟨#[]⟩,.string ⟨#[]⟩,.int .i64 0,.int .i64 0,.string ⟨#[]⟩,.string ⟨#[]⟩,.slice none 0 0,.slice none 0 0] 42)):=Fr.alloc _ _ _
 have hB1:Blk (w.alloc (.cells #[.int .i64 0,.int .i64 0,.string ⟨#[]⟩,.string ⟨#[]⟩,.int .i64 0,.int .i64 0,.int .i64 0,.int .i64 0,.int .i64 0,.bool false,.int .i64 0,.string ⟨#[]⟩,.string ⟨#[]⟩,.string ⟨#[]⟩,.string ⟨#[]⟩,.slice none 0 0,.slice none 0 0,.slice none 0 0,.slice none 0 0,.slice none 0 0,.string ⟨#[]⟩,.bool false,.bool false,.string ⟨#[]⟩,.string ⟨#[]⟩,.string ⟨#[]⟩,.int .i64 0,.int .i64 0,.string ⟨#[]⟩,.string ⟨#[]⟩,.slice none 0 0,.slice none 0 0] 42)) w.heap.size zeroCells:=Blk.new w zeroCells 42
 obtain⟨w1,hw1⟩:∃w1,(w.alloc (.cells #[.int .i64 0,.int .i64 0,.string ⟨#[]⟩,.string ⟨#[]⟩,.int .i64 0,.int .i64 0,.int .i64 0,.int .i64 0,.int .i64 0,.bool false,.int .i64 0,.string ⟨#[]⟩,.string ⟨#[]⟩,.string ⟨#[]⟩,.string ⟨#[]⟩,.slice none 0 0,.slice none 0 0,.slice none 0 0,.slice none 0 0,.slice none 0 0,.string ⟨#[]⟩,.bool false,.bool false,.string ⟨#[]⟩,.string ⟨#[]⟩,.string ⟨#[]⟩,.int .i64 0,.int .i64 0,.string ⟨#[]⟩,.string ⟨#[]⟩,.slice none 0 0,.slice none 0 0] 42))=w1:=⟨_,rfl⟩
 have hs1:w1.heap.size=w.heap.size+1:=by rw[<-hw1];simp
 rw[hw1] at hfa hB1
 have hfb:Fr (fun _=>False) w1 (w1.alloc (.cells #[.int .i64 0,.int .i64 0,.string ⟨#[]⟩,.string ⟨#[]⟩,.int .i64 0,.int .i64 0,.int .i64 0,.int .i64 0,.int .i64 0,.bool false,.int .i64 0,.string ⟨#[]⟩,.string ⟨#[]⟩,.string ⟨#[]⟩,.string ⟨#[]⟩,.slice none 0 0,.slice none 0 0,.slice none 0 0,.slice none 0 0,.slice none 0 0,.string ⟨#[]⟩,.bool false,.bool false,.string ⟨#[]⟩,.string ⟨#[]⟩,.string ⟨#[]⟩,.int .i64 0,.int .i64 0,.string ⟨#[]⟩,.string ⟨#[]⟩,.slice none 0 0,.slice none 0 0] 42)):=Fr.alloc _ _ _
 have hB2:Blk (w1.alloc (.cells #[.int .i64 0,.int .i64 0,.string ⟨#[]⟩,.string ⟨#[]⟩,.int .i64 0,.int .i64 0,.int .i64 0,.int .i64 0,.int .i64 0,.bool false,.int .i64 0,.string ⟨#[]⟩,.string ⟨#[]⟩,.string ⟨#[]⟩,.string ⟨#[]⟩,.slice none 0 0,.slice none 0 0,.slice none 0 0,.slice none 0 0,.slice none 0 0,.string ⟨#[]⟩,.bool false,.bool false,.string ⟨#[]⟩,.string ⟨#[]⟩,.string ⟨#[]⟩,.int .i64 0,.int .i64 0,.string ⟨#[]⟩,.string ⟨#[]⟩,.slice none 0 0,.slice none 0 0] 42)) w1.heap.size zeroCells:=Blk.new w1 zeroCells 42
 obtain⟨w2,hw2⟩:∃w2,(w1.alloc (.cells #[.int .i64 0,.int .i64 0,.string ⟨#[]⟩,.string ⟨#[]⟩,.int .i64 0,.int .i64 0,.int .i64 0,.int .i64 0,.int .i64 0,.bool false,.int .i64 0,.string ⟨#[]⟩,.string ⟨#[]⟩,.string ⟨#[]⟩,.string ⟨#[]⟩,.slice none 0 0,.slice none 0 0,.slice none 0 0,.slice none 0 0,.slice none 0 0,.string ⟨#[]⟩,.bool false,.bool false,.string ⟨#[]⟩,.string ⟨#[]⟩,.string ⟨#[]⟩,.int .i64 0,.int .i64 0,.string ⟨#[]⟩,.string ⟨#[]⟩,.slice none 0 0,.slice none 0 0] 42))=w2:=⟨_,rfl⟩
 have hs2:w2.heap.size=w.heap.size+2:=by rw[<-hw2];simp[hs1]
 rw[hw2] at hfb hB2
 rw[hs1] at hB2
 have hB1b:=hB1.fr hfb id
 have HR0:=hide (h.fr (hfa.trans hfb) id id (fun _ _ _=>id))
 have HF2:=hide (hfa.trans hfb)
 obtain⟨rb,hrb⟩:∃rb,w.heap.size=rb:=⟨_,rfl⟩
 obtain⟨mb,hmb⟩:∃mb,w.heap.size+1=mb:=⟨_,rfl⟩
 rw[hrb] at hB1b
 rw[hmb] at hB2
 have Hn:=hide (And.intro hrb (And.intro hmb (And.intro hs1 (And.intro hs2 (And.intro hgl (And.intro hlt (And.intro hbk hblo)))))))
 have HBr:=hide hB1b
 have HM0:Hid (MtIn0 mb zeroM w2):=hide ⟨hB2,rfl,rfl,rfl,rfl,rfl,rfl⟩
 have HF0:Hid (Fr (own3 (fun k=>k=mb) g b) w2 w2):=hide (Fr.refl _ _)
 have hk0:=hB2.cells 0 _ rfl
 have hz0:=hB2.fz
 have Hw:=hide (And.intro hw1 hw2)
 have hnum:=zBr w2 lo g b F φ 2 2147483647 HR0.out
 rw[show c8 2=.int .u8 2 from rfl] at hnum
 have Hnum:=hide hnum
 clear hfa hfb hB1 hB1b hB2 h hgl hlt hbk hblo hw1 hw2 hs1 hs2 hrb hmb hnum
 go_enter Tryz.func30,Tryz.ntmps30
 go_upto_region 2 with fail
 rw[Hw.out.1,Hw.out.2]
 try rw[Hn.out.2.2.1]
 rw[Hn.out.2.1,Hn.out.1]
 clear Hw
 go_wp2_with (go_at_call 81;fail)
 refine Hnum.out.mono ?_
 rintro e w3 hpost
 obtain⟨x1,v1,F1,rfl,hrep,hr3,hf3,hq1⟩:=hpost.out
 unfold repI at hrep
 subst hrep
 clear hpost Hnum
 have hM1:=HM0.out.fr hf3 (by rintro (q | q)<;>(have:=Hn.out;omega))
 have k1:=hM1.blk.cells 0 _ rfl
 have z1:=hM1.blk.fz
 obtain⟨wz,hwz⟩:∃wz,w3.setCell ⟨mb,0,none⟩ (.int .i64 x1)=wz:=⟨_,rfl⟩
 have hsw:Fr (fun k=>k=mb) w3 wz:=by rw[<-hwz];exact Fr.setCell w3 ⟨mb,0,none⟩ _ rfl
 have HM1:Hid (MtIn0 mb ({ zeroM with id:=x1 }:MT) wz):=hide (by rw[<-hwz];exact hM1.put 0 (by omega) (.int .i64 x1) ⟨rfl,rfl,rfl,rfl,rfl,rfl⟩ (fun _ _ _ _ _ _ _ _ _ _ _ _=>rfl))
 have HR1:=hide (hr3.fr hsw (by have:=Hn.out;omega) (by have:=Hn.out;omega) (fun k h1 h2=>by have:=Hn.out;omega))
 have HF1:=hide ((HF0.out.trans (hf3.mono (Y:=own3 (fun k=>k=mb) g b) fun k _ q=>by rcases q with q | q;exact .inl q;exact .inr (.inl q))).trans (hsw.mono (Y:=own3 (fun k=>k=mb) g b) fun _ _ q=>.inr (.inr q)))
 have HQ1:=hide hq1
 have Hwz:=hide hwz
 have hop:=operation_any wz lo g b F1 (φ||(Rd.numR 2 2147483647 F).isNone) mb _ HR1.out HM1.out (by have:=Hn.out;omega)
 have Hop:=hide hop
 clear hop hr3 hf3 hq1 hwz hsw HR0 HM0 HF0 hM1 hk0 hz0
 go_upto_region 3 with fail
 rw[Hwz.out]
 clear k1 z1 Hwz
 go_wp2_with (go_at_call 82;fail)
 refine Hop.out.mono ?_
 rintro e w4 hpost
 obtain⟨m2,F2,rfl,hst,hr4,hf4,hq2⟩:=hpost.out
 clear hpost Hop
 have HM2:=hide hst
 have HR2:=hide hr4
 have hf24:=HF1.out.trans hf4
 have Hz2:Hid (mb<wz.heap.size):=hide HM1.out.blk.lt
 have HF4:=hide hf24
 have HQ2:=hide hq2
 clear hst hr4 hf4 hq2 HR1 HF1 hf24
 have q1:=HQ1.out
 have p1:=zAr (u:=fun (m:MT) (x:Int)=>({ m with id:=x }:MT)) (m:=zeroM) q1
 have q2:=HQ2.out
 rw[p1.1] at q2
 have hr2:=HR2.out
 rw[p1.1] at hr2
 have t2:=zAu (b:=Rd.operR) p1.2 q2
 rw[t2.1] at hr2
 have HR2:=hide hr2
 have HT2:=hide t2.2
 clear q1 p1 q2 hr2 t2 HQ1 HQ2
 change Hid (RdS w4 lo g b F2 (φ||(Rd.thenR Rd.idR Rd.operR zeroM F).isNone)) at HR2
 change Hid (φ=false->∀m0 F0,Rd.thenR Rd.idR Rd.operR zeroM F=some (m0,F0)->m2=m0/\F2=F0) at HT2
 obtain⟨ψ,hψ⟩:∃ψ,(φ||(Rd.thenR Rd.idR Rd.operR zeroM F).isNone)=ψ:=⟨_,rfl⟩
 rw[hψ] at HR2
 have Hψ:=hide hψ
 clear hψ
 have hmo:=zA6 w4 lo g b F2 ψ HR2.out
 cases hmb:moreB F2 ψ with
 | false=>
  rw[hmb] at hmo
  go_wp2_with (go_at_call 79;fail)
  refine hmo.mono ?_
  rintro e w9 ⟨rfl,hw9⟩
  obtain rfl:=hw9.symm
  clear hmo
  have hno:=if_no (m:=m2) (X:=(Rd.someR 0xa0 Rd.controlR F2).map fun q=>(({ m2 with ctls:=q.1 }:MT),q.2)) hmb
  have hq:(φ||(Rd.thenR Rd.idR Rd.operR zeroM F).isNone)=false->∀m0 F0,Rd.ctlsR m2 F2=some (m0,F0)->m2=m0/\F2=F0:=fun hf=>hno.2 (Hψ.out.symm.trans hf)
  have tt:=zAu (b:=Rd.ctlsR) HT2.out hq
  have hrr:=HR2.out
  rw[hno.1] at hrr
  rw[<-Hψ.out] at hrr
  change RdS w4 lo g b F2 ((φ||(Rd.thenR Rd.idR Rd.operR zeroM F).isNone)||(Rd.ctlsR m2 F2).isNone) at hrr
  rw[tt.1] at hrr
  have HRx:=hide hrr
  have HTx:=hide tt.2
  have HMx:=hide (HM2.out.down (show wz.heap.size<=wz.heap.size from Nat.le_refl _))
  have HFx:=hide HF4.out
  clear hno hq tt hrr hmb HR2 HT2 HM2 HF4
  obtain⟨f0,f1,f2,f3,f4,f5,f6,va,vl,vc,vr,vk,hBm,hre⟩:=HMx.out.out
  have h1c:=hre.one
  have HRe:=hide hre
  have HBm:=hide hBm
  have H1c:=hide h1c
  obtain⟨cs,hcs⟩:∃cs,mcells m2 f0 f1 f2 f3 f4 f5 f6 va vl vc vr vk=cs:=⟨_,rfl⟩
  have hn32:cs.length=32:=by rw[<-hcs];rfl
  rw[hcs] at HBm H1c
  have Hcs:=hide hcs
  have HBq:=hide (HBr.out.fr HFx.out (by rintro (q | q | q)<;>(have:=Hn.out;omega)))
  clear hcs hre hBm h1c HMx
  go_wp2_with (first | (refine loadM rfl (.tmp 3) rfl mb rfl cs HBm.out hn32 ?_) | (refine storeM w4 rfl (.tmp 2) (.tmp 14) rfl rb zeroCells cs rfl rfl HBq.out rfl hn32 H1c.out ?_))
  have HBz:=hide (HBq.out.sets 0 cs (by rw[hn32];exact Nat.le_refl _) cs (by rw[List.drop_eq_nil_of_le (by rw[hn32];exact Nat.le_refl _)];simp))
  have Hfz:=hide (Fr.setCells (X:=fun k=>k=rb) w4 rb 0 cs rfl)
  clear HBq HBm H1c
  generalize World.setCells (w4) rb 0 cs=wz at *
  refine bodyPost_ret (v:=.agg cs.toArray) ?_ rfl ?_
  ·exact results_msg rfl _ wz rb cs rfl HBz.out.range hn32
  ·have hsz:=Hfz.out.size
   refine⟨⟨m2,_,F2,rfl,⟨f0,f1,f2,f3,f4,f5,f6,va,vl,vc,vr,vk,by rw[Hcs.out],HRe.out.move (fun p hp=>Hfz.out.cell hp.2 (by have:=hp.1;have:=Hn.out;have:=Hz2.out;omega)) (fun k hk=>⟨by have:=Hn.out;have:=Hz2.out;omega,by omega⟩)⟩,?_,((HF2.out.mono (Y:=own2 g b) fun _ _ q=>q.elim).trans' HFx.out fun k hk q=>by rcases q with q | q | q;exact .inl q;exact .inr q;(have:=Hn.out;omega)).trans' Hfz.out (fun k hk q=>by have:=Hn.out;omega),HTx.out⟩⟩
   exact (HRx.out).fr Hfz.out (by have:=Hn.out;omega) (by have:=Hn.out;omega) (fun k h1 h2=>by have:=Hn.out;omega)
 | true=>
  rw[hmb] at hmo
  have hmy:=more_yes hmb
  have hso:=someC_any Rd.controlR control_eats w4 lo g b F2 ψ 160 HR2.out (readsC _ b)
  rw[show c8 160=.int .u8 160 from rfl] at hso
  have Hso:=hide hso
  clear hso
  go_wp2_with (go_at_call 79;fail)
  refine hmo.mono ?_
  rintro e w9 ⟨rfl,hw9⟩
  obtain rfl:=hw9.symm
  clear hmo hmb
  go_upto_region 5 with fail
  go_wp2_with (go_at_call 83;fail)
  refine Hso.out.mono ?_
  rintro e w5 hpost
  obtain⟨L,v,F3,rfl,hrep,hr5,hf5,hq3⟩:=hpost.out
  have hrepx:=hrep
  obtain⟨A3,c3,xs3,rfl,-⟩:=hrepx
  clear hpost Hso
  have hm5:=HM2.out.fr hf5 (by rintro (q | q)<;>(have:=Hn.out;omega)) (fun k hk=>by rintro (q | q)<;>(have:=Hn.out;have:=Hz2.out;omega))
  have hs5:=hf5.size
  have hs4:=HF4.out.size
  obtain⟨W5,hW5⟩:∃W5,w5.setCell ⟨mb,31,none⟩ (.slice A3 L.length c3)=W5:=⟨_,rfl⟩
  have hsw:Fr (fun k=>k=mb) w5 W5:=by rw[<-hW5];exact Fr.setCell w5 ⟨mb,31,none⟩ _ rfl
  have hmz:MtIn mb (mb+1) ({ m2 with ctls:=L }:MT) W5:=by
   rw[<-hW5]
   exact (hm5.down (show mb+1<=wz.heap.size from Hz2.out)).putCtls (by omega) (zA7 (fun _ _=>rfl) (fun k hk=>⟨by have:=Hn.out;omega,hk.2⟩) hrep)
  obtain⟨f0,f1,f2,f3,f4,f5,f6,va,vl,vc,vr,vk,hBm0,hre0⟩:=hm5.out
  have k31:=hBm0.cells 31 _ rfl
  have z31:=hBm0.fz
  clear hBm0 hre0 f0 f1 f2 f3 f4 f5 f6 va vl vc vr
  have hr5z:=hr5.fr hsw (by have:=Hn.out;omega) (by have:=Hn.out;omega) (fun k h1 h2=>by have:=Hn.out;omega)
  have hf5z:=(HF4.out.trans (hf5.mono (Y:=own3 (fun k=>k=mb) g b) fun k _ q=>by rcases q with q | q;exact .inl q;exact .inr (.inl q))).trans (hsw.mono (Y:=own3 (fun k=>k=mb) g b) fun _ _ q=>.inr (.inr q))
  have q3:(φ||(Rd.thenR Rd.idR Rd.operR zeroM F).isNone)=false->∀m0 F0,Rd.ctlsR m2 F2=some (m0,F0)->({ m2 with ctls:=L }:MT)=m0/\F3=F0:=fun hf m0 F0 h0=>by
   have h1:=hq3 (Hψ.out.symm.trans hf)
   unfold Rd.ctlsR at h0
   rw[if_neg hmy.2] at h0
   cases hsm:Rd.someR 0xa0 Rd.controlR F2 with
   | none=>rw[hsm] at h0;cases h0
   | some q=>
    obtain⟨y,G⟩:=q
    obtain⟨rfl,rfl⟩:=h1 _ _ hsm
    rw[hsm] at h0
    simpa using h0
  have tt:=zAu (b:=Rd.ctlsR) HT2.out q3
  have hrr:=hr5z
  rw[show (Rd.someR 160 Rd.controlR F2).isNone=(Rd.ctlsR m2 F2).isNone from by unfold Rd.ctlsR;rw[if_neg hmy.2];cases Rd.someR 160 Rd.controlR F2<;>rfl] at hrr
  rw[<-Hψ.out,tt.1] at hrr
  have HRx:=hide hrr
  have HTx:=hide tt.2
  have HMx:=hide hmz
  have HFx:=hide hf5z
  have HW5:=hide hW5
  have Hz2:Hid (mb<mb+1):=hide (by omega)
  clear q3 tt hrr hr5z hf5z hmz hsw hW5 hs5 hs4 hm5 hr5 hf5 hq3 hrep HR2 HT2 HM2 HF4
  go_upto_region 6 with fail
  rw[HW5.out]
  clear k31 z31 HW5
  obtain⟨f0,f1,f2,f3,f4,f5,f6,va,vl,vc,vr,vk,hBm,hre⟩:=HMx.out.out
  have h1c:=hre.one
  have HRe:=hide hre
  have HBm:=hide hBm
  have H1c:=hide h1c
  obtain⟨cs,hcs⟩:∃cs,mcells ({ m2 with ctls:=L }:MT) f0 f1 f2 f3 f4 f5 f6 va vl vc vr vk=cs:=⟨_,rfl⟩
  have hn32:cs.length=32:=by rw[<-hcs];rfl
  rw[hcs] at HBm H1c
  have Hcs:=hide hcs
  have HBq:=hide (HBr.out.fr HFx.out (by rintro (q | q | q)<;>(have:=Hn.out;omega)))
  clear hcs hre hBm h1c HMx
  go_wp2_with (first | (refine loadM rfl (.tmp 3) rfl mb rfl cs HBm.out hn32 ?_) | (refine storeM W5 rfl (.tmp 2) (.tmp 14) rfl rb zeroCells cs rfl rfl HBq.out rfl hn32 H1c.out ?_))
  have HBz:=hide (HBq.out.sets 0 cs (by rw[hn32];exact Nat.le_refl _) cs (by rw[List.drop_eq_nil_of_le (by rw[hn32];exact Nat.le_refl _)];simp))
  have Hfz:=hide (Fr.setCells (X:=fun k=>k=rb) W5 rb 0 cs rfl)
  clear HBq HBm H1c
  generalize World.setCells (W5) rb 0 cs=wz at *
  refine bodyPost_ret (v:=.agg cs.toArray) ?_ rfl ?_
  ·exact results_msg rfl _ wz rb cs rfl HBz.out.range hn32
  ·have hsz:=Hfz.out.size
   refine⟨⟨({ m2 with ctls:=L }:MT),_,F3,rfl,⟨f0,f1,f2,f3,f4,f5,f6,va,vl,vc,vr,vk,by rw[Hcs.out],HRe.out.move (fun p hp=>Hfz.out.cell hp.2 (by have:=hp.1;have:=Hn.out;have:=Hz2.out;omega)) (fun k hk=>⟨by have:=Hn.out;have:=Hz2.out;omega,by omega⟩)⟩,?_,((HF2.out.mono (Y:=own2 g b) fun _ _ q=>q.elim).trans' HFx.out fun k hk q=>by rcases q with q | q | q;exact .inl q;exact .inr q;(have:=Hn.out;omega)).trans' Hfz.out (fun k hk q=>by have:=Hn.out;omega),HTx.out⟩⟩
   exact (HRx.out).fr Hfz.out (by have:=Hn.out;omega) (by have:=Hn.out;omega) (fun k h1 h2=>by have:=Hn.out;omega)
abbrev inB (w:World):Nat->Prop:=fun k=>k<w.heap.size
theorem rowIn.at_ {α:Type} {E:Elem α} {w:World} {P:Nat->Prop}:∀{L:List α} {xs:List Value},rowIn E w P L xs->∀(i:Nat) (x:α),L[i]?=some x->E.rep w P x ((xs.drop (i*E.size)).take E.size)
 | [],xs,h,i,x,hx=>by simp at hx
 | q::r,xs,h,0,x,hx=>by
  simp only[List.getElem?_cons_zero,Option.some.injEq] at hx
  subst hx
  simpa using h.1
 | q::r,xs,h,i+1,x,hx=>by
  simp only[List.getElem?_cons_succ] at hx
  have:=rowIn.at_ h.2 i x hx
  rw[List.drop_drop] at this
  rwa [show (i+1)*E.size=E.size+i*E.size by rw[Nat.add_mul];omega]
theorem zBc {α:Type} {E:Elem α} {w:World} {P:Nat->Prop} {A:Option Addr} {n:Nat} {L:List α} {xs:List Value} (hA:HasP w P E.size A n xs) (hr:rowIn E w P L xs) (hs:0<E.size) (hL:L≠[]):
  ∃g o,A=some ⟨g,o,none⟩/\P g/\∀(i:Nat) (x:α),L[i]?=some x->∃cs,E.rep w P x cs/\∀(j:Nat) (u:Value),cs[j]?=some u->w.cell? ⟨g,o+i*E.size+j,none⟩=some u:=by
 have hl:=hr.len
 have hp:=List.length_pos_iff.2 hL
 obtain⟨g,o,e,hg,hc⟩:=hA.lies (by rw[hl];exact Nat.mul_pos hp hs)
 refine⟨g,o,e,hg,fun i x hx=>⟨_,hr.at_ i x hx,fun j u hu=>?_⟩⟩
 have:=hc (i*E.size+j) u (by
  rw[List.getElem?_take] at hu
  split at hu
  ·rwa [List.getElem?_drop] at hu
  ·cases hu)
 rwa [<-Nat.add_assoc] at this
theorem zAd {P:Program} {a:Act} {W:World} (ty:TypeId) (x:Operand) (oi:Oper) (ho:oi.op=.load ty x) (b o:Nat) (hx:a.eval x=.pointer (some ⟨b,o,none⟩)) (v:Value) (hl:(loadVar ty ⟨b,o,none⟩).run P W=.ok v W):(execOp a.eval oi).run P W=.ok (.value v) W:=by
 unfold execOp
 simp only[ho,hx,Instr.loadAt,Instr.sureAddr,Sem.run_bind,Sem.run_pure,Result.andThen_ok,hl]
theorem loadT (W:World) (p:Addr) (v:Value) (h:W.cell? p=some v):(loadVar 22 p).run Tryz.prog W=.ok v W:=by go_simp
theorem loadA (W:World) (p:Addr) (v:Value) (h:W.cell? p=some v):(loadVar 26 p).run Tryz.prog W=.ok v W:=by go_simp
theorem loadH (W:World) (p:Addr) (v:Value) (h:W.cell? p=some v):(loadVar 27 p).run Tryz.prog W=.ok v W:=by go_simp
theorem loadC (W:World) (p:Addr) (v:Value) (h:W.cell? p=some v):(loadVar 40 p).run Tryz.prog W=.ok v W:=by go_simp
theorem boolOf (P:Prop):∃b:Bool,b=true↔P:=by
 by_cases h:P
 ·exact ⟨true,by simp[h]⟩
 ·exact ⟨false,by simp[h]⟩
theorem not_of {b R:Bool} {P Q:Prop} (hb:b=true↔P) (hR:R=true↔Q) (h:Q->P):b=false->R=false:=fun e=>by
 cases R with
 | false=>rfl
 | true=>have:=hb.2 (h (hR.1 rfl));rw[e] at this;cases this
theorem MReps.below {w w':World} {m:MT} {f0 f1 f2 f3 f4 f5 f6 va vl vc vr vk:Value} (h:MReps w (inB w) m f0 f1 f2 f3 f4 f5 f6 va vl vc vr vk) (hb:Below w.heap.size w w'):MReps w' (inB w') m f0 f1 f2 f3 f4 f5 f6 va vl vc vr vk:=
 h.move (fun p hp=>hb.cell (by exact hp)) (fun k hk=>Nat.lt_of_lt_of_le hk hb.size)
theorem zAt {α:Type} {E:Elem α} {w:World} {P:Nat->Prop} {L:List α} {v:Value} (h:repL E w P L v):∃A n c,v=.slice A n c:=by
 obtain⟨A,c,xs,rfl,_⟩:=h;exact⟨_,_,_,rfl⟩
end Go.Proofs.YtcpjmgfloimfhaaGreat
namespace Go.Proofs.YtcpjmgfloimfhaaGreat.Opens
open Go Go.ChangeShapes Go.WideShapes Go.ChangeAt Go.RowKit Go.Deep
theorem flat7 (f:Nat->List Value):∀(n:Nat),(∀i,i<n->(f i).length=7)->((List.range n).flatMap f).length=n*7/\∀j u,((List.range n).flatMap f)[j]?=some u->j/7<n/\(f (j/7))[j % 7]?=some u
 | 0,_=>⟨rfl,fun j u h=>by simp at h⟩
 | n+1,h=>by
  obtain⟨h1,h2⟩:=flat7 f n (fun i hi=>h i (by omega))
  have h7:=h n (by omega)
  rw[List.range_succ,List.flatMap_append]
  simp only[List.flatMap_cons,List.flatMap_nil,List.append_nil]
  refine⟨by rw[List.length_append,h1,h7];omega,fun j u hu=>?_⟩
  by_cases hj:j<n*7
  ·rw [List.getElem?_append_left (by rw[h1];exact hj)] at hu
   obtain⟨h3,h4⟩:=h2 j u hu
   exact⟨by omega,h4⟩
  ·rw [List.getElem?_append_right (by rw[h1];omega),h1] at hu
   have hl:=(List.getElem?_eq_some_iff.1 hu).1
   have e1:j/7=n:=by omega
   have e2:j % 7=j-n*7:=by omega
   rw[e1,e2]
   exact⟨by omega,hu⟩
theorem flat7_in {w:World} {B:Nat} (f:Nat->List Value) (t:Nat->FT):∀(n:Nat),(∀i,i<n->FIn w B (t i) (f i))->FsIn w B ((List.range n).map t) ((List.range n).flatMap f)
 | 0,_=>by simp[FsIn]
 | n+1,h=>by
  have h1:=flat7_in f t n (fun i hi=>h i (by omega))
  rw[List.range_succ,List.flatMap_append,List.map_append]
  simp only[List.flatMap_cons,List.flatMap_nil,List.append_nil,List.map_cons,List.map_nil]
  exact h1.snoc (h n (by omega))
theorem self_txt (s:ByteArray):txt s.data.toList=s:=ByteArray.ext (Array.ext' (by simp[txt]))
theorem texts_cells {H:Type} {enc:TypeId × Value->H} {P:Program} {W:World} {base fuel:Nat} {sp:Nat->Bool} {held:Bool} {t e:TypeId} {v:Value} {x:DataW H × List MemPlace}
  (ht:P.underlying t=some (.slice e)) (ce:P.cellsOf e=1) (he:P.underlying e=some .string) (h:DataW.trod enc P W base sp held fuel t [v]=some x):
  ∃A c L,v=.slice A L.length c/\L.length<=maxLen/\Has W W.heap.size 1 A L.length (strs L):=by
 rcases open_slice1 ht ce h with⟨hcs,hx⟩ | ⟨a,len,cap,m,k,V,D,Pl,hcs,hb,hl,hm,hmm,hx,hall⟩
 ·simp at hcs
  subst hcs
  exact⟨none,0,[],rfl,by simp,Has.nil⟩
 ·simp at hcs
  subst hcs
  have hlm:len<=m:=by rw[hmm];split<;>omega
  have each:∀i,i<len->∃q:List UInt8,W.cell? (a.add i)=some (.string (txt q)):=by
   intro i hi
   obtain⟨h0,h1⟩:=hall i (by omega)
   obtain⟨s,hs,_,_⟩:=DataW.trod_string he h1
   have:V i=.string s:=by simpa using hs
   exact⟨s.data.toList,by rw[self_txt,h0,this]⟩
  obtain⟨q,hq⟩:=choose_lt each
  refine⟨some a,cap,(List.range len).map q,by simp,by simp;omega,?_⟩
  rw[List.length_map,List.length_range]
  refine⟨by simp[strs],?_⟩
  rcases Nat.eq_zero_or_pos len with h0 | h0
  ·subst h0
   exact .inl rfl
  ·refine .inr ⟨a,rfl,?_,fun j u hu=>?_⟩
   ·have:=World.block_lt_of_cell? W _ (hq 0 h0)
    rwa [zBl] at this
   ·have hj:j<len:=by
     have:=(List.getElem?_eq_some_iff.1 hu).1
     simpa[strs] using this
    rw[hq j hj]
    simpa[strs,List.getElem?_range hj] using hu
theorem open_filter_cells {H:Type} {enc:TypeId × Value->H} {P:Program} {W:World} {base:Nat} {sp:Nat->Bool} {held:Bool} {T e5:TypeId} {f0 f1 f2 f3 f4 f5 f6:Field}
  (hT:P.underlying T=some (.struct #[f0,f1,f2,f3,f4,f5,f6])) (cT:P.cellsOf T=7) (o0:f0.offset=0) (o1:f1.offset=1) (o2:f2.offset=2) (o3:f3.offset=3) (o4:f4.offset=4) (o5:f5.offset=5) (o6:f6.offset=6)
  (c0:P.cellsOf f0.type=1) (c1:P.cellsOf f1.type=1) (c2:P.cellsOf f2.type=1) (c3:P.cellsOf f3.type=1) (c4:P.cellsOf f4.type=1) (c5:P.cellsOf f5.type=1) (c6:P.cellsOf f6.type=1)
  (s0:P.underlying f0.type=some (.int .i64)) (s1:P.underlying f1.type=some .string) (s2:P.underlying f2.type=some .string) (s3:P.underlying f3.type=some .string) (s4:P.underlying f4.type=some .string)
  (s5:P.underlying f5.type=some (.slice e5)) (ce5:P.cellsOf e5=1) (se5:P.underlying e5=some .string) (s6:P.underlying f6.type=some (.slice T)):
  ∀(fuel:Nat) (cs:List Value) (x:DataW H × List MemPlace),DataW.trod enc P W base sp held fuel T cs=some x->∃t:FT,FIn W W.heap.size t cs:=by
 intro fuel
 induction fuel using Nat.strongRecOn with
 | _ fuel ih=>
  intro cs x h
  obtain⟨xs,m,rfl,rfl,hl,hxl,hf⟩:=DataW.trod_struct hT h
  rw[cT] at hl
  obtain⟨v0,v1,v2,v3,v4,v5,v6,rfl⟩:=seven hl
  have hx7:xs.length=7:=by simpa using hxl
  match xs,hx7 with
  | [y0,y1,y2,y3,y4,y5,y6],_=>
   have g0:=hf 0 f0 rfl
   have g1:=hf 1 f1 rfl
   have g2:=hf 2 f2 rfl
   have g3:=hf 3 f3 rfl
   have g4:=hf 4 f4 rfl
   have g5:=hf 5 f5 rfl
   have g6:=hf 6 f6 rfl
   simp[o0,c0] at g0
   simp[o1,c1] at g1
   simp[o2,c2] at g2
   simp[o3,c3] at g3
   simp[o4,c4] at g4
   simp[o5,c5] at g5
   simp[o6,c6] at g6
   obtain⟨k,hk,_,_⟩:=DataW.trod_int s0 g0
   obtain⟨a,ha,_,_⟩:=DataW.trod_string s1 g1
   obtain⟨v,hv,_,_⟩:=DataW.trod_string s2 g2
   obtain⟨f,hff,_,_⟩:=DataW.trod_string s3 g3
   obtain⟨l,hll,_,_⟩:=DataW.trod_string s4 g4
   simp only[List.cons.injEq,and_true] at hk ha hv hff hll
   subst hk ha hv hff hll
   obtain⟨A,c,any,hv5,hm5,hA⟩:=texts_cells s5 ce5 se5 g5
   subst hv5
   have parts:∃D d ps xs,v6=.slice D ps.length d/\ps.length<=maxLen/\Has W W.heap.size 7 D ps.length xs/\FsIn W W.heap.size ps xs:=by
    rcases DataW.trod_slice s6 g6 with⟨hcs,_⟩ | ⟨ad,len,cap,elems,rest,n,hn,hcs,_,hb,hlc,hm,hlen,hel,_,_⟩
    ·simp at hcs
     subst hcs
     exact⟨none,0,[],[],rfl,by simp,Has.nil,by simp[FsIn]⟩
    ·simp at hcs
     subst hcs
     have each:∀i,i<len->∃q:List Value × FT,(∀j u,q.1[j]?=some u->W.cell? ((ad.add (i*7)).add j)=some u)/\q.1.length=7/\FIn W W.heap.size q.2 q.1:=by
      intro i hi
      have hi2:=hel i hi
      rw[cT,List.getElem?_eq_getElem (by omega)] at hi2
      obtain⟨cs',h1,h2⟩:=Option.bind_eq_some_iff.1 hi2
      obtain⟨t,ht⟩:=ih n (by omega) cs' _ h2
      have hl7:=ht.len
      obtain⟨_,_,hcell⟩:=World.cells?_some h1
      refine⟨(cs',t),fun j u hu=>?_,hl7,ht⟩
      have hj:j<cs'.length:=(List.getElem?_eq_some_iff.1 hu).1
      rw[hcell j (by omega)]
      exact hu
     haveI:Inhabited FT:=⟨.mk 0 [] [] [] [] [] []⟩
     obtain⟨q,hq⟩:=choose_lt each
     have hflat:=flat7 (fun i=>(q i).1) len (fun i hi=>(hq i hi).2.1)
     refine⟨some ad,cap,(List.range len).map fun i=>(q i).2,(List.range len).flatMap fun i=>(q i).1,by simp,by simp;omega,?_,flat7_in _ _ _ (fun i hi=>(hq i hi).2.2)⟩
     rw[List.length_map,List.length_range]
     refine⟨hflat.1,?_⟩
     rcases Nat.eq_zero_or_pos len with h0 | h0
     ·subst h0
      exact .inl rfl
     ·refine .inr ⟨ad,rfl,?_,fun j u hu=>?_⟩
      ·obtain ⟨h1,h2,_⟩:=hq 0 h0
       have:=World.block_lt_of_cell? W _ (h1 0 _ (List.getElem?_eq_getElem (by omega)))
       rwa [zBl,zBl] at this
      ·obtain ⟨h1,h2⟩:=hflat.2 j u hu
       have:=(hq (j/7) h1).1 (j % 7) u h2
       rw[add_add] at this
       rwa [show j/7*7+j % 7=j by omega] at this
   obtain⟨D,d,ps,zs,hv6,hmp,hD,hP⟩:=parts
   subst hv6
   refine⟨.mk k a.data.toList v.data.toList f.data.toList l.data.toList any ps,?_⟩
   simp only[FIn,self_txt]
   exact⟨A,c,D,d,zs,rfl,⟨hm5,hmp⟩,hA,hD,hP⟩
end Go.Proofs.YtcpjmgfloimfhaaGreat.Opens
