/- Decode. By an AI agent. -/
import Derived.Test.YtpkedjohgmnhhaaGreatLMessage
import Derived.Great.BuildSlice
set_option maxRecDepth 100000
set_option maxHeartbeats 32000000
set_option linter.unusedSimpArgs false
namespace Go.Proofs.YtpkedjohgmnhhaaGreat
open Go.RowKit
set_option linter.unusedVariables false
theorem decCl (w:World) (b mb lo3:Nat) (us:List Value) (hB:Blk w mb us) (hus:us.length=32) (hb:mb≠b) (h3:mb<lo3∧lo3≤w.heap.size∧b<lo3):
  ClosedBy (fun (x:MT) W=>MtIn mb lo3 x W) (fun k=>k=mb) Rd.messageR w b 29 #[.pointer (some ⟨mb,0,none⟩)]:=by
 intro W lo g F φ hfr hwl hr
 have hml:=hB.lt
 have HB0:=hide (hB.fr hfr (fun e=>hb e))
 have Hn:=hide (And.intro hml (And.intro hwl (And.intro hr.log (And.intro hr.lt (And.intro hr.blo (And.intro hb (And.intro h3 hfr.size)))))))
 have hme:=message_any W lo g b F φ hr
 have Hme:=hide hme
 try simp only[List.append_toArray,List.cons_append,List.nil_append]
 clear hfr hwl hr hB hb hml hme h3
 go_enter Tryz.func29,Tryz.ntmps29
 go_wp2_with (go_at_call 30;fail)
 refine Hme.out.mono ?_
 rintro e w1 hpost
 obtain⟨x,v,F1,rfl,hrep,hr1,hf1,hq1⟩:=hpost.out
 obtain⟨f0,f1,f2,f3,f4,f5,f6,va,vl,vc,vr,vk,rfl,hre⟩:=hrep
 have h1c:=hre.one
 have HRe:=hide hre
 have H1c:=hide h1c
 have HB1:=hide (HB0.out.fr hf1 (by rintro (q | q)<;>(have:=Hn.out;omega)))
 have hsz:=hf1.size
 have HR1:=hide hr1
 have HF1:=hide hf1
 have HQ1:=hide hq1
 have Hsz:=hide hsz
 obtain⟨cs,hcs⟩:∃cs,mcells x f0 f1 f2 f3 f4 f5 f6 va vl vc vr vk=cs:=⟨_,rfl⟩
 have hn32:cs.length=32:=by rw[←hcs];rfl
 rw[hcs] at H1c
 have Hcs:=hide hcs
 rw[hcs]
 clear hpost hre h1c hr1 hf1 hq1 hsz hcs Hme HB0
 go_wp2_with (refine storeM w1 rfl (.tmp 1) (.tmp 4) rfl mb us cs rfl rfl HB1.out hus hn32 H1c.out ?_)
 have HBz:=hide (HB1.out.sets 0 cs (by rw[hn32,hus];exact Nat.le_refl _) cs (by rw[List.drop_eq_nil_of_le (by rw[hn32,hus];exact Nat.le_refl _)];simp))
 have Hfz:=hide (Fr.setCells (X:=fun k=>k=mb) w1 mb 0 cs rfl)
 clear HB1 H1c
 generalize World.setCells w1 mb 0 cs=wz at *
 go_returns
 refine⟨⟨x,F1,rfl,⟨f0,f1,f2,f3,f4,f5,f6,va,vl,vc,vr,vk,by rw[Hcs.out];exact HBz.out,HRe.out.move (fun p hp=>Hfz.out.cell hp.2 (by have:=hp.1;have:=Hn.out;omega)) (fun k hk=>⟨by have:=Hn.out;omega,by have:=Hfz.out.size;omega⟩)⟩,HR1.out.fr Hfz.out (by have:=Hn.out;omega) (by have:=Hn.out;omega) (fun k h1 h2=>by have:=Hn.out;omega),(HF1.out.mono (Y:=own3 (fun k=>k=mb) g b) fun k _ q=>by rcases q with q | q;exact .inl q;exact .inr (.inl q)).trans (Hfz.out.mono (Y:=own3 (fun k=>k=mb) g b) fun _ _ q=>.inr (.inr q)),HQ1.out⟩⟩
theorem decCl2 (w:World) (b mb lo3:Nat) (us:List Value) (hB:Blk w mb us) (hus:us.length=32) (hb:mb≠b) (h3:mb<lo3∧lo3≤w.heap.size∧b<lo3):
  ClosedBy (fun (x:MT) W=>MtIn mb lo3 x W) (fun k=>k=mb) (Rd.innerR 48 Rd.messageR) w b 27 #[.pointer (some ⟨mb,0,none⟩)]:=by
 intro W lo g F φ hfr hwl hr
 have hml:=hB.lt
 have hlog:=hr.log
 have hin:=inner_any (fun (x:MT) W=>MtIn mb lo3 x W) (fun k=>k=mb) Rd.messageR W lo g b F φ 48 29 #[.pointer (some ⟨mb,0,none⟩)] (fun args w=>by go_simp) hr
  (fun V hV=>decCl V b mb lo3 us ((hB.fr hfr (fun e=>hb e)).fr hV (by rintro (q | q)<;>omega)) hus hb (by have:=hfr.size;have:=hV.size;omega)) (fun x V V' q1 q2=>q1.fr q2 (fun e=>hb e) (fun k hk e=>by have:=h3;omega)) (fun k hk=>by subst hk;have:=hr.blo;exact⟨by have:=hfr.size;omega,hb,by omega⟩)
 rw[show c8 48=.int .u8 48 from rfl] at hin
 have Hin:=hide hin
 try simp only[List.append_toArray,List.cons_append,List.nil_append]
 clear hfr hwl hr hB hb hml hin hlog h3
 go_enter Tryz.func27,Tryz.ntmps27
 go_wp2_with (go_at_call 28;fail)
 refine Hin.out.mono ?_
 rintro e w1 hpost
 obtain⟨x,F1,rfl,hst,hr1,hf1,hq1⟩:=hpost.out
 have HS:=hide hst
 have HR1:=hide hr1
 have HF1:=hide hf1
 have HQ1:=hide hq1
 clear hpost Hin hst hr1 hf1 hq1
 go_wp2
 go_returns
 exact⟨⟨x,F1,rfl,HS.out,HR1.out,HF1.out,HQ1.out⟩⟩
theorem results_msg2 {fn:Func} {p q:Tmp} (h:fn.results=#[.cell p 42,.tmp q]) (tmps:Array Value) (w:World) (b:Nat) (cs:List Value) (v:Value)
  (hp:tmps.getD p undef=.pointer (some ⟨b,0,none⟩)) (hq:tmps.getD q undef=v) (hc:w.rangeAt b 0 cs) (hn:cs.length=32):(results fn tmps).run Tryz.prog w=.ok (.tuple #[.agg cs.toArray,v]) w:=by
 have hp':tmps[p]?.getD undef=.pointer (some ⟨b,0,none⟩):=by simpa using hp
 have hq':tmps[q]?.getD undef=v:=by simpa using hq
 have hl:=run_loadVar_mid w b 0 42 cs _ hc Tryz.underlying42 rfl (by rw[hn];kernel_rfl)
 simp[results,h,hp',hq',asAddr,hl]
structure DecPost (l:List UInt8) (w:World) (e:Ending) (w':World):Prop where
 out:∃m v,e=.returned (.tuple #[v,.int .i64 (if 16384<l.length then 4 else if (Rd.decode l).isSome then 0 else 2)])∧repM w' (fun k=>w.heap.size≤k∧k<w'.heap.size) m v∧m=(Rd.decode l).getD zeroM∧Below w.heap.size w w'
theorem zero_rep (w:World) (P:Nat→Prop):repM w P zeroM (.agg zeroCells.toArray):=
 ⟨_,_,_,_,_,_,_,_,_,_,_,_,rfl,⟨⟨none,0,none,0,[],rfl,⟨by unfold maxLen;simp,by unfold maxLen;simp⟩,HasP.none _,HasP.none _,rfl⟩,repL_zero,repL_zero,repL_zero,repL_zero,repL_zero⟩⟩
theorem zero_one:∀u∈zeroCells,u.oneCell'=true:=by
 unfold zeroCells
 simp[Value.oneCell']
theorem decode_any (w:World) (A:Option Addr) (c:Nat) (l:List UInt8) (hH:Has w w.heap.size 1 A l.length (bys l)) (hc:l.length≤c) (hm:c≤maxLen):
  Calls Tryz.prog 14 #[.slice A l.length c] w (DecPost l w):=by
 have hfa:Fr (fun _=>False) w (w.alloc (.cells #[.int .i64 0,.int .i64 0,.string ⟨#[]⟩,.string ⟨#[]⟩,.int .i64 0,.int .i64 0,.int .i64 0,.int .i64 0,.int .i64 0,.bool false,.int .i64 0,.string ⟨#[]⟩,.string ⟨#[]⟩,.string ⟨#[]⟩,.string ⟨#[]⟩,.slice none 0 0,.slice none 0 0,.slice none 0 0,.slice none 0 0,.slice none 0 0,.string ⟨#[]⟩,.bool false,.bool false,.string ⟨#[]⟩,.string ⟨#[]⟩,.string ⟨#[]⟩,.int .i64 0,.int .i64 0,.string ⟨#[]⟩,.string ⟨#[]⟩,.slice none 0 0,.slice none 0 0] 42)):=Fr.alloc _ _ _
 have hB1:Blk (w.alloc (.cells #[.int .i64 0,.int .i64 0,.string ⟨#[]⟩,.string ⟨#[]⟩,.int .i64 0,.int .i64 0,.int .i64 0,.int .i64 0,.int .i64 0,.bool false,.int .i64 0,.string ⟨#[]⟩,.string ⟨#[]⟩,.string ⟨#[]⟩,.string ⟨#[]⟩,.slice none 0 0,.slice none 0 0,.slice none 0 0,.slice none 0 0,.slice none 0 0,.string ⟨#[]⟩,.bool false,.bool false,.string ⟨#[]⟩,.string ⟨#[]⟩,.string ⟨#[]⟩,.int .i64 0,.int .i64 0,.string ⟨#[]⟩,.string ⟨#[]⟩,.slice none 0 0,.slice none 0 0] 42)) w.heap.size zeroCells:=Blk.new w zeroCells 42
 obtain⟨w1,hw1⟩:∃w1,(w.alloc (.cells #[.int .i64 0,.int .i64 0,.string ⟨#[]⟩,.string ⟨#[]⟩,.int .i64 0,.int .i64 0,.int .i64 0,.int .i64 0,.int .i64 0,.bool false,.int .i64 0,.string ⟨#[]⟩,.string ⟨#[]⟩,.string ⟨#[]⟩,.string ⟨#[]⟩,.slice none 0 0,.slice none 0 0,.slice none 0 0,.slice none 0 0,.slice none 0 0,.string ⟨#[]⟩,.bool false,.bool false,.string ⟨#[]⟩,.string ⟨#[]⟩,.string ⟨#[]⟩,.int .i64 0,.int .i64 0,.string ⟨#[]⟩,.string ⟨#[]⟩,.slice none 0 0,.slice none 0 0] 42))=w1:=⟨_,rfl⟩
 have hs1:w1.heap.size=w.heap.size+1:=by rw[←hw1];simp
 rw[hw1] at hfa hB1
 obtain⟨rb,hrb⟩:∃rb,w.heap.size=rb:=⟨_,rfl⟩
 obtain⟨n,hn⟩:∃n,l.length=n:=⟨_,rfl⟩
 have hnm:n≤9223372036854775807:=by unfold maxLen at hm;omega
 by_cases hlong:16384<l.length
 ·have hde:Rd.decode l=none:=by unfold Rd.decode;rw[if_neg (by omega)]
  have hl16:((16384:Int)<(n:Int)):=by omega
  have HB1:=hide hB1
  have Hw1:=hide hw1
  have Hfa:=hide hfa
  have Hde:=hide hde
  have Hlong:=hide hlong
  have Hrb:=hide hrb
  rw[hn]
  rw[hrb] at HB1
  obtain⟨zc,hzc⟩:∃zc,zeroCells=zc:=⟨_,rfl⟩
  have Hzb:Hid (Tryz.prog.built 42 []=some zc.toArray):=hide (by rw[←hzc];kernel_rfl)
  have Hzn:Hid (zc.length=32):=hide (by rw[←hzc];rfl)
  have Hz1:Hid (∀u∈zc,u.oneCell'=true):=hide (by rw[←hzc];exact zero_one)
  rw[hzc] at HB1
  have Hzc:=hide hzc
  clear hzc
  clear hfa hB1 hw1 hs1 hH hc hm hde hlong hn hrb
  go_enter Tryz.func14,Tryz.ntmps14
  go_upto_region 1 with fail
  rw[Hw1.out]
  rw[Hrb.out]
  go_upto_region 2 with fail
  refine wp_region_lit ?_
  refine wpList_buildTo rfl 42 #[] rfl (some 9) rfl zc.toArray (by rw[Array.map_empty];exact Hzb.out) ?_
  refine storeM w1 rfl (.tmp 2) (.tmp 9) rfl rb zc zc rfl rfl HB1.out Hzn.out Hzn.out Hz1.out ?_
  intro wz hwz
  have HBz:Hid (Blk wz rb zc):=hide (by rw[hwz];exact HB1.out.sets 0 zc (by rw[Nat.zero_add];exact Nat.le_refl _) zc (by simp))
  have Hfz:Hid (Fr (fun k=>k=rb) w1 wz):=hide (by rw[hwz];exact Fr.setCells (X:=fun k=>k=rb) w1 rb 0 zc rfl)
  clear hwz HB1
  simp only[Act.put,List.setIfInBounds_toArray,List.set_cons_zero,List.set_cons_succ]
  go_wp2
  refine bodyPost_ret (v:=.tuple #[.agg zc.toArray,.int .i64 4]) ?_ rfl ?_
  ·exact results_msg2 rfl _ wz rb zc _ rfl rfl HBz.out.range Hzn.out
  ·refine ⟨⟨zeroM,_,by rw[if_pos Hlong.out],by rw[←Hzc.out];exact zero_rep _ _,by rw[Hde.out];rfl,?_⟩⟩
   exact (Hfa.out.trans' Hfz.out (fun k hk q=>by have:=Hrb.out;omega)).below (Nat.le_refl _) (fun k q=>q.elim)
 ·have hfb:Fr (fun _=>False) w1 (w1.alloc (.cells #[.int .i64 0,.int .i64 0,.string ⟨#[]⟩,.string ⟨#[]⟩,.int .i64 0,.int .i64 0,.int .i64 0,.int .i64 0,.int .i64 0,.bool false,.int .i64 0,.string ⟨#[]⟩,.string ⟨#[]⟩,.string ⟨#[]⟩,.string ⟨#[]⟩,.slice none 0 0,.slice none 0 0,.slice none 0 0,.slice none 0 0,.slice none 0 0,.string ⟨#[]⟩,.bool false,.bool false,.string ⟨#[]⟩,.string ⟨#[]⟩,.string ⟨#[]⟩,.int .i64 0,.int .i64 0,.string ⟨#[]⟩,.string ⟨#[]⟩,.slice none 0 0,.slice none 0 0] 42)):=Fr.alloc _ _ _
  have hB2:Blk (w1.alloc (.cells #[.int .i64 0,.int .i64 0,.string ⟨#[]⟩,.string ⟨#[]⟩,.int .i64 0,.int .i64 0,.int .i64 0,.int .i64 0,.int .i64 0,.bool false,.int .i64 0,.string ⟨#[]⟩,.string ⟨#[]⟩,.string ⟨#[]⟩,.string ⟨#[]⟩,.slice none 0 0,.slice none 0 0,.slice none 0 0,.slice none 0 0,.slice none 0 0,.string ⟨#[]⟩,.bool false,.bool false,.string ⟨#[]⟩,.string ⟨#[]⟩,.string ⟨#[]⟩,.int .i64 0,.int .i64 0,.string ⟨#[]⟩,.string ⟨#[]⟩,.slice none 0 0,.slice none 0 0] 42)) w1.heap.size zeroCells:=Blk.new w1 zeroCells 42
  obtain⟨w2,hw2⟩:∃w2,(w1.alloc (.cells #[.int .i64 0,.int .i64 0,.string ⟨#[]⟩,.string ⟨#[]⟩,.int .i64 0,.int .i64 0,.int .i64 0,.int .i64 0,.int .i64 0,.bool false,.int .i64 0,.string ⟨#[]⟩,.string ⟨#[]⟩,.string ⟨#[]⟩,.string ⟨#[]⟩,.slice none 0 0,.slice none 0 0,.slice none 0 0,.slice none 0 0,.slice none 0 0,.string ⟨#[]⟩,.bool false,.bool false,.string ⟨#[]⟩,.string ⟨#[]⟩,.string ⟨#[]⟩,.int .i64 0,.int .i64 0,.string ⟨#[]⟩,.string ⟨#[]⟩,.slice none 0 0,.slice none 0 0] 42))=w2:=⟨_,rfl⟩
  have hs2:w2.heap.size=w.heap.size+2:=by rw[←hw2];simp[hs1]
  rw[hw2] at hfb hB2
  have hfc3:Fr (fun _=>False) w2 (w2.alloc (.cells #[.bool false] 4)):=Fr.alloc _ _ _
  have hB3:Blk (w2.alloc (.cells #[.bool false] 4)) w2.heap.size [.bool false]:=Blk.new w2 [.bool false] 4
  obtain⟨w3,hw3⟩:∃w3,w2.alloc (.cells #[.bool false] 4)=w3:=⟨_,rfl⟩
  have hs3:w3.heap.size=w.heap.size+3:=by rw[←hw3];simp[hs2]
  rw[hw3] at hfc3 hB3
  rw[hs1] at hB2
  rw[hs2] at hB3
  have hB1c:=(hB1.fr hfb id).fr hfc3 id
  have hB2c:=hB2.fr hfc3 id
  have hf03:=(hfa.trans hfb).trans hfc3
  obtain⟨mb,hmb⟩:∃mb,w.heap.size+1=mb:=⟨_,rfl⟩
  obtain⟨bb,hbb⟩:∃bb,w.heap.size+2=bb:=⟨_,rfl⟩
  rw[hrb] at hB1c
  rw[hmb] at hB2c
  rw[hbb] at hB3
  have hH3:Has w3 w3.heap.size 1 A l.length (bys l):=(hH.below (hf03.below (Nat.le_refl _) (fun k q=>q.elim))).upto hf03.size
  have hfl:=fields_any (fun (x:MT) W=>MtIn mb (bb+1) x W) (fun k=>k=mb) (Rd.innerR 48 Rd.messageR) w3 bb 27 #[.pointer (some ⟨mb,0,none⟩)] A c l false (fun args w=>by go_simp)
   (decCl2 w3 bb mb (bb+1) zeroCells hB2c rfl (by omega) (by omega)) (fun x V V' q1 q2=>q1.fr q2 (by omega) (fun k hk e=>by omega)) (fun k hk=>by subst hk;omega) hH3 hc hm (by omega) (by omega) (hB3.cells 0 _ rfl) hB3.fz
  have hl16:¬((16384:Int)<(n:Int)):=by omega
  have Hfl:=hide hfl
  have HB1:=hide hB1c
  have Hw1:=hide hw1
  have Hw2:=hide hw2
  have Hw3:=hide hw3
  have HF:=hide hf03
  obtain⟨zc,hzc⟩:∃zc,zeroCells=zc:=⟨_,rfl⟩
  have Hzb:Hid (Tryz.prog.built 42 []=some zc.toArray):=hide (by rw[←hzc];kernel_rfl)
  have Hzn:Hid (zc.length=32):=hide (by rw[←hzc];rfl)
  have Hz1:Hid (∀u∈zc,u.oneCell'=true):=hide (by rw[←hzc];exact zero_one)
  rw[hzc] at HB1
  have Hzc:=hide hzc
  clear hzc
  have Hlong:=hide hlong
  have Hn:=hide (And.intro hrb (And.intro hmb (And.intro hbb (And.intro hs1 (And.intro hs2 hs3)))))
  rw[hn] at Hfl
  rw[hn]
  clear hfa hB1 hw1 hs1 hH hc hm hlong hrb hmb hbb hfb hB2 hw2 hs2 hfc3 hB3 hw3 hs3 hB1c hB2c hf03 hH3 hfl
  go_enter Tryz.func14,Tryz.ntmps14
  go_upto_region 5 with fail
  rw[Hw1.out,Hw2.out,Hw3.out]
  rw[Hn.out.2.2.1,Hn.out.2.1,Hn.out.1]
  clear Hw1 Hw2 Hw3
  go_wp2_with (go_at_call 26;fail)
  refine Hfl.out.mono ?_
  rintro e w4 hpost
  obtain⟨x,rfl,hst,hfc4,hfz4,hf4,hq4⟩:=hpost.out
  have HB4:=hide (HB1.out.fr hf4 (by rintro (q | q)<;>(have:=Hn.out;omega)))
  have HS4:=hide hst
  have HF4:=hide (HF.out.trans' hf4 (X:=fun _=>False) (fun k hk q=>by rcases q with q | q<;>(have:=Hn.out;omega)))
  have HQ:=hide hq4
  clear hpost Hfl hst hf4 hq4 HB1 HF
  cases hwh:Rd.wholeR l (Rd.innerR 48 Rd.messageR) with
  | none=>
   have hde:Rd.decode l=none:=by unfold Rd.decode;split<;>simp[hwh]
   have k4:w4.cell? ⟨bb,0,none⟩=some (.bool true):=by rw[hfc4,hwh];rfl
   have Hde:=hide hde
   clear hfc4 hwh hde HQ
   go_upto_region 7 with fail
   refine wp_region_lit ?_
   refine wpList_buildTo rfl 42 #[] rfl (some 14) rfl zc.toArray (by rw[Array.map_empty];exact Hzb.out) ?_
   refine storeM w4 rfl (.tmp 2) (.tmp 14) rfl rb zc zc rfl rfl HB4.out Hzn.out Hzn.out Hz1.out ?_
   intro wz hwz
   have HBz:Hid (Blk wz rb zc):=hide (by rw[hwz];exact HB4.out.sets 0 zc (by rw[Nat.zero_add];exact Nat.le_refl _) zc (by simp))
   have Hfz:Hid (Fr (fun k=>k=rb) w4 wz):=hide (by rw[hwz];exact Fr.setCells (X:=fun k=>k=rb) w4 rb 0 zc rfl)
   clear hwz HB4 k4 hfz4
   simp only[Act.put,List.setIfInBounds_toArray,List.set_cons_zero,List.set_cons_succ]
   go_wp2
   refine bodyPost_ret (v:=.tuple #[.agg zc.toArray,.int .i64 2]) ?_ rfl ?_
   ·exact results_msg2 rfl _ wz rb zc _ rfl rfl HBz.out.range Hzn.out
   ·refine ⟨⟨zeroM,_,by rw[if_neg Hlong.out,Hde.out];rfl,by rw[←Hzc.out];exact zero_rep _ _,by rw[Hde.out];rfl,?_⟩⟩
    exact (HF4.out.trans' Hfz.out (fun k hk q=>by have:=Hn.out;omega)).below (Nat.le_refl _) (fun k q=>q.elim)
  | some x0=>
   obtain rfl:=HQ.out rfl _ hwh
   have hde:Rd.decode l=some x:=by unfold Rd.decode;rw[if_pos (by have:=Hlong.out;omega)];exact hwh
   have k4:w4.cell? ⟨bb,0,none⟩=some (.bool false):=by rw[hfc4,hwh];rfl
   have Hde:=hide hde
   obtain⟨f0,f1,f2,f3,f4,f5,f6,va,vl,vc,vr,vk,hBm,hre⟩:=HS4.out.out
   have h1c:=hre.one
   have HRe:=hide hre
   have HBm:=hide hBm
   have H1c:=hide h1c
   obtain⟨cs,hcs⟩:∃cs,mcells x f0 f1 f2 f3 f4 f5 f6 va vl vc vr vk=cs:=⟨_,rfl⟩
   have hn32:cs.length=32:=by rw[←hcs];rfl
   rw[hcs] at HBm H1c
   have Hcs:=hide hcs
   clear hfc4 hwh hde HQ hcs hre hBm h1c HS4
   go_wp2_with (first | (refine loadM rfl (.tmp 4) rfl mb rfl cs HBm.out hn32 ?_) | (refine storeM w4 rfl (.tmp 2) (.tmp 15) rfl rb zc cs rfl rfl HB4.out Hzn.out hn32 H1c.out ?_))
   have HBz:=hide (HB4.out.sets 0 cs (by rw[hn32,Hzn.out];exact Nat.le_refl _) cs (by rw[List.drop_eq_nil_of_le (by rw[hn32,Hzn.out];exact Nat.le_refl _)];simp))
   have Hfz:=hide (Fr.setCells (X:=fun k=>k=rb) w4 rb 0 cs rfl)
   clear HB4 k4 hfz4 HBm H1c
   generalize World.setCells w4 rb 0 cs=wz at *
   refine bodyPost_ret (v:=.tuple #[.agg cs.toArray,.int .i64 0]) ?_ rfl ?_
   ·exact results_msg2 rfl _ wz rb cs _ rfl rfl HBz.out.range hn32
   ·refine ⟨⟨x,_,by rw[if_neg Hlong.out,Hde.out];rfl,⟨f0,f1,f2,f3,f4,f5,f6,va,vl,vc,vr,vk,by rw[Hcs.out],HRe.out.move (fun p hp=>Hfz.out.cell hp.2 (by have:=hp.1;have:=Hn.out;omega)) (fun k hk=>⟨by have:=Hn.out;omega,by have:=Hfz.out.size;omega⟩)⟩,by rw[Hde.out];rfl,?_⟩⟩
    exact (HF4.out.trans' Hfz.out (fun k hk q=>by have:=Hn.out;omega)).below (Nat.le_refl _) (fun k q=>q.elim)
end Go.Proofs.YtpkedjohgmnhhaaGreat
