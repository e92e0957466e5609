/- Several texts in one: LDecode, LSameN, JSame. By an AI agent. -/
import Derived.Test.YtcpjmgfloimfhaaGreatM13
import Derived.Great.BuildSlice
import Derived.Laws.StructEq
import Derived.Test.YtcpjmgfloimfhaaGreatM08
import Derived.Test.YtcpjmgfloimfhaaGreatM04
import Derived.Test.YtcpjmgfloimfhaaGreatShelf
set_option linter.unusedSimpArgs false
set_option linter.unusedVariables false
set_option maxRecDepth 100000
set_option maxHeartbeats 64000000
namespace Go.Proofs.YtcpjmgfloimfhaaGreat
open Go.RowKit
theorem decCl (w:World) (b mb lo3:Nat) (us:List Value) (hB:Blk w mb us) (hus:us.length=32) (hb:mb≠b) (h3:mb<lo3/\lo3<=w.heap.size/\b<lo3):
  ClosedBy (fun (x:MT) W=>MtIn mb lo3 x W) (fun k=>k=mb) Rd.messageR w b 29 #[.pointer (some ⟨mb,0,none⟩)]:=by
 intro W lo g F φ hfr hwl hr
 have hml:=hB.lt
 have HB0:=hide (hB.fr hfr (fun e=>hb e))
 have Hn:=hide (And.intro hml (And.intro hwl (And.intro hr.log (And.intro hr.lt (And.intro hr.blo (And.intro hb (And.intro h3 hfr.size)))))))
 have hme:=message_any W lo g b F φ hr
 have Hme:=hide hme
 try simp only[List.append_toArray,List.cons_append,List.nil_append]
 clear hfr hwl hr hB hb hml hme h3
 go_enter Tryz.func29,Tryz.ntmps29
 go_wp2_with (go_at_call 30;fail)
 refine Hme.out.mono ?_
 rintro e w1 hpost
 obtain⟨x,v,F1,rfl,hrep,hr1,hf1,hq1⟩:=hpost.out
 obtain⟨f0,f1,f2,f3,f4,f5,f6,va,vl,vc,vr,vk,rfl,hre⟩:=hrep
 have h1c:=hre.one
 have HRe:=hide hre
 have H1c:=hide h1c
 have HB1:=hide (HB0.out.fr hf1 (by rintro (q | q)<;>(have:=Hn.out;omega)))
 have hsz:=hf1.size
 have HR1:=hide hr1
 have HF1:=hide hf1
 have HQ1:=hide hq1
 have Hsz:=hide hsz
 obtain⟨cs,hcs⟩:∃cs,mcells x f0 f1 f2 f3 f4 f5 f6 va vl vc vr vk=cs:=⟨_,rfl⟩
 have hn32:cs.length=32:=by rw[<-hcs];rfl
 rw[hcs] at H1c
 have Hcs:=hide hcs
 rw[hcs]
 clear hpost hre h1c hr1 hf1 hq1 hsz hcs Hme HB0
 go_wp2_with (refine storeM w1 rfl (.tmp 1) (.tmp 4) rfl mb us cs rfl rfl HB1.out hus hn32 H1c.out ?_)
 have HBz:=hide (HB1.out.sets 0 cs (by rw[hn32,hus];exact Nat.le_refl _) cs (by rw[List.drop_eq_nil_of_le (by rw[hn32,hus];exact Nat.le_refl _)];simp))
 have Hfz:=hide (Fr.setCells (X:=fun k=>k=mb) w1 mb 0 cs rfl)
 clear HB1 H1c
 generalize World.setCells w1 mb 0 cs=wz at *
 go_returns
 refine⟨⟨x,F1,rfl,⟨f0,f1,f2,f3,f4,f5,f6,va,vl,vc,vr,vk,by rw[Hcs.out];exact HBz.out,HRe.out.move (fun p hp=>Hfz.out.cell hp.2 (by have:=hp.1;have:=Hn.out;omega)) (fun k hk=>⟨by have:=Hn.out;omega,by have:=Hfz.out.size;omega⟩)⟩,HR1.out.fr Hfz.out (by have:=Hn.out;omega) (by have:=Hn.out;omega) (fun k h1 h2=>by have:=Hn.out;omega),(HF1.out.mono (Y:=own3 (fun k=>k=mb) g b) fun k _ q=>by rcases q with q | q;exact .inl q;exact .inr (.inl q)).trans (Hfz.out.mono (Y:=own3 (fun k=>k=mb) g b) fun _ _ q=>.inr (.inr q)),HQ1.out⟩⟩
theorem decCl2 (w:World) (b mb lo3:Nat) (us:List Value) (hB:Blk w mb us) (hus:us.length=32) (hb:mb≠b) (h3:mb<lo3/\lo3<=w.heap.size/\b<lo3):
  ClosedBy (fun (x:MT) W=>MtIn mb lo3 x W) (fun k=>k=mb) (Rd.innerR 48 Rd.messageR) w b 27 #[.pointer (some ⟨mb,0,none⟩)]:=by
 intro W lo g F φ hfr hwl hr
 have hml:=hB.lt
 have hlog:=hr.log
 have hin:=zBk (fun (x:MT) W=>MtIn mb lo3 x W) (fun k=>k=mb) Rd.messageR W lo g b F φ 48 29 #[.pointer (some ⟨mb,0,none⟩)] (fun args w=>by go_simp) hr
  (fun V hV=>decCl V b mb lo3 us ((hB.fr hfr (fun e=>hb e)).fr hV (by rintro (q | q)<;>omega)) hus hb (by have:=hfr.size;have:=hV.size;omega)) (fun x V V' q1 q2=>q1.fr q2 (fun e=>hb e) (fun k hk e=>by have:=h3;omega)) (fun k hk=>by subst hk;have:=hr.blo;exact⟨by have:=hfr.size;omega,hb,by omega⟩)
 rw[show c8 48=.int .u8 48 from rfl] at hin
 have Hin:=hide hin
 try simp only[List.append_toArray,List.cons_append,List.nil_append]
 clear hfr hwl hr hB hb hml hin hlog h3
 go_enter Tryz.func27,Tryz.ntmps27
 go_wp2_with (go_at_call 28;fail)
 refine Hin.out.mono ?_
 rintro e w1 hpost
 obtain⟨x,F1,rfl,hst,hr1,hf1,hq1⟩:=hpost.out
 have HS:=hide hst
 have HR1:=hide hr1
 have HF1:=hide hf1
 have HQ1:=hide hq1
 clear hpost Hin hst hr1 hf1 hq1
 go_wp2
 go_returns
 exact⟨⟨x,F1,rfl,HS.out,HR1.out,HF1.out,HQ1.out⟩⟩
theorem results_msg2 {fn:Func} {p q:Tmp} (h:fn.results=#[.cell p 42,.tmp q]) (tmps:Array Value) (w:World) (b:Nat) (cs:List Value) (v:Value)
  (hp:tmps.getD p undef=.pointer (some ⟨b,0,none⟩)) (hq:tmps.getD q undef=v) (hc:w.rangeAt b 0 cs) (hn:cs.length=32):(results fn tmps).run Tryz.prog w=.ok (.tuple #[.agg cs.toArray,v]) w:=by
 have hp':tmps[p]?.getD undef=.pointer (some ⟨b,0,none⟩):=by simpa using hp
 have hq':tmps[q]?.getD undef=v:=by simpa using hq
 have hl:=run_loadVar_mid w b 0 42 cs _ hc Tryz.underlying42 rfl (by rw[hn];kernel_rfl)
 simp[results,h,hp',hq',asAddr,hl]
structure DecPost (l:List UInt8) (w:World) (e:Ending) (w':World):Prop where
 out:∃m v,e=.returned (.tuple #[v,.int .i64 (if 16384<l.length then 4 else if (Rd.decode l).isSome then 0 else 2)])/\repM w' (fun k=>w.heap.size<=k/\k<w'.heap.size) m v/\m=(Rd.decode l).getD zeroM/\Below w.heap.size w w'
theorem zero_rep (w:World) (P:Nat->Prop):repM w P zeroM (.agg zeroCells.toArray):=
 ⟨_,_,_,_,_,_,_,_,_,_,_,_,rfl,⟨⟨none,0,none,0,[],rfl,⟨by unfold maxLen;simp,by unfold maxLen;simp⟩,HasP.none _,HasP.none _,rfl⟩,zBg,zBg,zBg,zBg,zBg⟩⟩
theorem zero_one:∀u∈zeroCells,u.oneCell'=true:=by
 unfold zeroCells
 simp[Value.oneCell']
theorem decode_any (w:World) (A:Option Addr) (c:Nat) (l:List UInt8) (hH:Has w w.heap.size 1 A l.length (bys l)) (hc:l.length<=c) (hm:c<=maxLen):
  Calls Tryz.prog 14 #[.slice A l.length c] w (DecPost l w):=by
 have hfa:Fr (fun _=>False) w (w.alloc (.cells #[.int .i64 0,.int .i64 0,.string ⟨#[]⟩,.string ⟨#[]⟩,.int .i64 0,.int .i64 0,.int .i64 0,.int .i64 0,.int .i64 0,.bool false,.int .i64 0,.string ⟨#[]⟩,.string ⟨#[]⟩,.string ⟨#[]⟩,.string ⟨#[]⟩,.slice none 0 0,.slice none 0 0,.slice none 0 0,.slice none 0 0,.slice none 0 0,.string ⟨#[]⟩,.bool false,.bool false,.string ⟨#[]⟩,.string ⟨#[]⟩,.string ⟨#[]⟩,.int .i64 0,.int .i64 0,.string ⟨#[]⟩,.string ⟨#[]⟩,.slice none 0 0,.slice none 0 0] 42)):=Fr.alloc _ _ _
 have hB1:Blk (w.alloc (.cells #[.int .i64 0,.int .i64 0,.string ⟨#[]⟩,.string ⟨#[]⟩,.int .i64 0,.int .i64 0,.int .i64 0,.int .i64 0,.int .i64 0,.bool false,.int .i64 0,.string ⟨#[]⟩,.string ⟨#[]⟩,.string ⟨#[]⟩,.string ⟨#[]⟩,.slice none 0 0,.slice none 0 0,.slice none 0 0,.slice none 0 0,.slice none 0 0,.string ⟨#[]⟩,.bool false,.bool false,.string ⟨#[]⟩,.string ⟨#[]⟩,.string ⟨#[]⟩,.int .i64 0,.int .i64 0,.string ⟨#[]⟩,.string ⟨#[]⟩,.slice none 0 0,.slice none 0 0] 42)) w.heap.size zeroCells:=Blk.new w zeroCells 42
 obtain⟨w1,hw1⟩:∃w1,(w.alloc (.cells #[.int .i64 0,.int .i64 0,.string ⟨#[]⟩,.string ⟨#[]⟩,.int .i64 0,.int .i64 0,.int .i64 0,.int .i64 0,.int .i64 0,.bool false,.int .i64 0,.string ⟨#[]⟩,.string ⟨#[]⟩,.string ⟨#[]⟩,.string ⟨#[]⟩,.slice none 0 0,.slice none 0 0,.slice none 0 0,.slice none 0 0,.slice none 0 0,.string ⟨#[]⟩,.bool false,.bool false,.string ⟨#[]⟩,.string ⟨#[]⟩,.string ⟨#[]⟩,.int .i64 0,.int .i64 0,.string ⟨#[]⟩,.string ⟨#[]⟩,.slice none 0 0,.slice none 0 0] 42))=w1:=⟨_,rfl⟩
 have hs1:w1.heap.size=w.heap.size+1:=by rw[<-hw1];simp
 rw[hw1] at hfa hB1
 obtain⟨rb,hrb⟩:∃rb,w.heap.size=rb:=⟨_,rfl⟩
 obtain⟨n,hn⟩:∃n,l.length=n:=⟨_,rfl⟩
 have hnm:n<=9223372036854775807:=by unfold maxLen at hm;omega
 by_cases hlong:16384<l.length
 ·have hde:Rd.decode l=none:=by unfold Rd.decode;rw[if_neg (by omega)]
  have hl16:((16384:Int)<(n:Int)):=by omega
  have HB1:=hide hB1
  have Hw1:=hide hw1
  have Hfa:=hide hfa
  have Hde:=hide hde
  have Hlong:=hide hlong
  have Hrb:=hide hrb
  rw[hn]
  rw[hrb] at HB1
  obtain⟨zc,hzc⟩:∃zc,zeroCells=zc:=⟨_,rfl⟩
  have Hzb:Hid (Tryz.prog.built 42 []=some zc.toArray):=hide (by rw[<-hzc];kernel_rfl)
  have Hzn:Hid (zc.length=32):=hide (by rw[<-hzc];rfl)
  have Hz1:Hid (∀u∈zc,u.oneCell'=true):=hide (by rw[<-hzc];exact zero_one)
  rw[hzc] at HB1
  have Hzc:=hide hzc
  clear hzc
  clear hfa hB1 hw1 hs1 hH hc hm hde hlong hn hrb
  go_enter Tryz.func14,Tryz.ntmps14
  go_upto_region 1 with fail
  rw[Hw1.out]
  rw[Hrb.out]
  go_upto_region 2 with fail
  refine wp_region_lit ?_
  refine wpList_buildTo rfl 42 #[] rfl (some 9) rfl zc.toArray (by rw[Array.map_empty];exact Hzb.out) ?_
  refine storeM w1 rfl (.tmp 2) (.tmp 9) rfl rb zc zc rfl rfl HB1.out Hzn.out Hzn.out Hz1.out ?_
  intro wz hwz
  have HBz:Hid (Blk wz rb zc):=hide (by rw[hwz];exact HB1.out.sets 0 zc (by rw[Nat.zero_add];exact Nat.le_refl _) zc (by simp))
  have Hfz:Hid (Fr (fun k=>k=rb) w1 wz):=hide (by rw[hwz];exact Fr.setCells (X:=fun k=>k=rb) w1 rb 0 zc rfl)
  clear hwz HB1
  simp only[pU]
  go_wp2
  refine bodyPost_ret (v:=.tuple #[.agg zc.toArray,.int .i64 4]) ?_ rfl ?_
  ·exact results_msg2 rfl _ wz rb zc _ rfl rfl HBz.out.range Hzn.out
  ·refine ⟨⟨zeroM,_,by rw[if_pos Hlong.out],by rw[<-Hzc.out];exact zero_rep _ _,by rw[Hde.out];rfl,?_⟩⟩
   exact (Hfa.out.trans' Hfz.out (fun k hk q=>by have:=Hrb.out;omega)).below (Nat.le_refl _) (fun k q=>q.elim)
 ·have hfb:Fr (fun _=>False) w1 (w1.alloc (.cells #[.int .i64 0,.int .i64 0,.string ⟨#[]⟩,.string ⟨#[]⟩,.int .i64 0,.int .i64 0,.int .i64 0,.int .i64 0,.int .i64 0,.bool false,.int .i64 0,.string ⟨#[]⟩,.string ⟨#[]⟩,.string ⟨#[]⟩,.string ⟨#[]⟩,.slice none 0 0,.slice none 0 0,.slice none 0 0,.slice none 0 0,.slice none 0 0,.string ⟨#[]⟩,.bool false,.bool false,.string ⟨#[]⟩,.string ⟨#[]⟩,.string ⟨#[]⟩,.int .i64 0,.int .i64 0,.string ⟨#[]⟩,.string ⟨#[]⟩,.slice none 0 0,.slice none 0 0] 42)):=Fr.alloc _ _ _
  have hB2:Blk (w1.alloc (.cells #[.int .i64 0,.int .i64 0,.string ⟨#[]⟩,.string ⟨#[]⟩,.int .i64 0,.int .i64 0,.int .i64 0,.int .i64 0,.int .i64 0,.bool false,.int .i64 0,.string ⟨#[]⟩,.string ⟨#[]⟩,.string ⟨#[]⟩,.string ⟨#[]⟩,.slice none 0 0,.slice none 0 0,.slice none 0 0,.slice none 0 0,.slice none 0 0,.string ⟨#[]⟩,.bool false,.bool false,.string ⟨#[]⟩,.string ⟨#[]⟩,.string ⟨#[]⟩,.int .i64 0,.int .i64 0,.string ⟨#[]⟩,.string ⟨#[]⟩,.slice none 0 0,.slice none 0 0] 42)) w1.heap.size zeroCells:=Blk.new w1 zeroCells 42
  obtain⟨w2,hw2⟩:∃w2,(w1.alloc (.cells #[.int .i64 0,.int .i64 0,.string ⟨#[]⟩,.string ⟨#[]⟩,.int .i64 0,.int .i64 0,.int .i64 0,.int .i64 0,.int .i64 0,.bool false,.int .i64 0,.string ⟨#[]⟩,.string ⟨#[]⟩,.string ⟨#[]⟩,.string ⟨#[]⟩,.slice none 0 0,.slice none 0 0,.slice none 0 0,.slice none 0 0,.slice none 0 0,.string ⟨#[]⟩,.bool false,.bool false,.string ⟨#[]⟩,.string ⟨#[]⟩,.string ⟨#[]⟩,.int .i64 0,.int .i64 0,.string ⟨#[]⟩,.string ⟨#[]⟩,.slice none 0 0,.slice none 0 0] 42))=w2:=⟨_,rfl⟩
  have hs2:w2.heap.size=w.heap.size+2:=by rw[<-hw2];simp[hs1]
  rw[hw2] at hfb hB2
  have hfc3:Fr (fun _=>False) w2 (w2.alloc (.cells #[.bool false] 4)):=Fr.alloc _ _ _
  have hB3:Blk (w2.alloc (.cells #[.bool false] 4)) w2.heap.size [.bool false]:=Blk.new w2 [.bool false] 4
  obtain⟨w3,hw3⟩:∃w3,w2.alloc (.cells #[.bool false] 4)=w3:=⟨_,rfl⟩
  have hs3:w3.heap.size=w.heap.size+3:=by rw[<-hw3];simp[hs2]
  rw[hw3] at hfc3 hB3
  rw[hs1] at hB2
  rw[hs2] at hB3
  have hB1c:=(hB1.fr hfb id).fr hfc3 id
  have hB2c:=hB2.fr hfc3 id
  have hf03:=(hfa.trans hfb).trans hfc3
  obtain⟨mb,hmb⟩:∃mb,w.heap.size+1=mb:=⟨_,rfl⟩
  obtain⟨bb,hbb⟩:∃bb,w.heap.size+2=bb:=⟨_,rfl⟩
  rw[hrb] at hB1c
  rw[hmb] at hB2c
  rw[hbb] at hB3
  have hH3:Has w3 w3.heap.size 1 A l.length (bys l):=(hH.below (hf03.below (Nat.le_refl _) (fun k q=>q.elim))).upto hf03.size
  have hfl:=fields_any (fun (x:MT) W=>MtIn mb (bb+1) x W) (fun k=>k=mb) (Rd.innerR 48 Rd.messageR) w3 bb 27 #[.pointer (some ⟨mb,0,none⟩)] A c l false (fun args w=>by go_simp)
   (decCl2 w3 bb mb (bb+1) zeroCells hB2c rfl (by omega) (by omega)) (fun x V V' q1 q2=>q1.fr q2 (by omega) (fun k hk e=>by omega)) (fun k hk=>by subst hk;omega) hH3 hc hm (by omega) (by omega) (hB3.cells 0 _ rfl) hB3.fz
  have hl16:¬((16384:Int)<(n:Int)):=by omega
  have Hfl:=hide hfl
  have HB1:=hide hB1c
  have Hw1:=hide hw1
  have Hw2:=hide hw2
  have Hw3:=hide hw3
  have HF:=hide hf03
  obtain⟨zc,hzc⟩:∃zc,zeroCells=zc:=⟨_,rfl⟩
  have Hzb:Hid (Tryz.prog.built 42 []=some zc.toArray):=hide (by rw[<-hzc];kernel_rfl)
  have Hzn:Hid (zc.length=32):=hide (by rw[<-hzc];rfl)
  have Hz1:Hid (∀u∈zc,u.oneCell'=true):=hide (by rw[<-hzc];exact zero_one)
  rw[hzc] at HB1
  have Hzc:=hide hzc
  clear hzc
  have Hlong:=hide hlong
  have Hn:=hide (And.intro hrb (And.intro hmb (And.intro hbb (And.intro hs1 (And.intro hs2 hs3)))))
  rw[hn] at Hfl
  rw[hn]
  clear hfa hB1 hw1 hs1 hH hc hm hlong hrb hmb hbb hfb hB2 hw2 hs2 hfc3 hB3 hw3 hs3 hB1c hB2c hf03 hH3 hfl
  go_enter Tryz.func14,Tryz.ntmps14
  go_upto_region 5 with fail
  rw[Hw1.out,Hw2.out,Hw3.out]
  rw[Hn.out.2.2.1,Hn.out.2.1,Hn.out.1]
  clear Hw1 Hw2 Hw3
  go_wp2_with (go_at_call 26;fail)
  refine Hfl.out.mono ?_
  rintro e w4 hpost
  obtain⟨x,rfl,hst,hfc4,hfz4,hf4,hq4⟩:=hpost.out
  have HB4:=hide (HB1.out.fr hf4 (by rintro (q | q)<;>(have:=Hn.out;omega)))
  have HS4:=hide hst
  have HF4:=hide (HF.out.trans' hf4 (X:=fun _=>False) (fun k hk q=>by rcases q with q | q<;>(have:=Hn.out;omega)))
  have HQ:=hide hq4
  clear hpost Hfl hst hf4 hq4 HB1 HF
  cases hwh:Rd.wholeR l (Rd.innerR 48 Rd.messageR) with
  | none=>
   have hde:Rd.decode l=none:=by unfold Rd.decode;split<;>simp[hwh]
   have k4:w4.cell? ⟨bb,0,none⟩=some (.bool true):=by rw[hfc4,hwh];rfl
   have Hde:=hide hde
   clear hfc4 hwh hde HQ
   go_upto_region 7 with fail
   refine wp_region_lit ?_
   refine wpList_buildTo rfl 42 #[] rfl (some 14) rfl zc.toArray (by rw[Array.map_empty];exact Hzb.out) ?_
   refine storeM w4 rfl (.tmp 2) (.tmp 14) rfl rb zc zc rfl rfl HB4.out Hzn.out Hzn.out Hz1.out ?_
   intro wz hwz
   have HBz:Hid (Blk wz rb zc):=hide (by rw[hwz];exact HB4.out.sets 0 zc (by rw[Nat.zero_add];exact Nat.le_refl _) zc (by simp))
   have Hfz:Hid (Fr (fun k=>k=rb) w4 wz):=hide (by rw[hwz];exact Fr.setCells (X:=fun k=>k=rb) w4 rb 0 zc rfl)
   clear hwz HB4 k4 hfz4
   simp only[pU]
   go_wp2
   refine bodyPost_ret (v:=.tuple #[.agg zc.toArray,.int .i64 2]) ?_ rfl ?_
   ·exact results_msg2 rfl _ wz rb zc _ rfl rfl HBz.out.range Hzn.out
   ·refine ⟨⟨zeroM,_,by rw[if_neg Hlong.out,Hde.out];rfl,by rw[<-Hzc.out];exact zero_rep _ _,by rw[Hde.out];rfl,?_⟩⟩
    exact (HF4.out.trans' Hfz.out (fun k hk q=>by have:=Hn.out;omega)).below (Nat.le_refl _) (fun k q=>q.elim)
  | some x0=>
   obtain rfl:=HQ.out rfl _ hwh
   have hde:Rd.decode l=some x:=by unfold Rd.decode;rw[if_pos (by have:=Hlong.out;omega)];exact hwh
   have k4:w4.cell? ⟨bb,0,none⟩=some (.bool false):=by rw[hfc4,hwh];rfl
   have Hde:=hide hde
   obtain⟨f0,f1,f2,f3,f4,f5,f6,va,vl,vc,vr,vk,hBm,hre⟩:=HS4.out.out
   have h1c:=hre.one
   have HRe:=hide hre
   have HBm:=hide hBm
   have H1c:=hide h1c
   obtain⟨cs,hcs⟩:∃cs,mcells x f0 f1 f2 f3 f4 f5 f6 va vl vc vr vk=cs:=⟨_,rfl⟩
   have hn32:cs.length=32:=by rw[<-hcs];rfl
   rw[hcs] at HBm H1c
   have Hcs:=hide hcs
   clear hfc4 hwh hde HQ hcs hre hBm h1c HS4
   go_wp2_with (first | (refine loadM rfl (.tmp 4) rfl mb rfl cs HBm.out hn32 ?_) | (refine storeM w4 rfl (.tmp 2) (.tmp 15) rfl rb zc cs rfl rfl HB4.out Hzn.out hn32 H1c.out ?_))
   have HBz:=hide (HB4.out.sets 0 cs (by rw[hn32,Hzn.out];exact Nat.le_refl _) cs (by rw[List.drop_eq_nil_of_le (by rw[hn32,Hzn.out];exact Nat.le_refl _)];simp))
   have Hfz:=hide (Fr.setCells (X:=fun k=>k=rb) w4 rb 0 cs rfl)
   clear HB4 k4 hfz4 HBm H1c
   generalize World.setCells w4 rb 0 cs=wz at *
   refine bodyPost_ret (v:=.tuple #[.agg cs.toArray,.int .i64 0]) ?_ rfl ?_
   ·exact results_msg2 rfl _ wz rb cs _ rfl rfl HBz.out.range hn32
   ·refine ⟨⟨x,_,by rw[if_neg Hlong.out,Hde.out];rfl,⟨f0,f1,f2,f3,f4,f5,f6,va,vl,vc,vr,vk,by rw[Hcs.out],HRe.out.move (fun p hp=>Hfz.out.cell hp.2 (by have:=hp.1;have:=Hn.out;omega)) (fun k hk=>⟨by have:=Hn.out;omega,by have:=Hfz.out.size;omega⟩)⟩,by rw[Hde.out];rfl,?_⟩⟩
    exact (HF4.out.trans' Hfz.out (fun k hk q=>by have:=Hn.out;omega)).below (Nat.le_refl _) (fun k q=>q.elim)
theorem txt_inj {a b:List UInt8} (h:txt a=txt b):a=b:=by
 rw[<-zBa a,<-zBa b,h]
theorem numbers_any (w:World) (m:MT) (f0 f1 f2 f3 f4 f5 f6 va vl vc vr vk:Value):
  Calls Tryz.prog 47 #[.agg (mcells m f0 f1 f2 f3 f4 f5 f6 va vl vc vr vk).toArray] w fun e w'=>e=.returned (.agg #[.int .i64 m.id,.int .i64 m.kind,.int .i64 m.ver,.int .i64 m.scope,.int .i64 m.deref,.int .i64 m.size,.int .i64 m.time,.int .i64 m.target,.int .i64 m.code])/\Below w.heap.size w w':=by
 obtain⟨cs,hcs⟩:∃cs,(mcells m f0 f1 f2 f3 f4 f5 f6 va vl vc vr vk)=cs:=⟨_,rfl⟩
 have hB1:Blk (w.alloc (.cells cs.toArray 42)) w.heap.size cs:=Blk.new w cs 42
 have hfa:Fr (fun _=>False) w (w.alloc (.cells cs.toArray 42)):=Fr.alloc _ _ _
 obtain⟨w1,hw1⟩:∃w1,w.alloc (.cells cs.toArray 42)=w1:=⟨_,rfl⟩
 rw[hw1] at hB1 hfa
 have hs1:w1.heap.size=w.heap.size+1:=by rw[<-hw1];simp
 have hB2:Blk (w1.alloc (.cells #[.int .i64 0,.int .i64 0,.int .i64 0,.int .i64 0,.int .i64 0,.int .i64 0,.int .i64 0,.int .i64 0,.int .i64 0] 95)) w1.heap.size [.int .i64 0,.int .i64 0,.int .i64 0,.int .i64 0,.int .i64 0,.int .i64 0,.int .i64 0,.int .i64 0,.int .i64 0]:=Blk.new w1 [.int .i64 0,.int .i64 0,.int .i64 0,.int .i64 0,.int .i64 0,.int .i64 0,.int .i64 0,.int .i64 0,.int .i64 0] 95
 have hfb:Fr (fun _=>False) w1 (w1.alloc (.cells #[.int .i64 0,.int .i64 0,.int .i64 0,.int .i64 0,.int .i64 0,.int .i64 0,.int .i64 0,.int .i64 0,.int .i64 0] 95)):=Fr.alloc _ _ _
 obtain⟨w2,hw2⟩:∃w2,w1.alloc (.cells #[.int .i64 0,.int .i64 0,.int .i64 0,.int .i64 0,.int .i64 0,.int .i64 0,.int .i64 0,.int .i64 0,.int .i64 0] 95)=w2:=⟨_,rfl⟩
 rw[hw2] at hB2 hfb
 obtain⟨b1,hb1⟩:∃b1,w.heap.size=b1:=⟨_,rfl⟩
 obtain⟨b2,hb2⟩:∃b2,w.heap.size+1=b2:=⟨_,rfl⟩
 have hB1b:=hB1.fr hfb id
 rw[hb1] at hB1b
 rw[hs1,hb2] at hB2
 have k0:w2.cell? ⟨b1,0,none⟩=some (.int .i64 m.id):=hB1b.cells 0 _ (by rw[<-hcs];rfl)
 have k1:w2.cell? ⟨b1,1,none⟩=some (.int .i64 m.kind):=hB1b.cells 1 _ (by rw[<-hcs];rfl)
 have k4:w2.cell? ⟨b1,4,none⟩=some (.int .i64 m.ver):=hB1b.cells 4 _ (by rw[<-hcs];rfl)
 have k5:w2.cell? ⟨b1,5,none⟩=some (.int .i64 m.scope):=hB1b.cells 5 _ (by rw[<-hcs];rfl)
 have k6:w2.cell? ⟨b1,6,none⟩=some (.int .i64 m.deref):=hB1b.cells 6 _ (by rw[<-hcs];rfl)
 have k7:w2.cell? ⟨b1,7,none⟩=some (.int .i64 m.size):=hB1b.cells 7 _ (by rw[<-hcs];rfl)
 have k8:w2.cell? ⟨b1,8,none⟩=some (.int .i64 m.time):=hB1b.cells 8 _ (by rw[<-hcs];rfl)
 have k26:w2.cell? ⟨b1,26,none⟩=some (.int .i64 m.target):=hB1b.cells 26 _ (by rw[<-hcs];rfl)
 have k27:w2.cell? ⟨b1,27,none⟩=some (.int .i64 m.code):=hB1b.cells 27 _ (by rw[<-hcs];rfl)
 have q0:=hB2.cells 0 _ rfl
 have q1:=hB2.cells 1 _ rfl
 have q2:=hB2.cells 2 _ rfl
 have q3:=hB2.cells 3 _ rfl
 have q4:=hB2.cells 4 _ rfl
 have q5:=hB2.cells 5 _ rfl
 have q6:=hB2.cells 6 _ rfl
 have q7:=hB2.cells 7 _ rfl
 have q8:=hB2.cells 8 _ rfl
 have qz:=hB2.fz
 have Hw1:=hide hw1
 have Hw2:=hide hw2
 have Hb1:=hide hb1
 have Hb2:=hide hb2
 have Hf:=hide (hfa.trans hfb)
 have Hsz:=hide hs1
 have HB2:=hide hB2
 rw[hcs]
 clear hB1 hfa hB2 hfb hB1b hw1 hw2 hb1 hb2 hcs hs1
 go_enter Tryz.func47,Tryz.ntmps47
 go_upto_region 1 with fail
 rw[Hw1.out,Hw2.out]
 try rw[Hb2.out]
 try rw[Hb1.out]
 go_wp2
 change bodyPost _ _ _ _ _ (w2.setCells b2 0 [.int .i64 m.id,.int .i64 m.kind,.int .i64 m.ver,.int .i64 m.scope,.int .i64 m.deref,.int .i64 m.size,.int .i64 m.time,.int .i64 m.target,.int .i64 m.code])
 have HBz:=hide (HB2.out.sets 0 [.int .i64 m.id,.int .i64 m.kind,.int .i64 m.ver,.int .i64 m.scope,.int .i64 m.deref,.int .i64 m.size,.int .i64 m.time,.int .i64 m.target,.int .i64 m.code] (Nat.le_refl _) [.int .i64 m.id,.int .i64 m.kind,.int .i64 m.ver,.int .i64 m.scope,.int .i64 m.deref,.int .i64 m.size,.int .i64 m.time,.int .i64 m.target,.int .i64 m.code] rfl)
 have Hfz:=hide (Fr.setCells (X:=fun k=>k=b2) w2 b2 0 [.int .i64 m.id,.int .i64 m.kind,.int .i64 m.ver,.int .i64 m.scope,.int .i64 m.deref,.int .i64 m.size,.int .i64 m.time,.int .i64 m.target,.int .i64 m.code] rfl)
 clear k0 k1 k4 k5 k6 k7 k8 k26 k27 q0 q1 q2 q3 q4 q5 q6 q7 q8 qz HB2
 generalize w2.setCells b2 0 [.int .i64 m.id,.int .i64 m.kind,.int .i64 m.ver,.int .i64 m.scope,.int .i64 m.deref,.int .i64 m.size,.int .i64 m.time,.int .i64 m.target,.int .i64 m.code]=wz at *
 refine bodyPost_ret (v:=.agg #[.int .i64 m.id,.int .i64 m.kind,.int .i64 m.ver,.int .i64 m.scope,.int .i64 m.deref,.int .i64 m.size,.int .i64 m.time,.int .i64 m.target,.int .i64 m.code]) ?_ rfl ⟨rfl,?_⟩
 ·exact zAy rfl _ wz b2 [.int .i64 m.id,.int .i64 m.kind,.int .i64 m.ver,.int .i64 m.scope,.int .i64 m.deref,.int .i64 m.size,.int .i64 m.time,.int .i64 m.target,.int .i64 m.code] _ rfl HBz.out.range Tryz.underlying95 rfl (by kernel_rfl)
 ·exact (Hf.out.trans' Hfz.out (fun k hk q=>by have:=Hb2.out;have:=Hsz.out;omega)).below (Nat.le_refl _) (fun k q=>q.elim)
theorem numbers_eq (a0 a1 a2 a3 a4 a5 a6 a7 a8 b0 b1 b2 b3 b4 b5 b6 b7 b8:Int) (b:Bool) (hb:b=true↔a0=b0/\a1=b1/\a2=b2/\a3=b3/\a4=b4/\a5=b5/\a6=b6/\a7=b7/\a8=b8) (w:World):
  (Op.equalIn 10000 95 (.agg #[.int .i64 a0,.int .i64 a1,.int .i64 a2,.int .i64 a3,.int .i64 a4,.int .i64 a5,.int .i64 a6,.int .i64 a7,.int .i64 a8]) (.agg #[.int .i64 b0,.int .i64 b1,.int .i64 b2,.int .i64 b3,.int .i64 b4,.int .i64 b5,.int .i64 b6,.int .i64 b7,.int .i64 b8])).run Tryz.prog w=.ok b w:=by
 rw[show (10000:Nat)=9999+1 from rfl,Op.equalIn]
 simp only[Sem.run_bind,run_underlying Tryz.underlying95,Result.andThen_ok]
 simp only[Std.Legacy.Range.forIn_eq_forIn_range',Std.Legacy.Range.size,Nat.sub_zero,Nat.add_sub_cancel,Nat.div_one,List.range'_succ,List.range'_zero,List.forIn_cons,List.forIn_nil]
 go_simp
 by_cases h0:a0=b0
 rotate_left
 ·have e:b=false:=by
   cases b with
   | false=>rfl
   | true=>exact absurd (hb.1 rfl).1 h0
  subst e
  simp[*]
 subst h0
 by_cases h1:a1=b1
 rotate_left
 ·have e:b=false:=by
   cases b with
   | false=>rfl
   | true=>exact absurd (hb.1 rfl).2.1 h1
  subst e
  simp[*]
 subst h1
 by_cases h2:a2=b2
 rotate_left
 ·have e:b=false:=by
   cases b with
   | false=>rfl
   | true=>exact absurd (hb.1 rfl).2.2.1 h2
  subst e
  simp[*]
 subst h2
 by_cases h3:a3=b3
 rotate_left
 ·have e:b=false:=by
   cases b with
   | false=>rfl
   | true=>exact absurd (hb.1 rfl).2.2.2.1 h3
  subst e
  simp[*]
 subst h3
 by_cases h4:a4=b4
 rotate_left
 ·have e:b=false:=by
   cases b with
   | false=>rfl
   | true=>exact absurd (hb.1 rfl).2.2.2.2.1 h4
  subst e
  simp[*]
 subst h4
 by_cases h5:a5=b5
 rotate_left
 ·have e:b=false:=by
   cases b with
   | false=>rfl
   | true=>exact absurd (hb.1 rfl).2.2.2.2.2.1 h5
  subst e
  simp[*]
 subst h5
 by_cases h6:a6=b6
 rotate_left
 ·have e:b=false:=by
   cases b with
   | false=>rfl
   | true=>exact absurd (hb.1 rfl).2.2.2.2.2.2.1 h6
  subst e
  simp[*]
 subst h6
 by_cases h7:a7=b7
 rotate_left
 ·have e:b=false:=by
   cases b with
   | false=>rfl
   | true=>exact absurd (hb.1 rfl).2.2.2.2.2.2.2.1 h7
  subst e
  simp[*]
 subst h7
 by_cases h8:a8=b8
 rotate_left
 ·have e:b=false:=by
   cases b with
   | false=>rfl
   | true=>exact absurd (hb.1 rfl).2.2.2.2.2.2.2.2 h8
  subst e
  simp[*]
 subst h8
 have e:b=true:=hb.2 (by simp)
 subst e
 simp
theorem texts_any (w:World) (m:MT) (f0 f1 f2 f3 f4 f5 f6 va vl vc vr vk:Value):
  Calls Tryz.prog 48 #[.agg (mcells m f0 f1 f2 f3 f4 f5 f6 va vl vc vr vk).toArray] w fun e w'=>e=.returned (.agg #[.string (txt m.name),.string (txt m.pw),.string (txt m.nrdn),.string (txt m.sup),.string (txt m.attr),.string (txt m.value),.string (txt m.matched),.string (txt m.text)])/\Below w.heap.size w w':=by
 obtain⟨cs,hcs⟩:∃cs,(mcells m f0 f1 f2 f3 f4 f5 f6 va vl vc vr vk)=cs:=⟨_,rfl⟩
 have hB1:Blk (w.alloc (.cells cs.toArray 42)) w.heap.size cs:=Blk.new w cs 42
 have hfa:Fr (fun _=>False) w (w.alloc (.cells cs.toArray 42)):=Fr.alloc _ _ _
 obtain⟨w1,hw1⟩:∃w1,w.alloc (.cells cs.toArray 42)=w1:=⟨_,rfl⟩
 rw[hw1] at hB1 hfa
 have hs1:w1.heap.size=w.heap.size+1:=by rw[<-hw1];simp
 have hB2:Blk (w1.alloc (.cells #[.string ⟨#[]⟩,.string ⟨#[]⟩,.string ⟨#[]⟩,.string ⟨#[]⟩,.string ⟨#[]⟩,.string ⟨#[]⟩,.string ⟨#[]⟩,.string ⟨#[]⟩] 97)) w1.heap.size [.string ⟨#[]⟩,.string ⟨#[]⟩,.string ⟨#[]⟩,.string ⟨#[]⟩,.string ⟨#[]⟩,.string ⟨#[]⟩,.string ⟨#[]⟩,.string ⟨#[]⟩]:=Blk.new w1 [.string ⟨#[]⟩,.string ⟨#[]⟩,.string ⟨#[]⟩,.string ⟨#[]⟩,.string ⟨#[]⟩,.string ⟨#[]⟩,.string ⟨#[]⟩,.string ⟨#[]⟩] 97
 have hfb:Fr (fun _=>False) w1 (w1.alloc (.cells #[.string ⟨#[]⟩,.string ⟨#[]⟩,.string ⟨#[]⟩,.string ⟨#[]⟩,.string ⟨#[]⟩,.string ⟨#[]⟩,.string ⟨#[]⟩,.string ⟨#[]⟩] 97)):=Fr.alloc _ _ _
 obtain⟨w2,hw2⟩:∃w2,w1.alloc (.cells #[.string ⟨#[]⟩,.string ⟨#[]⟩,.string ⟨#[]⟩,.string ⟨#[]⟩,.string ⟨#[]⟩,.string ⟨#[]⟩,.string ⟨#[]⟩,.string ⟨#[]⟩] 97)=w2:=⟨_,rfl⟩
 rw[hw2] at hB2 hfb
 obtain⟨b1,hb1⟩:∃b1,w.heap.size=b1:=⟨_,rfl⟩
 obtain⟨b2,hb2⟩:∃b2,w.heap.size+1=b2:=⟨_,rfl⟩
 have hB1b:=hB1.fr hfb id
 rw[hb1] at hB1b
 rw[hs1,hb2] at hB2
 have k2:w2.cell? ⟨b1,2,none⟩=some (.string (txt m.name)):=hB1b.cells 2 _ (by rw[<-hcs];rfl)
 have k3:w2.cell? ⟨b1,3,none⟩=some (.string (txt m.pw)):=hB1b.cells 3 _ (by rw[<-hcs];rfl)
 have k20:w2.cell? ⟨b1,20,none⟩=some (.string (txt m.nrdn)):=hB1b.cells 20 _ (by rw[<-hcs];rfl)
 have k23:w2.cell? ⟨b1,23,none⟩=some (.string (txt m.sup)):=hB1b.cells 23 _ (by rw[<-hcs];rfl)
 have k24:w2.cell? ⟨b1,24,none⟩=some (.string (txt m.attr)):=hB1b.cells 24 _ (by rw[<-hcs];rfl)
 have k25:w2.cell? ⟨b1,25,none⟩=some (.string (txt m.value)):=hB1b.cells 25 _ (by rw[<-hcs];rfl)
 have k28:w2.cell? ⟨b1,28,none⟩=some (.string (txt m.matched)):=hB1b.cells 28 _ (by rw[<-hcs];rfl)
 have k29:w2.cell? ⟨b1,29,none⟩=some (.string (txt m.text)):=hB1b.cells 29 _ (by rw[<-hcs];rfl)
 have q0:=hB2.cells 0 _ rfl
 have q1:=hB2.cells 1 _ rfl
 have q2:=hB2.cells 2 _ rfl
 have q3:=hB2.cells 3 _ rfl
 have q4:=hB2.cells 4 _ rfl
 have q5:=hB2.cells 5 _ rfl
 have q6:=hB2.cells 6 _ rfl
 have q7:=hB2.cells 7 _ rfl
 have qz:=hB2.fz
 have Hw1:=hide hw1
 have Hw2:=hide hw2
 have Hb1:=hide hb1
 have Hb2:=hide hb2
 have Hf:=hide (hfa.trans hfb)
 have Hsz:=hide hs1
 have HB2:=hide hB2
 rw[hcs]
 clear hB1 hfa hB2 hfb hB1b hw1 hw2 hb1 hb2 hcs hs1
 go_enter Tryz.func48,Tryz.ntmps48
 go_upto_region 1 with fail
 rw[Hw1.out,Hw2.out]
 try rw[Hb2.out]
 try rw[Hb1.out]
 go_wp2
 change bodyPost _ _ _ _ _ (w2.setCells b2 0 [.string (txt m.name),.string (txt m.pw),.string (txt m.nrdn),.string (txt m.sup),.string (txt m.attr),.string (txt m.value),.string (txt m.matched),.string (txt m.text)])
 have HBz:=hide (HB2.out.sets 0 [.string (txt m.name),.string (txt m.pw),.string (txt m.nrdn),.string (txt m.sup),.string (txt m.attr),.string (txt m.value),.string (txt m.matched),.string (txt m.text)] (Nat.le_refl _) [.string (txt m.name),.string (txt m.pw),.string (txt m.nrdn),.string (txt m.sup),.string (txt m.attr),.string (txt m.value),.string (txt m.matched),.string (txt m.text)] rfl)
 have Hfz:=hide (Fr.setCells (X:=fun k=>k=b2) w2 b2 0 [.string (txt m.name),.string (txt m.pw),.string (txt m.nrdn),.string (txt m.sup),.string (txt m.attr),.string (txt m.value),.string (txt m.matched),.string (txt m.text)] rfl)
 clear k2 k3 k20 k23 k24 k25 k28 k29 q0 q1 q2 q3 q4 q5 q6 q7 qz HB2
 generalize w2.setCells b2 0 [.string (txt m.name),.string (txt m.pw),.string (txt m.nrdn),.string (txt m.sup),.string (txt m.attr),.string (txt m.value),.string (txt m.matched),.string (txt m.text)]=wz at *
 refine bodyPost_ret (v:=.agg #[.string (txt m.name),.string (txt m.pw),.string (txt m.nrdn),.string (txt m.sup),.string (txt m.attr),.string (txt m.value),.string (txt m.matched),.string (txt m.text)]) ?_ rfl ⟨rfl,?_⟩
 ·exact zAy rfl _ wz b2 [.string (txt m.name),.string (txt m.pw),.string (txt m.nrdn),.string (txt m.sup),.string (txt m.attr),.string (txt m.value),.string (txt m.matched),.string (txt m.text)] _ rfl HBz.out.range Tryz.underlying97 rfl (by kernel_rfl)
 ·exact (Hf.out.trans' Hfz.out (fun k hk q=>by have:=Hb2.out;have:=Hsz.out;omega)).below (Nat.le_refl _) (fun k q=>q.elim)
theorem texts_eq (a0 a1 a2 a3 a4 a5 a6 a7 b0 b1 b2 b3 b4 b5 b6 b7:List UInt8) (b:Bool) (hb:b=true↔a0=b0/\a1=b1/\a2=b2/\a3=b3/\a4=b4/\a5=b5/\a6=b6/\a7=b7) (w:World):
  (Op.equalIn 10000 97 (.agg #[.string (txt a0),.string (txt a1),.string (txt a2),.string (txt a3),.string (txt a4),.string (txt a5),.string (txt a6),.string (txt a7)]) (.agg #[.string (txt b0),.string (txt b1),.string (txt b2),.string (txt b3),.string (txt b4),.string (txt b5),.string (txt b6),.string (txt b7)])).run Tryz.prog w=.ok b w:=by
 rw[show (10000:Nat)=9999+1 from rfl,Op.equalIn]
 simp only[Sem.run_bind,run_underlying Tryz.underlying97,Result.andThen_ok]
 simp only[Std.Legacy.Range.forIn_eq_forIn_range',Std.Legacy.Range.size,Nat.sub_zero,Nat.add_sub_cancel,Nat.div_one,List.range'_succ,List.range'_zero,List.forIn_cons,List.forIn_nil]
 go_simp
 by_cases h0:a0=b0
 rotate_left
 ·have e:b=false:=by
   cases b with
   | false=>rfl
   | true=>exact absurd (hb.1 rfl).1 h0
  have n1:¬txt a0=txt b0:=fun q=>h0 (txt_inj q)
  subst e
  simp[*]
 subst h0
 by_cases h1:a1=b1
 rotate_left
 ·have e:b=false:=by
   cases b with
   | false=>rfl
   | true=>exact absurd (hb.1 rfl).2.1 h1
  have n1:¬txt a1=txt b1:=fun q=>h1 (txt_inj q)
  subst e
  simp[*]
 subst h1
 by_cases h2:a2=b2
 rotate_left
 ·have e:b=false:=by
   cases b with
   | false=>rfl
   | true=>exact absurd (hb.1 rfl).2.2.1 h2
  have n1:¬txt a2=txt b2:=fun q=>h2 (txt_inj q)
  subst e
  simp[*]
 subst h2
 by_cases h3:a3=b3
 rotate_left
 ·have e:b=false:=by
   cases b with
   | false=>rfl
   | true=>exact absurd (hb.1 rfl).2.2.2.1 h3
  have n1:¬txt a3=txt b3:=fun q=>h3 (txt_inj q)
  subst e
  simp[*]
 subst h3
 by_cases h4:a4=b4
 rotate_left
 ·have e:b=false:=by
   cases b with
   | false=>rfl
   | true=>exact absurd (hb.1 rfl).2.2.2.2.1 h4
  have n1:¬txt a4=txt b4:=fun q=>h4 (txt_inj q)
  subst e
  simp[*]
 subst h4
 by_cases h5:a5=b5
 rotate_left
 ·have e:b=false:=by
   cases b with
   | false=>rfl
   | true=>exact absurd (hb.1 rfl).2.2.2.2.2.1 h5
  have n1:¬txt a5=txt b5:=fun q=>h5 (txt_inj q)
  subst e
  simp[*]
 subst h5
 by_cases h6:a6=b6
 rotate_left
 ·have e:b=false:=by
   cases b with
   | false=>rfl
   | true=>exact absurd (hb.1 rfl).2.2.2.2.2.2.1 h6
  have n1:¬txt a6=txt b6:=fun q=>h6 (txt_inj q)
  subst e
  simp[*]
 subst h6
 by_cases h7:a7=b7
 rotate_left
 ·have e:b=false:=by
   cases b with
   | false=>rfl
   | true=>exact absurd (hb.1 rfl).2.2.2.2.2.2.2 h7
  have n1:¬txt a7=txt b7:=fun q=>h7 (txt_inj q)
  subst e
  simp[*]
 subst h7
 have e:b=true:=hb.2 (by simp)
 subst e
 simp
theorem flags_any (w:World) (m:MT) (f0 f1 f2 f3 f4 f5 f6 va vl vc vr vk:Value):
  Calls Tryz.prog 49 #[.agg (mcells m f0 f1 f2 f3 f4 f5 f6 va vl vc vr vk).toArray] w fun e w'=>e=.returned (.agg #[.bool m.tonly,.bool m.delold,.bool m.hassup])/\Below w.heap.size w w':=by
 obtain⟨cs,hcs⟩:∃cs,(mcells m f0 f1 f2 f3 f4 f5 f6 va vl vc vr vk)=cs:=⟨_,rfl⟩
 have hB1:Blk (w.alloc (.cells cs.toArray 42)) w.heap.size cs:=Blk.new w cs 42
 have hfa:Fr (fun _=>False) w (w.alloc (.cells cs.toArray 42)):=Fr.alloc _ _ _
 obtain⟨w1,hw1⟩:∃w1,w.alloc (.cells cs.toArray 42)=w1:=⟨_,rfl⟩
 rw[hw1] at hB1 hfa
 have hs1:w1.heap.size=w.heap.size+1:=by rw[<-hw1];simp
 have hB2:Blk (w1.alloc (.cells #[.bool false,.bool false,.bool false] 99)) w1.heap.size [.bool false,.bool false,.bool false]:=Blk.new w1 [.bool false,.bool false,.bool false] 99
 have hfb:Fr (fun _=>False) w1 (w1.alloc (.cells #[.bool false,.bool false,.bool false] 99)):=Fr.alloc _ _ _
 obtain⟨w2,hw2⟩:∃w2,w1.alloc (.cells #[.bool false,.bool false,.bool false] 99)=w2:=⟨_,rfl⟩
 rw[hw2] at hB2 hfb
 obtain⟨b1,hb1⟩:∃b1,w.heap.size=b1:=⟨_,rfl⟩
 obtain⟨b2,hb2⟩:∃b2,w.heap.size+1=b2:=⟨_,rfl⟩
 have hB1b:=hB1.fr hfb id
 rw[hb1] at hB1b
 rw[hs1,hb2] at hB2
 have k9:w2.cell? ⟨b1,9,none⟩=some (.bool m.tonly):=hB1b.cells 9 _ (by rw[<-hcs];rfl)
 have k21:w2.cell? ⟨b1,21,none⟩=some (.bool m.delold):=hB1b.cells 21 _ (by rw[<-hcs];rfl)
 have k22:w2.cell? ⟨b1,22,none⟩=some (.bool m.hassup):=hB1b.cells 22 _ (by rw[<-hcs];rfl)
 have q0:=hB2.cells 0 _ rfl
 have q1:=hB2.cells 1 _ rfl
 have q2:=hB2.cells 2 _ rfl
 have qz:=hB2.fz
 have Hw1:=hide hw1
 have Hw2:=hide hw2
 have Hb1:=hide hb1
 have Hb2:=hide hb2
 have Hf:=hide (hfa.trans hfb)
 have Hsz:=hide hs1
 have HB2:=hide hB2
 rw[hcs]
 clear hB1 hfa hB2 hfb hB1b hw1 hw2 hb1 hb2 hcs hs1
 go_enter Tryz.func49,Tryz.ntmps49
 go_upto_region 1 with fail
 rw[Hw1.out,Hw2.out]
 try rw[Hb2.out]
 try rw[Hb1.out]
 go_wp2
 change bodyPost _ _ _ _ _ (w2.setCells b2 0 [.bool m.tonly,.bool m.delold,.bool m.hassup])
 have HBz:=hide (HB2.out.sets 0 [.bool m.tonly,.bool m.delold,.bool m.hassup] (Nat.le_refl _) [.bool m.tonly,.bool m.delold,.bool m.hassup] rfl)
 have Hfz:=hide (Fr.setCells (X:=fun k=>k=b2) w2 b2 0 [.bool m.tonly,.bool m.delold,.bool m.hassup] rfl)
 clear k9 k21 k22 q0 q1 q2 qz HB2
 generalize w2.setCells b2 0 [.bool m.tonly,.bool m.delold,.bool m.hassup]=wz at *
 refine bodyPost_ret (v:=.agg #[.bool m.tonly,.bool m.delold,.bool m.hassup]) ?_ rfl ⟨rfl,?_⟩
 ·exact zAy rfl _ wz b2 [.bool m.tonly,.bool m.delold,.bool m.hassup] _ rfl HBz.out.range Tryz.underlying99 rfl (by kernel_rfl)
 ·exact (Hf.out.trans' Hfz.out (fun k hk q=>by have:=Hb2.out;have:=Hsz.out;omega)).below (Nat.le_refl _) (fun k q=>q.elim)
theorem flags_eq (a0 a1 a2 b0 b1 b2:Bool) (b:Bool) (hb:b=true↔a0=b0/\a1=b1/\a2=b2) (w:World):
  (Op.equalIn 10000 99 (.agg #[.bool a0,.bool a1,.bool a2]) (.agg #[.bool b0,.bool b1,.bool b2])).run Tryz.prog w=.ok b w:=by
 rw[show (10000:Nat)=9999+1 from rfl,Op.equalIn]
 simp only[Sem.run_bind,run_underlying Tryz.underlying99,Result.andThen_ok]
 simp only[Std.Legacy.Range.forIn_eq_forIn_range',Std.Legacy.Range.size,Nat.sub_zero,Nat.add_sub_cancel,Nat.div_one,List.range'_succ,List.range'_zero,List.forIn_cons,List.forIn_nil]
 go_simp
 by_cases h0:a0=b0
 rotate_left
 ·have e:b=false:=by
   cases b with
   | false=>rfl
   | true=>exact absurd (hb.1 rfl).1 h0
  subst e
  simp[*]
 subst h0
 by_cases h1:a1=b1
 rotate_left
 ·have e:b=false:=by
   cases b with
   | false=>rfl
   | true=>exact absurd (hb.1 rfl).2.1 h1
  subst e
  simp[*]
 subst h1
 by_cases h2:a2=b2
 rotate_left
 ·have e:b=false:=by
   cases b with
   | false=>rfl
   | true=>exact absurd (hb.1 rfl).2.2 h2
  subst e
  simp[*]
 subst h2
 have e:b=true:=hb.2 (by simp)
 subst e
 simp
theorem jmap_txt_inj {T U:List (List UInt8)} (h:T.map txt=U.map txt):T=U:=by
 have:=congrArg (List.map fun x:ByteArray=>x.data.toList) h
 rw[List.map_map,List.map_map] at this
 have e:((fun x:ByteArray=>x.data.toList) ∘ txt)=id:=by funext x;exact zBa x
 rw[e,List.map_id,List.map_id] at this
 exact this
theorem jtexts_getD {T:List (List UInt8)} {w:World} {g o:Nat} (h:∀(i:Nat) (x:List UInt8),T[i]?=some x->w.cell? ⟨g,o+i,none⟩=some (.string (txt x))):
  ∀j,j<(T.map txt).length->w.cell? ⟨g,o+j,none⟩=some (.string ((T.map txt).getD j ByteArray.empty)):=by
 intro j hj
 rw[List.length_map] at hj
 rw[h j T[j] (List.getElem?_eq_getElem hj)]
 simp[List.getD_eq_getElem?_getD,hj]
open Classical in
theorem jequal_any (w:World) (A B:Option Addr) (n c m d:Nat) (T U:List (List UInt8)) (hA:Has w w.heap.size 1 A n (strs T)) (hB:Has w w.heap.size 1 B m (strs U)) (hn:n<=1000000):
  Calls Tryz.prog 51 #[.slice A n c,.slice B m d] w fun e w'=>e=.returned (.bool (decide (T=U)))/\Below w.heap.size w w':=by
 have h1:=hA.strs_n
 have h2:=hB.strs_n
 by_cases hnm:n=m
 ·have hm:m<=1000000:=by omega
  by_cases hT:T=[]
  ·subst hT
   obtain rfl:n=0:=by simpa using h1
   subst hnm
   obtain rfl:U=[]:=List.eq_nil_of_length_eq_zero h2.symm
   refine (Tryz.slices_Equal_string_empty A B c 0 d w (by omega)).mono ?_
   rintro e w' ⟨rfl,rfl⟩
   exact⟨by simp,Below.refl _ _⟩
  ·have hU:U≠[]:=by
    rintro rfl
    exact hT (List.eq_nil_of_length_eq_zero (by rw[<-h1,hnm,h2];rfl))
   obtain⟨g1,o1,rfl,_,hc1⟩:=hA.texts hT
   obtain⟨g2,o2,rfl,_,hc2⟩:=hB.texts hU
   refine (Tryz.slices_Equal_string g1 o1 n c g2 o2 m d (T.map txt) (U.map txt) w (by rw[List.length_map];omega) (by rw[List.length_map];omega) (by omega) (by omega) (jtexts_getD hc1) (jtexts_getD hc2)).mono ?_
   rintro e w' ⟨rfl,q,rfl⟩
   refine⟨?_,Below.drewN (Below.refl _ _) q⟩
   rw[List.take_of_length_le (by rw[List.length_map];omega),List.take_of_length_le (by rw[List.length_map];omega)]
   by_cases h:T=U
   ·subst h;simp
   ·have h':¬T.map txt=U.map txt:=fun e=>h (jmap_txt_inj e)
    rw[decide_eq_false h,decide_eq_false h']
 ·refine (Tryz.slices_Equal_string_lens A B n c m d w hnm).mono ?_
  rintro e w' ⟨rfl,rfl⟩
  have:¬T=U:=fun h=>hnm (by rw[h1,h2,h])
  exact⟨by rw[decide_eq_false this],Below.refl _ _⟩
open Classical in
noncomputable def FT.eqB (t t':FT):Bool:=decide (t=t')
open Classical in
noncomputable def FT.eqsB (t t':List FT):Bool:=decide (t=t')
theorem FT.eqB_iff {t t':FT}:FT.eqB t t'=true↔t=t':=by unfold FT.eqB;simp
theorem FT.eqsB_iff {t t':List FT}:FT.eqsB t t'=true↔t=t':=by unfold FT.eqsB;simp
theorem jequalf_any (g:Nat) (lb:Array Value) (eg:∀args w,(callFunc g args).run Tryz.prog w=.ok (.enter g args) w) (ps ps':List FT) (w:World) (D D':Option Addr) (n n' d d':Nat) (xs xs':List Value)
  (hD:Has w w.heap.size 7 D n xs) (hP:FsIn w w.heap.size ps xs) (hD':Has w w.heap.size 7 D' n' xs') (hP':FsIn w w.heap.size ps' xs') (hn:ps.length=n) (hn':ps'.length=n') (hnl:n<=9223372036854775807) (hnl':n'<=9223372036854775807)
  (hp:∀p∈ps,∀(q:FT) (W:World) (u0 u1 u2 u3 u4 u5 u6 v0 v1 v2 v3 v4 v5 v6:Value),Below w.heap.size w W->FIn W W.heap.size p [u0,u1,u2,u3,u4,u5,u6]->FIn W W.heap.size q [v0,v1,v2,v3,v4,v5,v6]->
   Calls Tryz.prog g (#[.agg #[u0,u1,u2,u3,u4,u5,u6],.agg #[v0,v1,v2,v3,v4,v5,v6]]++lb) W fun e w'=>e=.returned (.bool (FT.eqB p q))/\Below W.heap.size W w'):
  Calls Tryz.prog 95 #[.slice D n d,.slice D' n' d',.func (.func g) #[] lb] w fun e w'=>e=.returned (.bool (FT.eqsB ps ps'))/\Below w.heap.size w w':=by
 obtain⟨R,hR⟩:∃R,FT.eqsB ps ps'=R:=⟨_,rfl⟩
 have hRy:ps=ps'->R=true:=fun h=>by rw[<-hR];exact FT.eqsB_iff.2 h
 have hRn:ps≠ps'->R=false:=fun h=>by
  cases hb:R with
  | false=>rfl
  | true=>rw[hb] at hR;exact absurd (FT.eqsB_iff.1 hR) h
 rw[hR]
 have hni:(n:Int)<=9223372036854775807:=by omega
 have hni':(n':Int)<=9223372036854775807:=by omega
 by_cases hnn:n=n'
 ·subst hnn
  have HRy:=hide hRy
  have HRn:=hide hRn
  have HD:=hide hD
  have HP:=hide hP
  have HD':=hide hD'
  have HP':=hide hP'
  have HN:=hide hn
  have HN':=hide hn'
  have HC:=hide hp
  clear hD hP hD' hP' hn hn' hp hR hRy hRn
  go_enter Tryz.func95,Tryz.ntmps95
  go_wp2
  go_loopg [17] n (fun r s17 wx=>∃j:Nat,j+r=n/\s17=.int .i64 (j:Int)/\Hid (ps.take j=ps'.take j)/\Hid (Below w.heap.size w wx))
  case atStart=>exact⟨0,by omega,rfl,hide rfl,hide (Below.refl _ _)⟩
  case round=>
   obtain⟨j,hjg,rfl,hpre,hbr⟩:=hrel
   have hb2:=hbr.out
   cases gk with
   | zero=>
    obtain rfl:j=n:=by omega
    have hjz:¬((j:Int)<(j:Int)):=by omega
    have hq:Hid (R=true):=hide (HRy.out (by
     have:=hpre.out
     rwa [List.take_of_length_le (by rw[HN.out];exact Nat.le_refl _),List.take_of_length_le (by rw[HN'.out];exact Nat.le_refl _)] at this))
    clear HD HP HD' HP' HN HN' hpre HRy HRn HC
    go_wp2
    go_ret
    exact⟨by rw[hq.out];rfl,hb2⟩
   | succ r=>
    have hj:j<n:=by omega
    have hjz:(j:Int)<(n:Int):=by omega
    obtain⟨p,hp⟩:∃p,ps[j]?=some p:=⟨_,List.getElem?_eq_getElem (by rw[HN.out];exact hj)⟩
    obtain⟨q,hq⟩:∃q,ps'[j]?=some q:=⟨_,List.getElem?_eq_getElem (by rw[HN'.out];exact hj)⟩
    have HD1:=HD.out
    have HP1:=HP.out
    have HD2:=HD'.out
    have HP2:=HP'.out
    rw[<-HN.out] at HD1
    rw[<-HN'.out] at HD2
    obtain⟨g1,o1,hDe,hg,hparts⟩:=HD1.part HP1 (fun h=>by rw[h] at hp;simp at hp)
    obtain⟨g2,o2,hDe',hg',hparts'⟩:=HD2.part HP2 (fun h=>by rw[h] at hq;simp at hq)
    subst hDe hDe'
    obtain⟨u0,u1,u2,u3,u4,u5,u6,hpart⟩:=hparts j p hp
    obtain⟨v0,v1,v2,v3,v4,v5,v6,hpart'⟩:=hparts' j q hq
    obtain⟨pk,pa,pv,pf,pl,pA,pm,pc,pD,pn,pd,rfl,rfl,rfl,rfl,rfl,rfl,rfl⟩:=hpart.fin.shape
    obtain⟨qk,qa,qv,qf,ql,qA,qm,qc,qD,qn,qd,rfl,rfl,rfl,rfl,rfl,rfl,rfl⟩:=hpart'.fin.shape
    obtain⟨hcp2,_,x0,x1,x2,x3,x4,x5,x6⟩:=hpart.below hb2
    replace hcp2:=hcp2.upto hb2.size
    have hPX:=Box7.new wr pk pa pv pf pl pA pm pc pD pn pd 39
    have hbp:=below1 wr (.cells #[.int .i64 pk,.string pa,.string pv,.string pf,.string pl,.slice pA pm pc,.slice pD pn pd] 39)
    obtain⟨wp,hwp⟩:∃wp,wr.alloc (.cells #[.int .i64 pk,.string pa,.string pv,.string pf,.string pl,.slice pA pm pc,.slice pD pn pd] 39)=wp:=⟨_,rfl⟩
    have hsz:wp.heap.size=wr.heap.size+1:=by rw[<-hwp];simp
    rw[hwp] at hPX hbp
    have hb3:=hb2.trans (hbp.mono hb2.size)
    have hcp3:=hcp2.grow hbp
    obtain⟨hcq3,_,y0,y1,y2,y3,y4,y5,y6⟩:=hpart'.below hb3
    replace hcq3:=hcq3.upto hb3.size
    have hQX:=Box7.new wp qk qa qv qf ql qA qm qc qD qn qd 39
    have hbq:=below1 wp (.cells #[.int .i64 qk,.string qa,.string qv,.string qf,.string ql,.slice qA qm qc,.slice qD qn qd] 39)
    obtain⟨wq,hwq⟩:∃wq,wp.alloc (.cells #[.int .i64 qk,.string qa,.string qv,.string qf,.string ql,.slice qA qm qc,.slice qD qn qd] 39)=wq:=⟨_,rfl⟩
    rw[hwq] at hQX hbq
    have hb4:=hb3.trans (hbq.mono hb3.size)
    have hcp4:=hcp3.grow hbq
    have hcq4:=hcq3.grow hbq
    have hPX4:=hPX.below hPX.lt hbq
    rw[hsz] at hQX
    have hcall:=HC.out p (List.mem_of_getElem? hp) q wq _ _ _ _ _ _ _ _ _ _ _ _ _ _ hb4 hcp4 hcq4
    obtain⟨bb,hbb⟩:∃bb,FT.eqB p q=bb:=⟨_,rfl⟩
    have hyes:bb=true->Hid (ps.take (j+1)=ps'.take (j+1)):=fun h=>hide (by
     rw[<-hbb] at h
     rw[List.take_add_one,List.take_add_one,hpre.out,hp,hq,FT.eqB_iff.1 h])
    have hno:bb=false->Hid (R=false):=fun h=>hide (HRn.out (fun e=>by
     rw[e,hq] at hp
     have:=FT.eqB_iff.2 (Option.some.inj hp).symm
     rw[hbb,h] at this
     cases this))
    rw[hbb] at hcall
    have HYes:=hide hyes
    have HNo:=hide hno
    have Hwp:=hide hwp
    have Hwq:=hide hwq
    have Hsz:=hide hsz
    have HPX4:=hide hPX4
    have HQX:=hide hQX
    have Hb4:=hide hb4
    obtain⟨_,p0,p1,p2,p3,p4,p5,p6⟩:=hPX
    clear HD HP HD' HP' HN HN' hpre HRy HRn HC hp hq HD1 HP1 HD2 HP2 hparts hparts' hpart hpart' hcp2 hcp3 hcp4 hcq3 hcq4 hyes hno hwp hwq hsz hPX4 hQX hb4 hb3 hbp hbq hbr hb2 hbb
    go_upto_region 6 with fail
    rw[Hwp.out]
    go_upto_region 7 with fail
    (try rw[Hsz.out])
    rw[Hwq.out]
    obtain⟨_,a0,a1,a2,a3,a4,a5,a6⟩:=HPX4.out
    obtain⟨_,b0,b1,b2,b3,b4,b5,b6⟩:=HQX.out
    go_wp2_with (go_at_fn g;fail)
    refine hcall.mono ?_
    rintro e w5 ⟨rfl,hb5⟩
    have hb6:=hT Hb4 hb5
    clear hcall hb5 x0 x1 x2 x3 x4 x5 x6 y0 y1 y2 y3 y4 y5 y6 p0 p1 p2 p3 p4 p5 p6 a0 a1 a2 a3 a4 a5 a6 b0 b1 b2 b3 b4 b5 b6 HPX4 HQX Hb4
    cases bb with
    | false=>
     have hbf:=HNo.out rfl
     clear HYes HNo
     go_wp2
     go_ret
     exact⟨by rw[hbf.out];rfl,hb6.out⟩
    | true=>
     have hst:=HYes.out rfl
     clear HYes HNo
     go_wp2
     go_roundg r
     case measure=>omega
     case rel=>exact⟨j+1,by omega,by go_num,hst,hb6⟩
 ·have z1:((n:Int)==(n':Int))=false:=beq_false_of_ne (by omega)
  have z2:((n:Int)!=(n':Int))=true:=by unfold bne;rw[z1];rfl
  obtain rfl:=hRn (fun h=>hnn (by rw[<-hn,<-hn',h]))
  clear hD hP hD' hP' hp hR hRy hRn hn hn' hnn
  go_enter Tryz.func95,Tryz.ntmps95
  go_wp2
  go_ret
  exact⟨rfl,Below.refl _ _⟩
end Go.Proofs.YtcpjmgfloimfhaaGreat
