/- A message of the one package turned into one of the other. By an AI agent. -/
import Derived.Test.YtcpjmgfloimfhaaGreatM16
import Derived.Deep.CutRange
import Derived.Deep.CutBlock
set_option linter.unusedSimpArgs false
set_option linter.unusedVariables false
set_option maxRecDepth 100000
set_option maxHeartbeats 64000000
namespace Go.Proofs.YtcpjmgfloimfhaaGreat
open Go.RowKit
theorem oursM_any (w:World) (m:MT) (v:Value) (hm:repM w (inB w) m v) (hwee:m.filt.wee):Calls Tryz.prog 17 #[v] w (MConv m w):=by
 obtain⟨f0,f1,f2,f3,f4,f5,f6,va,vl,vc,vr,vk,rfl,hX⟩:=hm
 obtain⟨A1,n1,c1,rfl⟩:=zAt hX.attrs
 obtain⟨A2,n2,c2,rfl⟩:=zAt hX.lst
 obtain⟨A3,n3,c3,rfl⟩:=zAt hX.chs
 obtain⟨A4,n4,c4,rfl⟩:=zAt hX.refs
 obtain⟨cs,hcs⟩:∃cs,mcells m f0 f1 f2 f3 f4 f5 f6 (.slice A1 n1 c1) (.slice A2 n2 c2) (.slice A3 n3 c3) (.slice A4 n4 c4) vk=cs:=⟨_,rfl⟩
 have hn:cs.length=32:=by rw[<-hcs];rfl
 rw[hcs]
 have hB1:Blk (w.alloc (.cells cs.toArray 42)) w.heap.size cs:=Blk.new w cs 42
 have hf1:Fr (fun _=>False) w (w.alloc (.cells cs.toArray 42)):=Fr.alloc _ _ _
 obtain⟨w1,hw1⟩:∃w1,w.alloc (.cells cs.toArray 42)=w1:=⟨_,rfl⟩
 have hs1:w1.heap.size=w.heap.size+1:=by rw[<-hw1];simp
 rw[hw1] at hB1 hf1
 have hB2:Blk (w1.alloc (.cells #[.int .i64 0,.int .i64 0,.string ⟨#[]⟩,.string ⟨#[]⟩,.int .i64 0,.int .i64 0,.int .i64 0,.int .i64 0,.int .i64 0,.bool false,.int .i64 0,.string ⟨#[]⟩,.string ⟨#[]⟩,.string ⟨#[]⟩,.string ⟨#[]⟩,.slice none 0 0,.slice none 0 0,.slice none 0 0,.slice none 0 0,.slice none 0 0,.string ⟨#[]⟩,.bool false,.bool false,.string ⟨#[]⟩,.string ⟨#[]⟩,.string ⟨#[]⟩,.int .i64 0,.int .i64 0,.string ⟨#[]⟩,.string ⟨#[]⟩,.slice none 0 0,.slice none 0 0] 30)) w1.heap.size zeroCells:=Blk.new w1 zeroCells 30
 have hf2:Fr (fun _=>False) w1 (w1.alloc (.cells #[.int .i64 0,.int .i64 0,.string ⟨#[]⟩,.string ⟨#[]⟩,.int .i64 0,.int .i64 0,.int .i64 0,.int .i64 0,.int .i64 0,.bool false,.int .i64 0,.string ⟨#[]⟩,.string ⟨#[]⟩,.string ⟨#[]⟩,.string ⟨#[]⟩,.slice none 0 0,.slice none 0 0,.slice none 0 0,.slice none 0 0,.slice none 0 0,.string ⟨#[]⟩,.bool false,.bool false,.string ⟨#[]⟩,.string ⟨#[]⟩,.string ⟨#[]⟩,.int .i64 0,.int .i64 0,.string ⟨#[]⟩,.string ⟨#[]⟩,.slice none 0 0,.slice none 0 0] 30)):=Fr.alloc _ _ _
 obtain⟨w2,hw2⟩:∃w2,w1.alloc (.cells #[.int .i64 0,.int .i64 0,.string ⟨#[]⟩,.string ⟨#[]⟩,.int .i64 0,.int .i64 0,.int .i64 0,.int .i64 0,.int .i64 0,.bool false,.int .i64 0,.string ⟨#[]⟩,.string ⟨#[]⟩,.string ⟨#[]⟩,.string ⟨#[]⟩,.slice none 0 0,.slice none 0 0,.slice none 0 0,.slice none 0 0,.slice none 0 0,.string ⟨#[]⟩,.bool false,.bool false,.string ⟨#[]⟩,.string ⟨#[]⟩,.string ⟨#[]⟩,.int .i64 0,.int .i64 0,.string ⟨#[]⟩,.string ⟨#[]⟩,.slice none 0 0,.slice none 0 0] 30)=w2:=⟨_,rfl⟩
 have hs2:w2.heap.size=w.heap.size+2:=by rw[<-hw2];simp[hs1]
 rw[hw2] at hB2 hf2
 rw[hs1] at hB2
 have hB1b:=hB1.fr hf2 id
 have hb:Below w.heap.size w w2:=(hf1.trans hf2).below (Nat.le_refl _) (fun k q=>q.elim)
 have hX2:MReps w2 (inB w) m f0 f1 f2 f3 f4 f5 f6 (.slice A1 n1 c1) (.slice A2 n2 c2) (.slice A3 n3 c3) (.slice A4 n4 c4) vk:=hX.move (fun p hp=>hb.cell (by exact hp)) (fun k hk=>hk)
 obtain⟨p1,hp1⟩:∃p1,w.heap.size=p1:=⟨_,rfl⟩
 obtain⟨p2,hp2⟩:∃p2,w.heap.size+1=p2:=⟨_,rfl⟩
 rw[hp1] at hB1b
 rw[hp2] at hB2
 have hpl:p1<w2.heap.size:=by omega
 have hpl2:p2<w2.heap.size:=by omega
 have hpw:w.heap.size<=p2/\w.heap.size<=p1/\w.heap.size<=w2.heap.size:=by omega
 have Hf7:Hid (∀(j:Nat) (u:Value),[f0,f1,f2,f3,f4,f5,f6][j]?=some u->cs[10+j]?=some u):=hide (fun j u hu=>by
  rw[<-hcs]
  match j,hu with
  | 0,hu=>exact hu
  | 1,hu=>exact hu
  | 2,hu=>exact hu
  | 3,hu=>exact hu
  | 4,hu=>exact hu
  | 5,hu=>exact hu
  | 6,hu=>exact hu)
 have HC:Hid (∀W,Below w2.heap.size w2 W->Calls Tryz.prog 46 #[.agg #[f0,f1,f2,f3,f4,f5,f6]] W (ConvPost m.filt W)):=hide fun W hW=>ours7_any m.filt hwee W _ _ _ _ _ _ _ (FInP.fin (B:=W.heap.size) (fun k hk=>Nat.lt_of_lt_of_le (show k<w2.heap.size from Nat.lt_of_lt_of_le hk hb.size) hW.size) (hX2.filt.move (P':=inB w) (fun p hp=>hW.cell (by exact Nat.lt_of_lt_of_le hp hb.size)) (fun k hk=>hk)))
 have HX2:=hide hX2
 have HB1:=hide hB1b
 have HB2:=hide hB2
 have Hcs:=hide hcs
 have Hw1:=hide hw1
 have Hw2:=hide hw2
 have HB:=hide hb
 have Hpl:=hide (And.intro hpl hpl2)
 have Hpw:=hide hpw
 have Hp:=hide (And.intro hp1 hp2)
 clear hX hB1 hf1 hB2 hf2 hB1b hb hX2 hcs hw1 hw2 hs1 hs2 hpl hpl2 hpw hp1 hp2
 go_enter Tryz.func17,Tryz.ntmps17
 go_upto_region 1 with fail
 rw[Hw1.out]
 rw[Hw2.out]
 try rw[Hp.out.2]
 try rw[Hp.out.1]
 go_cut [3] from 5 to 56 (fun s3 wx=>∃(h:Nat) (g0 g1 g2 g3 g4 g5 g6:Value),s3=.pointer (some ⟨h,0,none⟩)/\MTh w2 wx h (mcells m g0 g1 g2 g3 g4 g5 g6 (.slice A1 n1 c1) (.slice A2 n2 c2) (.slice A3 n3 c3) (.slice A4 n4 c4) (.slice none 0 0)) m.filt g0 g1 g2 g3 g4 g5 g6)
 case first=>
  refine grow_begin_at w2.heap.size (by kernel_rfl) ?_
  have hdr:Below w2.heap.size w2 w2.drew:=(Below.refl _ _).drew
  have KX:Hid (∀W,Below w2.heap.size w2.drew W->∀(i:Nat) (u:Value),cs[i]?=some u->W.cell? ⟨p1,i,none⟩=some u):=hide fun W hW i u hu=>(hW.cell (p:=⟨p1,i,none⟩) Hpl.out.1).trans (HB1.out.cells i u hu)
  have HBc:=hide hdr
  clear hdr HX2 HB1 HB2 Hw1 Hw2 HB Hp Hpw
  generalize w2.drew=wd at *
  refine zAa 0 (some 5) (v:=.pointer (some ⟨p1,0,none⟩)) rfl rfl (by kernel_rfl) rfl (by rfl) (fun W hW=>by go_simp<;>with_reducible rfl) ?_
  try simp only[pU]
  refine zAa 1 (some 6) (v:=.int .i64 m.id) rfl rfl (by kernel_rfl) rfl (by rfl) (fun W hW=>?ya1) ?_
  case ya1=>
   exact zAd _ _ _ rfl p1 0 rfl _ (loadI8 W _ _ (KX.out W hW 0 _ (by rw[<-Hcs.out];rfl)))
  try simp only[pU]
  refine zAa 2 (some 7) (v:=.pointer (some ⟨p1,1,none⟩)) rfl rfl (by kernel_rfl) rfl (by rfl) (fun W hW=>by go_simp<;>with_reducible rfl) ?_
  try simp only[pU]
  refine zAa 3 (some 8) (v:=.int .i64 m.kind) rfl rfl (by kernel_rfl) rfl (by rfl) (fun W hW=>?ya3) ?_
  case ya3=>
   exact zAd _ _ _ rfl p1 1 rfl _ (loadI8 W _ _ (KX.out W hW 1 _ (by rw[<-Hcs.out];rfl)))
  try simp only[pU]
  refine zAa 4 (some 9) (v:=.pointer (some ⟨p1,2,none⟩)) rfl rfl (by kernel_rfl) rfl (by rfl) (fun W hW=>by go_simp<;>with_reducible rfl) ?_
  try simp only[pU]
  refine zAa 5 (some 10) (v:=.string (txt m.name)) rfl rfl (by kernel_rfl) rfl (by rfl) (fun W hW=>?ya5) ?_
  case ya5=>
   exact zAd _ _ _ rfl p1 2 rfl _ (loadS8 W _ _ (KX.out W hW 2 _ (by rw[<-Hcs.out];rfl)))
  try simp only[pU]
  refine zAa 6 (some 11) (v:=.pointer (some ⟨p1,3,none⟩)) rfl rfl (by kernel_rfl) rfl (by rfl) (fun W hW=>by go_simp<;>with_reducible rfl) ?_
  try simp only[pU]
  refine zAa 7 (some 12) (v:=.string (txt m.pw)) rfl rfl (by kernel_rfl) rfl (by rfl) (fun W hW=>?ya7) ?_
  case ya7=>
   exact zAd _ _ _ rfl p1 3 rfl _ (loadS8 W _ _ (KX.out W hW 3 _ (by rw[<-Hcs.out];rfl)))
  try simp only[pU]
  refine zAa 8 (some 13) (v:=.pointer (some ⟨p1,4,none⟩)) rfl rfl (by kernel_rfl) rfl (by rfl) (fun W hW=>by go_simp<;>with_reducible rfl) ?_
  try simp only[pU]
  refine zAa 9 (some 14) (v:=.int .i64 m.ver) rfl rfl (by kernel_rfl) rfl (by rfl) (fun W hW=>?ya9) ?_
  case ya9=>
   exact zAd _ _ _ rfl p1 4 rfl _ (loadI8 W _ _ (KX.out W hW 4 _ (by rw[<-Hcs.out];rfl)))
  try simp only[pU]
  refine zAa 10 (some 15) (v:=.pointer (some ⟨p1,5,none⟩)) rfl rfl (by kernel_rfl) rfl (by rfl) (fun W hW=>by go_simp<;>with_reducible rfl) ?_
  try simp only[pU]
  refine zAa 11 (some 16) (v:=.int .i64 m.scope) rfl rfl (by kernel_rfl) rfl (by rfl) (fun W hW=>?ya11) ?_
  case ya11=>
   exact zAd _ _ _ rfl p1 5 rfl _ (loadI8 W _ _ (KX.out W hW 5 _ (by rw[<-Hcs.out];rfl)))
  try simp only[pU]
  refine zAa 12 (some 17) (v:=.pointer (some ⟨p1,6,none⟩)) rfl rfl (by kernel_rfl) rfl (by rfl) (fun W hW=>by go_simp<;>with_reducible rfl) ?_
  try simp only[pU]
  refine zAa 13 (some 18) (v:=.int .i64 m.deref) rfl rfl (by kernel_rfl) rfl (by rfl) (fun W hW=>?ya13) ?_
  case ya13=>
   exact zAd _ _ _ rfl p1 6 rfl _ (loadI8 W _ _ (KX.out W hW 6 _ (by rw[<-Hcs.out];rfl)))
  try simp only[pU]
  refine zAa 14 (some 19) (v:=.pointer (some ⟨p1,7,none⟩)) rfl rfl (by kernel_rfl) rfl (by rfl) (fun W hW=>by go_simp<;>with_reducible rfl) ?_
  try simp only[pU]
  refine zAa 15 (some 20) (v:=.int .i64 m.size) rfl rfl (by kernel_rfl) rfl (by rfl) (fun W hW=>?ya15) ?_
  case ya15=>
   exact zAd _ _ _ rfl p1 7 rfl _ (loadI8 W _ _ (KX.out W hW 7 _ (by rw[<-Hcs.out];rfl)))
  try simp only[pU]
  refine zAa 16 (some 21) (v:=.pointer (some ⟨p1,8,none⟩)) rfl rfl (by kernel_rfl) rfl (by rfl) (fun W hW=>by go_simp<;>with_reducible rfl) ?_
  try simp only[pU]
  refine zAa 17 (some 22) (v:=.int .i64 m.time) rfl rfl (by kernel_rfl) rfl (by rfl) (fun W hW=>?ya17) ?_
  case ya17=>
   exact zAd _ _ _ rfl p1 8 rfl _ (loadI8 W _ _ (KX.out W hW 8 _ (by rw[<-Hcs.out];rfl)))
  try simp only[pU]
  refine zAa 18 (some 23) (v:=.pointer (some ⟨p1,9,none⟩)) rfl rfl (by kernel_rfl) rfl (by rfl) (fun W hW=>by go_simp<;>with_reducible rfl) ?_
  try simp only[pU]
  refine zAa 19 (some 24) (v:=.bool m.tonly) rfl rfl (by kernel_rfl) rfl (by rfl) (fun W hW=>?ya19) ?_
  case ya19=>
   exact zAd _ _ _ rfl p1 9 rfl _ (loadB8 W _ _ (KX.out W hW 9 _ (by rw[<-Hcs.out];rfl)))
  try simp only[pU]
  refine zAa 20 (some 25) (v:=.pointer (some ⟨p1,10,none⟩)) rfl rfl (by kernel_rfl) rfl (by rfl) (fun W hW=>by go_simp<;>with_reducible rfl) ?_
  try simp only[pU]
  refine zAa 21 (some 26) (v:=.agg #[f0,f1,f2,f3,f4,f5,f6]) rfl rfl (by kernel_rfl) rfl (by rfl) (fun W hW=>?ya21) ?_
  case ya21=>
   exact zAd _ _ _ rfl p1 10 rfl _ (run_loadVar_mid W p1 10 39 [f0,f1,f2,f3,f4,f5,f6] _ (fun j u hu=>KX.out W hW _ _ (Hf7.out j u hu)) Tryz.underlying39 rfl (by kernel_rfl))
  try simp only[pU]
  refine zAa 23 (some 28) (v:=.pointer (some ⟨p1,17,none⟩)) rfl rfl (by kernel_rfl) rfl (by rfl) (fun W hW=>by go_simp<;>with_reducible rfl) ?_
  try simp only[pU]
  refine zAa 24 (some 29) (v:=.slice A1 n1 c1) rfl rfl (by kernel_rfl) rfl (by rfl) (fun W hW=>?ya24) ?_
  case ya24=>
   exact zAd _ _ _ rfl p1 17 rfl _ (loadT W _ _ (KX.out W hW 17 _ (by rw[<-Hcs.out];rfl)))
  try simp only[pU]
  refine zAa 25 (some 30) (v:=.pointer (some ⟨p1,18,none⟩)) rfl rfl (by kernel_rfl) rfl (by rfl) (fun W hW=>by go_simp<;>with_reducible rfl) ?_
  try simp only[pU]
  refine zAa 26 (some 31) (v:=.slice A2 n2 c2) rfl rfl (by kernel_rfl) rfl (by rfl) (fun W hW=>?ya26) ?_
  case ya26=>
   exact zAd _ _ _ rfl p1 18 rfl _ (loadA W _ _ (KX.out W hW 18 _ (by rw[<-Hcs.out];rfl)))
  try simp only[pU]
  refine zAa 27 (some 32) (v:=.pointer (some ⟨p1,19,none⟩)) rfl rfl (by kernel_rfl) rfl (by rfl) (fun W hW=>by go_simp<;>with_reducible rfl) ?_
  try simp only[pU]
  refine zAa 28 (some 33) (v:=.slice A3 n3 c3) rfl rfl (by kernel_rfl) rfl (by rfl) (fun W hW=>?ya28) ?_
  case ya28=>
   exact zAd _ _ _ rfl p1 19 rfl _ (loadH W _ _ (KX.out W hW 19 _ (by rw[<-Hcs.out];rfl)))
  try simp only[pU]
  refine zAa 29 (some 34) (v:=.pointer (some ⟨p1,20,none⟩)) rfl rfl (by kernel_rfl) rfl (by rfl) (fun W hW=>by go_simp<;>with_reducible rfl) ?_
  try simp only[pU]
  refine zAa 30 (some 35) (v:=.string (txt m.nrdn)) rfl rfl (by kernel_rfl) rfl (by rfl) (fun W hW=>?ya30) ?_
  case ya30=>
   exact zAd _ _ _ rfl p1 20 rfl _ (loadS8 W _ _ (KX.out W hW 20 _ (by rw[<-Hcs.out];rfl)))
  try simp only[pU]
  refine zAa 31 (some 36) (v:=.pointer (some ⟨p1,21,none⟩)) rfl rfl (by kernel_rfl) rfl (by rfl) (fun W hW=>by go_simp<;>with_reducible rfl) ?_
  try simp only[pU]
  refine zAa 32 (some 37) (v:=.bool m.delold) rfl rfl (by kernel_rfl) rfl (by rfl) (fun W hW=>?ya32) ?_
  case ya32=>
   exact zAd _ _ _ rfl p1 21 rfl _ (loadB8 W _ _ (KX.out W hW 21 _ (by rw[<-Hcs.out];rfl)))
  try simp only[pU]
  refine zAa 33 (some 38) (v:=.pointer (some ⟨p1,22,none⟩)) rfl rfl (by kernel_rfl) rfl (by rfl) (fun W hW=>by go_simp<;>with_reducible rfl) ?_
  try simp only[pU]
  refine zAa 34 (some 39) (v:=.bool m.hassup) rfl rfl (by kernel_rfl) rfl (by rfl) (fun W hW=>?ya34) ?_
  case ya34=>
   exact zAd _ _ _ rfl p1 22 rfl _ (loadB8 W _ _ (KX.out W hW 22 _ (by rw[<-Hcs.out];rfl)))
  try simp only[pU]
  refine zAa 35 (some 40) (v:=.pointer (some ⟨p1,23,none⟩)) rfl rfl (by kernel_rfl) rfl (by rfl) (fun W hW=>by go_simp<;>with_reducible rfl) ?_
  try simp only[pU]
  refine zAa 36 (some 41) (v:=.string (txt m.sup)) rfl rfl (by kernel_rfl) rfl (by rfl) (fun W hW=>?ya36) ?_
  case ya36=>
   exact zAd _ _ _ rfl p1 23 rfl _ (loadS8 W _ _ (KX.out W hW 23 _ (by rw[<-Hcs.out];rfl)))
  try simp only[pU]
  refine zAa 37 (some 42) (v:=.pointer (some ⟨p1,24,none⟩)) rfl rfl (by kernel_rfl) rfl (by rfl) (fun W hW=>by go_simp<;>with_reducible rfl) ?_
  try simp only[pU]
  refine zAa 38 (some 43) (v:=.string (txt m.attr)) rfl rfl (by kernel_rfl) rfl (by rfl) (fun W hW=>?ya38) ?_
  case ya38=>
   exact zAd _ _ _ rfl p1 24 rfl _ (loadS8 W _ _ (KX.out W hW 24 _ (by rw[<-Hcs.out];rfl)))
  try simp only[pU]
  refine zAa 39 (some 44) (v:=.pointer (some ⟨p1,25,none⟩)) rfl rfl (by kernel_rfl) rfl (by rfl) (fun W hW=>by go_simp<;>with_reducible rfl) ?_
  try simp only[pU]
  refine zAa 40 (some 45) (v:=.string (txt m.value)) rfl rfl (by kernel_rfl) rfl (by rfl) (fun W hW=>?ya40) ?_
  case ya40=>
   exact zAd _ _ _ rfl p1 25 rfl _ (loadS8 W _ _ (KX.out W hW 25 _ (by rw[<-Hcs.out];rfl)))
  try simp only[pU]
  refine zAa 41 (some 46) (v:=.pointer (some ⟨p1,26,none⟩)) rfl rfl (by kernel_rfl) rfl (by rfl) (fun W hW=>by go_simp<;>with_reducible rfl) ?_
  try simp only[pU]
  refine zAa 42 (some 47) (v:=.int .i64 m.target) rfl rfl (by kernel_rfl) rfl (by rfl) (fun W hW=>?ya42) ?_
  case ya42=>
   exact zAd _ _ _ rfl p1 26 rfl _ (loadI8 W _ _ (KX.out W hW 26 _ (by rw[<-Hcs.out];rfl)))
  try simp only[pU]
  refine zAa 43 (some 48) (v:=.pointer (some ⟨p1,27,none⟩)) rfl rfl (by kernel_rfl) rfl (by rfl) (fun W hW=>by go_simp<;>with_reducible rfl) ?_
  try simp only[pU]
  refine zAa 44 (some 49) (v:=.int .i64 m.code) rfl rfl (by kernel_rfl) rfl (by rfl) (fun W hW=>?ya44) ?_
  case ya44=>
   exact zAd _ _ _ rfl p1 27 rfl _ (loadI8 W _ _ (KX.out W hW 27 _ (by rw[<-Hcs.out];rfl)))
  try simp only[pU]
  refine zAa 45 (some 50) (v:=.pointer (some ⟨p1,28,none⟩)) rfl rfl (by kernel_rfl) rfl (by rfl) (fun W hW=>by go_simp<;>with_reducible rfl) ?_
  try simp only[pU]
  refine zAa 46 (some 51) (v:=.string (txt m.matched)) rfl rfl (by kernel_rfl) rfl (by rfl) (fun W hW=>?ya46) ?_
  case ya46=>
   exact zAd _ _ _ rfl p1 28 rfl _ (loadS8 W _ _ (KX.out W hW 28 _ (by rw[<-Hcs.out];rfl)))
  try simp only[pU]
  refine zAa 47 (some 52) (v:=.pointer (some ⟨p1,29,none⟩)) rfl rfl (by kernel_rfl) rfl (by rfl) (fun W hW=>by go_simp<;>with_reducible rfl) ?_
  try simp only[pU]
  refine zAa 48 (some 53) (v:=.string (txt m.text)) rfl rfl (by kernel_rfl) rfl (by rfl) (fun W hW=>?ya48) ?_
  case ya48=>
   exact zAd _ _ _ rfl p1 29 rfl _ (loadS8 W _ _ (KX.out W hW 29 _ (by rw[<-Hcs.out];rfl)))
  try simp only[pU]
  refine zAa 49 (some 54) (v:=.pointer (some ⟨p1,30,none⟩)) rfl rfl (by kernel_rfl) rfl (by rfl) (fun W hW=>by go_simp<;>with_reducible rfl) ?_
  try simp only[pU]
  refine zAa 50 (some 55) (v:=.slice A4 n4 c4) rfl rfl (by kernel_rfl) rfl (by rfl) (fun W hW=>?ya50) ?_
  case ya50=>
   exact zAd _ _ _ rfl p1 30 rfl _ (loadT W _ _ (KX.out W hW 30 _ (by rw[<-Hcs.out];rfl)))
  try simp only[pU]
  refine grow_each [22,52] (by kernel_rfl) (by simp) ?_
  refine AllG.cons rfl (fun K hK=>?_) (AllG.cons rfl (fun K hK=>?_) AllG.nil)
  ·
   go_simp
   refine (HC.out wd HBc.out).mono ?_
   rintro e w3 hpost
   obtain⟨g0,g1,g2,g3,g4,g5,g6,rfl,hg,hb⟩:=hpost.out
   have hb3:Below w2.heap.size wd w3:=hb.mono HBc.out.size
   have hwb:=HBc.out.size
   have HG:=hide hg
   have hsz:=hb.size
   replace HBc:=hide (HBc.out.trans hb3)
   refine hK.out _ _ hb3 ?_
   clear hK K hb hpost hg hb3
   try simp only[pU]
   refine zAa 51 (some 56) (v:=.agg (mcells m g0 g1 g2 g3 g4 g5 g6 (.slice A1 n1 c1) (.slice A2 n2 c2) (.slice A3 n3 c3) (.slice A4 n4 c4) (.slice none 0 0)).toArray) rfl rfl (by kernel_rfl) rfl (by rfl) (fun W hW=>?yb1) ?_
   case yb1=>
    exact exec_build _ _ _ rfl _ (by simp only[List.map_toArray,List.map_cons,List.map_nil];exact built_msgR m g0 g1 g2 g3 g4 g5 g6 _ _ _ _ _ _ _ _ _ _ _ _)
   try simp only[pU]
   obtain⟨cy,hcy⟩:∃cy,(mcells m g0 g1 g2 g3 g4 g5 g6 (.slice A1 n1 c1) (.slice A2 n2 c2) (.slice A3 n3 c3) (.slice A4 n4 c4) (.slice none 0 0))=cy:=⟨_,rfl⟩
   rw[hcy]
   have Hcy:=hide hcy
   clear hcy
   refine zAc 52 rfl (by kernel_rfl) (fun K hK=>?_)
   go_simp
   have hb4:Below w2.heap.size w3 (w3.alloc (.cells #[.int .i64 0,.int .i64 0,.string ⟨#[]⟩,.string ⟨#[]⟩,.int .i64 0,.int .i64 0,.int .i64 0,.int .i64 0,.int .i64 0,.bool false,.int .i64 0,.string ⟨#[]⟩,.string ⟨#[]⟩,.string ⟨#[]⟩,.string ⟨#[]⟩,.slice none 0 0,.slice none 0 0,.slice none 0 0,.slice none 0 0,.slice none 0 0,.string ⟨#[]⟩,.bool false,.bool false,.string ⟨#[]⟩,.string ⟨#[]⟩,.string ⟨#[]⟩,.int .i64 0,.int .i64 0,.string ⟨#[]⟩,.string ⟨#[]⟩,.slice none 0 0,.slice none 0 0] 30)):=(Below.refl _ _).alloc HBc.out.size _
   have HZ:=hide (Blk.new w3 zeroCells 30)
   have HLe:Hid (w2.heap.size<=w3.heap.size):=hide HBc.out.size
   have HG2:Hid (FInP (w3.alloc (.cells #[.int .i64 0,.int .i64 0,.string ⟨#[]⟩,.string ⟨#[]⟩,.int .i64 0,.int .i64 0,.int .i64 0,.int .i64 0,.int .i64 0,.bool false,.int .i64 0,.string ⟨#[]⟩,.string ⟨#[]⟩,.string ⟨#[]⟩,.string ⟨#[]⟩,.slice none 0 0,.slice none 0 0,.slice none 0 0,.slice none 0 0,.slice none 0 0,.string ⟨#[]⟩,.bool false,.bool false,.string ⟨#[]⟩,.string ⟨#[]⟩,.string ⟨#[]⟩,.int .i64 0,.int .i64 0,.string ⟨#[]⟩,.string ⟨#[]⟩,.slice none 0 0,.slice none 0 0] 30)) (fun b=>w2.heap.size<=b/\b≠w3.heap.size/\b<(w3.alloc (.cells #[.int .i64 0,.int .i64 0,.string ⟨#[]⟩,.string ⟨#[]⟩,.int .i64 0,.int .i64 0,.int .i64 0,.int .i64 0,.int .i64 0,.bool false,.int .i64 0,.string ⟨#[]⟩,.string ⟨#[]⟩,.string ⟨#[]⟩,.string ⟨#[]⟩,.slice none 0 0,.slice none 0 0,.slice none 0 0,.slice none 0 0,.slice none 0 0,.string ⟨#[]⟩,.bool false,.bool false,.string ⟨#[]⟩,.string ⟨#[]⟩,.string ⟨#[]⟩,.int .i64 0,.int .i64 0,.string ⟨#[]⟩,.string ⟨#[]⟩,.slice none 0 0,.slice none 0 0] 30)).heap.size) m.filt [g0,g1,g2,g3,g4,g5,g6]):=hide (FInP.move (fun p hp=>(below1 w3 _).cell hp.2) (fun b hb=>⟨by have:=hb.1;omega,by have:=hb.2;omega,by have:=hb.2;simp;omega⟩) HG.out)
   have hs4:(w3.alloc (.cells #[.int .i64 0,.int .i64 0,.string ⟨#[]⟩,.string ⟨#[]⟩,.int .i64 0,.int .i64 0,.int .i64 0,.int .i64 0,.int .i64 0,.bool false,.int .i64 0,.string ⟨#[]⟩,.string ⟨#[]⟩,.string ⟨#[]⟩,.string ⟨#[]⟩,.slice none 0 0,.slice none 0 0,.slice none 0 0,.slice none 0 0,.slice none 0 0,.string ⟨#[]⟩,.bool false,.bool false,.string ⟨#[]⟩,.string ⟨#[]⟩,.string ⟨#[]⟩,.int .i64 0,.int .i64 0,.string ⟨#[]⟩,.string ⟨#[]⟩,.slice none 0 0,.slice none 0 0] 30)).heap.size=w3.heap.size+1:=by simp
   replace HBc:=hide (HBc.out.trans hb4)
   refine hK.out _ _ hb4 ?_
   clear hK K hb4 HG hsz
   change Hid (Blk (w3.alloc (.cells #[.int .i64 0,.int .i64 0,.string ⟨#[]⟩,.string ⟨#[]⟩,.int .i64 0,.int .i64 0,.int .i64 0,.int .i64 0,.int .i64 0,.bool false,.int .i64 0,.string ⟨#[]⟩,.string ⟨#[]⟩,.string ⟨#[]⟩,.string ⟨#[]⟩,.slice none 0 0,.slice none 0 0,.slice none 0 0,.slice none 0 0,.slice none 0 0,.string ⟨#[]⟩,.bool false,.bool false,.string ⟨#[]⟩,.string ⟨#[]⟩,.string ⟨#[]⟩,.int .i64 0,.int .i64 0,.string ⟨#[]⟩,.string ⟨#[]⟩,.slice none 0 0,.slice none 0 0] 30)) w3.heap.size zeroCells) at HZ
   generalize w3.alloc (.cells #[.int .i64 0,.int .i64 0,.string ⟨#[]⟩,.string ⟨#[]⟩,.int .i64 0,.int .i64 0,.int .i64 0,.int .i64 0,.int .i64 0,.bool false,.int .i64 0,.string ⟨#[]⟩,.string ⟨#[]⟩,.string ⟨#[]⟩,.string ⟨#[]⟩,.slice none 0 0,.slice none 0 0,.slice none 0 0,.slice none 0 0,.slice none 0 0,.string ⟨#[]⟩,.bool false,.bool false,.string ⟨#[]⟩,.string ⟨#[]⟩,.string ⟨#[]⟩,.int .i64 0,.int .i64 0,.string ⟨#[]⟩,.string ⟨#[]⟩,.slice none 0 0,.slice none 0 0] 30)=w4 at *
   generalize w3.heap.size=h at *
   try simp only[pU]
   refine zAc 53 rfl (by kernel_rfl) (fun K hK=>?_)
   refine stepB w4 rfl rfl 30 (.tmp 3) (.tmp 56) rfl h zeroCells cy rfl rfl HZ.out (by rw[<-Hcy.out];rfl) (by rw[<-Hcy.out];kernel_rfl) ?h1 ?_
   case h1=>rw[<-Hcy.out];exact mcells_one HG2.out.one rfl rfl rfl rfl rfl
   intro wz hwz
   have hg:=zAx h cy 0 w4
   rw[<-hwz] at hg
   have hb5:Below w2.heap.size w4 wz:=zAv hg (fun k hk=>by cases hk;exact HLe.out) HBc.out.size
   have HTh:MTh w2 wz h cy m.filt g0 g1 g2 g3 g4 g5 g6:=⟨HBc.out.trans hb5,HLe.out,by rw[hwz];exact blk_sets32 HZ.out rfl (by rw[<-Hcy.out];rfl),FInP.move (fun p hp=>World.cell?_of_block (w:=w4) (hg.block p.block hp.2.2 (fun e=>hp.2.1 (Option.some.inj e)))) (fun b hb=>⟨hb.1,hb.2.1,Nat.lt_of_lt_of_le hb.2.2 hg.size⟩) HG2.out⟩
   refine hK.out _ _ hb5 ?_
   clear hK K hb5 hg
   try simp only[pU]
   refine zAi (by kernel_rfl) ?_ _
   go_wp2_with fail
   go_meet
   case rel=>exact⟨h,g0,g1,g2,g3,g4,g5,g6,rfl,by rw[Hcy.out];exact HTh⟩
  ·go_simp
   have hb4:Below w2.heap.size wd (wd.alloc (.cells #[.int .i64 0,.int .i64 0,.string ⟨#[]⟩,.string ⟨#[]⟩,.int .i64 0,.int .i64 0,.int .i64 0,.int .i64 0,.int .i64 0,.bool false,.int .i64 0,.string ⟨#[]⟩,.string ⟨#[]⟩,.string ⟨#[]⟩,.string ⟨#[]⟩,.slice none 0 0,.slice none 0 0,.slice none 0 0,.slice none 0 0,.slice none 0 0,.string ⟨#[]⟩,.bool false,.bool false,.string ⟨#[]⟩,.string ⟨#[]⟩,.string ⟨#[]⟩,.int .i64 0,.int .i64 0,.string ⟨#[]⟩,.string ⟨#[]⟩,.slice none 0 0,.slice none 0 0] 30)):=(Below.refl _ _).alloc HBc.out.size _
   have HZ:=hide (Blk.new wd zeroCells 30)
   have HLe:Hid (w2.heap.size<=wd.heap.size):=hide HBc.out.size
   have hs4:(wd.alloc (.cells #[.int .i64 0,.int .i64 0,.string ⟨#[]⟩,.string ⟨#[]⟩,.int .i64 0,.int .i64 0,.int .i64 0,.int .i64 0,.int .i64 0,.bool false,.int .i64 0,.string ⟨#[]⟩,.string ⟨#[]⟩,.string ⟨#[]⟩,.string ⟨#[]⟩,.slice none 0 0,.slice none 0 0,.slice none 0 0,.slice none 0 0,.slice none 0 0,.string ⟨#[]⟩,.bool false,.bool false,.string ⟨#[]⟩,.string ⟨#[]⟩,.string ⟨#[]⟩,.int .i64 0,.int .i64 0,.string ⟨#[]⟩,.string ⟨#[]⟩,.slice none 0 0,.slice none 0 0] 30)).heap.size=wd.heap.size+1:=by simp
   replace HBc:=hide (HBc.out.trans hb4)
   refine hK.out _ _ hb4 ?_
   clear hK K hb4 KX
   change Hid (Blk (wd.alloc (.cells #[.int .i64 0,.int .i64 0,.string ⟨#[]⟩,.string ⟨#[]⟩,.int .i64 0,.int .i64 0,.int .i64 0,.int .i64 0,.int .i64 0,.bool false,.int .i64 0,.string ⟨#[]⟩,.string ⟨#[]⟩,.string ⟨#[]⟩,.string ⟨#[]⟩,.slice none 0 0,.slice none 0 0,.slice none 0 0,.slice none 0 0,.slice none 0 0,.string ⟨#[]⟩,.bool false,.bool false,.string ⟨#[]⟩,.string ⟨#[]⟩,.string ⟨#[]⟩,.int .i64 0,.int .i64 0,.string ⟨#[]⟩,.string ⟨#[]⟩,.slice none 0 0,.slice none 0 0] 30)) wd.heap.size zeroCells) at HZ
   generalize wd.alloc (.cells #[.int .i64 0,.int .i64 0,.string ⟨#[]⟩,.string ⟨#[]⟩,.int .i64 0,.int .i64 0,.int .i64 0,.int .i64 0,.int .i64 0,.bool false,.int .i64 0,.string ⟨#[]⟩,.string ⟨#[]⟩,.string ⟨#[]⟩,.string ⟨#[]⟩,.slice none 0 0,.slice none 0 0,.slice none 0 0,.slice none 0 0,.slice none 0 0,.string ⟨#[]⟩,.bool false,.bool false,.string ⟨#[]⟩,.string ⟨#[]⟩,.string ⟨#[]⟩,.int .i64 0,.int .i64 0,.string ⟨#[]⟩,.string ⟨#[]⟩,.slice none 0 0,.slice none 0 0] 30)=w4 at *
   generalize wd.heap.size=h at *
   try simp only[pU]
   refine zAc 22 rfl (by kernel_rfl) (fun K hK=>?_)
   go_simp
   refine (HC.out w4 HBc.out).mono ?_
   rintro e w5 hpost
   obtain⟨g0,g1,g2,g3,g4,g5,g6,rfl,hg,hb⟩:=hpost.out
   have hb3:Below w2.heap.size w4 w5:=hb.mono HBc.out.size
   have hwb:=HBc.out.size
   have HG:=hide hg
   have hsz:=hb.size
   replace HZ:=hide (blk_same HZ.out hsz (hb.block h (by omega)))
   have HG2:Hid (FInP w5 (fun b=>w2.heap.size<=b/\b≠h/\b<w5.heap.size) m.filt [g0,g1,g2,g3,g4,g5,g6]):=hide (FInP.move (fun p hp=>rfl) (fun b hb=>⟨by have:=hb.1;omega,by have:=hb.1;omega,hb.2⟩) HG.out)
   replace HBc:=hide (HBc.out.trans hb3)
   refine hK.out _ _ hb3 ?_
   clear hK K hb hpost hg hb3 HG
   try simp only[pU]
   refine zAa 51 (some 56) (v:=.agg (mcells m g0 g1 g2 g3 g4 g5 g6 (.slice A1 n1 c1) (.slice A2 n2 c2) (.slice A3 n3 c3) (.slice A4 n4 c4) (.slice none 0 0)).toArray) rfl rfl (by kernel_rfl) rfl (by rfl) (fun W hW=>?yb2) ?_
   case yb2=>
    exact exec_build _ _ _ rfl _ (by simp only[List.map_toArray,List.map_cons,List.map_nil];exact built_msgR m g0 g1 g2 g3 g4 g5 g6 _ _ _ _ _ _ _ _ _ _ _ _)
   try simp only[pU]
   obtain⟨cy,hcy⟩:∃cy,(mcells m g0 g1 g2 g3 g4 g5 g6 (.slice A1 n1 c1) (.slice A2 n2 c2) (.slice A3 n3 c3) (.slice A4 n4 c4) (.slice none 0 0))=cy:=⟨_,rfl⟩
   rw[hcy]
   have Hcy:=hide hcy
   clear hcy
   refine zAc 53 rfl (by kernel_rfl) (fun K hK=>?_)
   refine stepB w5 rfl rfl 30 (.tmp 3) (.tmp 56) rfl h zeroCells cy rfl rfl HZ.out (by rw[<-Hcy.out];rfl) (by rw[<-Hcy.out];kernel_rfl) ?h2 ?_
   case h2=>rw[<-Hcy.out];exact mcells_one HG2.out.one rfl rfl rfl rfl rfl
   intro wz hwz
   have hg:=zAx h cy 0 w5
   rw[<-hwz] at hg
   have hb5:Below w2.heap.size w5 wz:=zAv hg (fun k hk=>by cases hk;exact HLe.out) HBc.out.size
   have HTh:MTh w2 wz h cy m.filt g0 g1 g2 g3 g4 g5 g6:=⟨HBc.out.trans hb5,HLe.out,by rw[hwz];exact blk_sets32 HZ.out rfl (by rw[<-Hcy.out];rfl),FInP.move (fun p hp=>World.cell?_of_block (w:=w5) (hg.block p.block hp.2.2 (fun e=>hp.2.1 (Option.some.inj e)))) (fun b hb=>⟨hb.1,hb.2.1,Nat.lt_of_lt_of_le hb.2.2 hg.size⟩) HG2.out⟩
   refine hK.out _ _ hb5 ?_
   clear hK K hb5 hg
   try simp only[pU]
   refine zAi (by kernel_rfl) ?_ _
   go_wp2_with fail
   go_meet
   case rel=>exact⟨h,g0,g1,g2,g3,g4,g5,g6,rfl,by rw[Hcy.out];exact HTh⟩
 case rest=>
  obtain⟨h,g0,g1,g2,g3,g4,g5,g6,rfl,hTh⟩:=hcut
  obtain⟨D,dc,xs,hvk,hnl,hD,hrow⟩:=HX2.out.ctls
  subst hvk
  obtain⟨nk,hnk⟩:∃nk,m.ctls.length=nk:=⟨_,rfl⟩
  obtain⟨cy,hcy⟩:∃cy,(mcells m g0 g1 g2 g3 g4 g5 g6 (.slice A1 n1 c1) (.slice A2 n2 c2) (.slice A3 n3 c3) (.slice A4 n4 c4) (.slice none 0 0))=cy:=⟨_,rfl⟩
  rw[hcy] at hTh
  have hny:cy.length=32:=by rw[<-hcy];rfl
  have hbc:=hTh.bel
  have hsc:=hbc.size
  have hltc:=hTh.blk.lt
  have kc:wc.cell? ⟨p1,31,none⟩=some (.slice D nk dc):=(hbc.cell (p:=⟨p1,31,none⟩) Hpl.out.1).trans (HB1.out.cells 31 _ (by rw[<-Hcs.out,<-hnk];rfl))
  have HTh:=hide hTh
  have Hcy:=hide hcy
  have Hnk:=hide hnk
  have Hny:=hide hny
  have HD:=hide hD
  have Hrow:=hide hrow
  have HBc:=hide hbc
  have hnk5:nk<=20000:=by omega
  clear hTh hcy hny hbc HC hD hrow hnl hnk
  go_wp2
  go_loopg [60] nk (fun r s60 wx=>∃(j:Nat) (v6:Value) (ys:List Value),j+r=nk/\s60=.int .i64 (j:Int)/\Hid (MLp 68 wc wx h cy v6 (m.ctls.take j) ys))
  case atStart=>exact⟨0,.slice none 0 0,[],by omega,rfl,hide ⟨Fr.refl _ _,by have:=HTh.out.blk;rw[<-Hcy.out] at this ⊢;exact this,World.ownsRow_nil _ _ _ _,rfl⟩⟩
  case round=>
   obtain⟨j,v6,ys,hjg,rfl,hL⟩:=hrel
   clear kc
   have kr:wr.cell? ⟨p1,31,none⟩=some (.slice D nk dc):=(hL.out.fr.cell (p:=⟨p1,31,none⟩) (Nat.lt_of_lt_of_le Hpl.out.1 hsc) (fun e=>by have e1:p1=h:=e;have:=HTh.out.le;have:=Hpl.out.1;omega)).trans ((HBc.out.cell (p:=⟨p1,31,none⟩) Hpl.out.1).trans (HB1.out.cells 31 _ (by rw[<-Hcs.out,<-Hnk.out];rfl)))
   cases gk with
   | zero=>
    obtain rfl:j=nk:=by omega
    have hjz:¬((j:Int)<(j:Int)):=by omega
    have htk:m.ctls.take j=m.ctls:=List.take_of_length_le (by rw[Hnk.out];exact Nat.le_refl _)
    rw[htk] at hL
    have hle:=HTh.out.le
    have hfr:=hL.out.fr
    have HBr:=hide (HB2.out.fr (Fr.of (X:=fun _=>False) HBc.out) id |>.fr hfr (by have:=Hpl.out.2;omega))
    have hbw:Below w2.heap.size wc wr:=hfr.below hsc (fun k q=>by omega)
    have HBw:=hide (HBc.out.trans hbw)
    obtain⟨cz,hcz⟩:∃cz,cy.set 31 v6=cz:=⟨_,rfl⟩
    have hBl:=hL.out.blk
    rw[hcz] at hBl
    have HBl:=hide hBl
    have hnz:cz.length=32:=by rw[<-hcz,List.length_set,Hny.out]
    have hcz2:mcells m g0 g1 g2 g3 g4 g5 g6 (.slice A1 n1 c1) (.slice A2 n2 c2) (.slice A3 n3 c3) (.slice A4 n4 c4) v6=cz:=by rw[<-hcz,<-Hcy.out];rfl
    have hkt:repL elC wr (fun k=>k≠p2/\k<wr.heap.size) m.ctls v6:=by
     obtain⟨A',c',e',_,h2⟩:=zA5 hL.out.own
     exact⟨A',c',ys,e',by rw[Hnk.out];exact hnk5,h2.move (fun _ _=>rfl) (fun k hk=>⟨by have:=hk.1;have:=Hpl.out.2;omega,hk.2⟩),rowC_any hL.out.row⟩
    have hXr:MReps wr (fun k=>k≠p2/\k<wr.heap.size) m f0 f1 f2 f3 f4 f5 f6 (.slice A1 n1 c1) (.slice A2 n2 c2) (.slice A3 n3 c3) (.slice A4 n4 c4) (.slice D m.ctls.length dc):=HX2.out.move (fun p hp=>HBw.out.cell (by have h4:p.block<w.heap.size:=hp;have:=Hpw.out.2.2;omega)) (fun k hk=>⟨by have h4:k<w.heap.size:=hk;have:=Hpw.out.1;omega,by have h4:k<w.heap.size:=hk;have:=Hpw.out.2.2;have:=HBw.out.size;omega⟩)
    have hfl:FInP wr (fun k=>k≠p2/\k<wr.heap.size) m.filt [g0,g1,g2,g3,g4,g5,g6]:=HTh.out.filt.move (fun p hp=>hfr.cell hp.2.2 hp.2.1) (fun k hk=>⟨by have:=hk.1;have:=Hpl.out.2;omega,Nat.lt_of_lt_of_le hk.2.2 hfr.size⟩)
    have hrp:MReps wr (fun k=>k≠p2/\k<wr.heap.size) m g0 g1 g2 g3 g4 g5 g6 (.slice A1 n1 c1) (.slice A2 n2 c2) (.slice A3 n3 c3) (.slice A4 n4 c4) v6:=⟨hfl,hXr.attrs,hXr.lst,hXr.chs,hXr.refs,hkt⟩
    have h1z:∀u∈cz,u.oneCell'=true:=by rw[<-hcz2];exact hrp.one
    have Hrp:=hide hrp
    have Hcz:=hide hcz2
    have H1z:=hide h1z
    clear hcz hcz2 hBl hkt hXr hfl hrp h1z hbw hfr HD Hrow htk kr hL HTh HX2 HB1 HB2
    obtain⟨wz,hwz⟩:∃wz,wr.setCells p2 0 cz=wz:=⟨_,rfl⟩
    have Hwz:=hide hwz
    clear hwz
    go_wp2_with (first | (refine loadMR rfl (.tmp 3) rfl h rfl cz HBl.out hnz ?_) | (refine storeToR wr rfl (.tmp 2) (.tmp 74) rfl p2 zeroCells cz rfl rfl HBr.out rfl hnz H1z.out wz Hwz.out ?_))
    have hwz:=Hwz.out.symm
    have hfz:Fr (fun k=>k=p2) wr wz:=by rw[hwz];exact Fr.setCells _ p2 0 cz rfl
    have hBz:Blk wz p2 cz:=by rw[hwz];exact blk_sets32 HBr.out rfl hnz
    refine bodyPost_ret (v:=.agg cz.toArray) ?_ rfl ?_
    ·exact results_msgR rfl _ wz p2 cz rfl hBz.range hnz
    ·have hb9:Below w.heap.size wr wz:=hfz.below (Nat.le_trans Hpw.out.2.2 HBw.out.size) (fun k q=>by rw[q];exact Hpw.out.1)
     refine⟨⟨_,rfl,⟨g0,g1,g2,g3,g4,g5,g6,_,_,_,_,v6,by rw[Hcz.out],Hrp.out.move (fun p hp=>hfz.cell hp.2 hp.1) (fun k hk=>Nat.lt_of_lt_of_le hk.2 hfz.size)⟩,HB.out.trans ((HBw.out.mono Hpw.out.2.2).trans hb9)⟩⟩
   | succ r=>
    have hj:j<nk:=by omega
    have hjz:(j:Int)<(nk:Int):=by omega
    obtain⟨c,hc⟩:∃c,m.ctls[j]?=some c:=⟨_,List.getElem?_eq_getElem (by rw[Hnk.out];exact hj)⟩
    obtain⟨gg,oo,hDe,hgg,hparts⟩:=zBc HD.out Hrow.out (by decide) (fun e=>by rw[e] at hc;simp at hc)
    subst hDe
    obtain⟨cc,hcc,hcell⟩:=hparts j c hc
    simp only[elC] at hcc hcell
    subst hcc
    have htk:m.ctls.take (j+1)=m.ctls.take j++[c]:=by rw[List.take_add_one,hc];rfl
    have hLl:(m.ctls.take j).length=j:=by rw[List.length_take,Hnk.out];omega
    have hle:=HTh.out.le
    have hg2:gg<w2.heap.size:=Nat.lt_of_lt_of_le hgg Hpw.out.2.2
    have KR:Hid (∀W,Below wc.heap.size wr.drew W->W.rangeAt gg (oo+j*4) [.string (txt c.oid),.bool c.crit,.bool c.hasv,.string (txt c.value)]):=hide fun W hW i u hu=>by
     have h1:=hcell i u hu
     have h2:=(HBc.out.cell (p:=⟨gg,oo+j*4+i,none⟩) hg2).trans h1
     have h3:=(hL.out.fr.cell (p:=⟨gg,oo+j*4+i,none⟩) (Nat.lt_of_lt_of_le hg2 hsc) (fun e=>by have e1:gg=h:=e;omega)).trans h2
     exact (hW.cell (p:=⟨gg,oo+j*4+i,none⟩) (Nat.lt_of_lt_of_le hg2 hsc)).trans h3
    have KP:Hid (∀W,Below wc.heap.size wr.drew W->W.cell? ⟨p1,31,none⟩=some (.slice (some ⟨gg,oo,none⟩) nk dc)):=hide fun W hW=>(hW.cell (p:=⟨p1,31,none⟩) (Nat.lt_of_lt_of_le Hpl.out.1 hsc)).trans kr
    have h31:wr.cell? ⟨h,31,none⟩=some v6:=hL.out.blk.cells 31 v6 (by rw[List.getElem?_set_self (by rw[Hny.out];decide)])
    have KH:Hid (∀W,Below wc.heap.size wr.drew W->W.cell? ⟨h,31,none⟩=some v6):=hide fun W hW=>(hW.cell (p:=⟨h,31,none⟩) hltc).trans h31
    have HLd:=hL
    have Htk:=hide htk
    have HLl:=hide hLl
    have hsw:=hL.out.fr.size
    have hsd:wc.heap.size<=wr.drew.heap.size:=hsw
    have HdF:Hid (Fr (fun _=>False) wr wr.drew):=hide (Fr.drew _ _)
    have HdB:Hid (Below wr.heap.size wr wr.drew):=hide (Below.refl _ _).drew
    clear HD Hrow hc hparts hcell htk hLl hL kr h31 HX2 HB1 HB2 HBc
    go_wp2_with fail
    refine grow_begin_atL wc.heap.size 10 (by kernel_rfl) ?_
    generalize wr.drew=wd at *
    refine zAl 0 (some 63) rfl rfl (by kernel_rfl) rfl (by kernel_rfl) (by rfl) (fun W hW=>by go_simp<;>with_reducible rfl) ?_
    try simp only[pU]
    refine zAl 1 (some 64) (v:=v6) rfl rfl (by kernel_rfl) rfl (by kernel_rfl) (by rfl) (fun W hW=>?yl1) ?_
    case yl1=>
     exact zAd _ _ _ rfl h 31 rfl _ (loadRC W _ _ (KH.out W hW))
    try simp only[pU]
    refine zAl 2 (some 65) rfl rfl (by kernel_rfl) rfl (by kernel_rfl) (by rfl) (fun W hW=>by go_simp<;>with_reducible rfl) ?_
    try simp only[pU]
    refine zAl 3 (some 66) (v:=.slice (some ⟨gg,oo,none⟩) nk dc) rfl rfl (by kernel_rfl) rfl (by kernel_rfl) (by rfl) (fun W hW=>?yl3) ?_
    case yl3=>
     exact zAd _ _ _ rfl p1 31 rfl _ (loadC W _ _ (KP.out W hW))
    try simp only[pU]
    refine zAl 4 (some 67) rfl rfl (by kernel_rfl) rfl (by kernel_rfl) (by rfl) (fun W hW=>by go_simp<;>with_reducible rfl) ?_
    try simp only[pU]
    refine zAl 5 (some 68) rfl rfl (by kernel_rfl) rfl (by kernel_rfl) (by rfl) (fun W hW=>by go_simp<;>with_reducible rfl) ?_
    try simp only[pU]
    refine zAl 6 (some 69) (v:=.agg #[.string (txt c.oid),.bool c.crit,.bool c.hasv,.string (txt c.value)]) rfl rfl (by kernel_rfl) rfl (by kernel_rfl) (by rfl) (fun W hW=>?yl6) ?_
    case yl6=>
     exact zAd _ _ _ rfl gg (oo+j*4) rfl _ (run_loadVar_mid W gg (oo+j*4) 67 _ _ (KR.out W hW) Tryz.underlying67 rfl (by kernel_rfl))
    try simp only[pU]
    refine zBe 7 rfl (by kernel_rfl) (fun K hK=>?_)
    go_simp
    have hb8:Below wc.heap.size wd (wd.alloc (.cells #[.string (txt c.oid),.bool c.crit,.bool c.hasv,.string (txt c.value)] 68)):=(Below.refl _ _).alloc hsd _
    have hlit:=World.ownsRow_lit (e:=68) (size:=4) wd #[.string (txt c.oid),.bool c.crit,.bool c.hasv,.string (txt c.value)] 1 (Nat.le_refl _) (by unfold maxLen;omega) rfl
    have hOw8:=(zAo HLd.out.own HdB.out).alloc (.cells #[.string (txt c.oid),.bool c.crit,.bool c.hasv,.string (txt c.value)] 68)
    have hs8:=Nat.le_trans hsd hb8.size
    refine hK.out _ _ (fun _=>hb8) ?_
    clear hK K hb8
    try simp only[pU]
    refine zBe 8 rfl (by kernel_rfl) (fun K hK=>?_)
    rw[HLl.out] at hOw8
    refine stepA _ 28 68 _ 4 40 Tryz.underlying28 infoCR rfl (by omega) (by omega) (some 71) rfl rfl (.tmp 64) (.tmp 70) rfl wc.heap.size _ j ys rfl hOw8 _ _ 1 1 (ctCells c) rfl (Has.own hlit) (by intro u hu;simp only[ctCells,List.mem_cons,List.not_mem_nil,or_false] at hu;rcases hu with rfl | rfl | rfl | rfl<;>rfl) (by omega) hs8 ?_
    intro v9 w9 hown9 hb9 hg9 ht9
    have hN:=MLp.next (c:=c) HdF.out HLd.out hltc Hny.out (by rw[HLl.out];exact hown9) hg9
    have h1c:=own_one hown9
    obtain⟨A9,d9,hv9,_,_⟩:=own_form hown9
    subst hv9
    have hblk9:Blk w9 h (cy.set 31 v6):=blk_same (HLd.out.blk.fr HdF.out id) (Nat.le_trans (by simp) hg9.size) ((hg9.block h (by have:h<wd.heap.size:=Nat.lt_of_lt_of_le hltc hsd;simp;omega) (fun e=>by have:=(HLd.out.own.lt h e.symm).1;omega)).trans (heap_alloc_old wd _ (Nat.lt_of_lt_of_le hltc hsd)))
    have o31:w9.cell? ⟨h,31,none⟩=some v6:=hblk9.cells 31 v6 (by rw[List.getElem?_set_self (by rw[Hny.out];decide)])
    have f31:w9.frozen? ⟨h,31,none⟩=false:=hblk9.fz 31
    have HN:=hide hN
    refine hK.out _ _ (fun _=>hb9) ?_
    clear hK K hown9 hb9 hg9 ht9 hN hlit hOw8 hs8 h1c hblk9
    try simp only[pU]
    refine zAl 9 (some 72) rfl rfl (by kernel_rfl) rfl (by kernel_rfl) (by rfl) (fun W hW=>by go_simp<;>with_reducible rfl) ?_
    try simp only[pU]
    refine zBe 10 rfl (by kernel_rfl) (fun K hK=>?_)
    go_simp
    refine hK.out _ _ (fun h=>absurd rfl h) ?_
    clear hK K o31 f31
    try simp only[pU]
    refine grow_doneL (by kernel_rfl) ?_ _
    have hrel2:=HN.out
    rw[<-Htk.out] at hrel2
    go_wp2
    go_roundg r
    case measure=>omega
    case rel=>exact⟨j+1,_,_,by omega,by go_num,hide hrel2⟩
end Go.Proofs.YtcpjmgfloimfhaaGreat
