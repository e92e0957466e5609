/- What the statements on paths ask of first: the program's answer. By an AI agent. -/
import Derived.Test.YtlfglibcggphjaaGreatDoorKFAwM
import Derived.Test.YtlfglibcggphjaaGreatDoorKFPath
set_option linter.unusedSimpArgs false
set_option linter.unusedVariables false
set_option maxRecDepth 100000
set_option maxHeartbeats 16000000
namespace Go.Proofs.YtlfglibcggphjaaGreatDoor
open Go Go.RowKit
theorem Blk.hasP {w:World} {h size n:Nat} {us:List Value} (t:Blk w h us) (hn:us.length=n*size):HasP w (fun b=>b<w.heap.size) size (some ⟨h,0,none⟩) n us:=
 ⟨hn,.inr ⟨⟨h,0,none⟩,rfl,t.lt,fun j u hu=>by
  have:=t.cells j u hu
  rw[show (⟨h,0,none⟩:Addr).add j=⟨h,j,none⟩ by simp[Addr.add];try omega]
  exact this⟩⟩
theorem aw_cfg {w w1 w2 w3 w4:World} {s:Nat} {S:ByteArray} {e1 e2 e3 e4:TypeId} (hs:w.heap.size=s) (hS:txt dcxK=S) (h1:w.alloc (.cells #[.string S,.slice none 0 0,.slice none 0 0] e1)=w1) (h2:w1.alloc (.cells #[.slice none 0 0,.slice (some ⟨s,0,none⟩) 1 1] e2)=w2)
  (h3:w2.alloc (.cells #[.string S,.int .i64 1] e3)=w3) (h4:w3.alloc (.cells #[.slice (some ⟨s+1,0,none⟩) 2 2,.slice (some ⟨s+1+1,0,none⟩) 1 1] e4)=w4):
  Below w.heap.size w w4/\Blk w4 (s+1+1+1) [.slice (some ⟨s+1,0,none⟩) 2 2,.slice (some ⟨s+1+1,0,none⟩) 1 1]/\CfgR w4 (some ⟨s+1,0,none⟩) 2 (some ⟨s+1+1,0,none⟩) 1 awLK awTK:=by
 have b1:=below1 w (.cells #[.string S,.slice none 0 0,.slice none 0 0] e1);have B1:Blk (w.alloc (.cells #[.string S,.slice none 0 0,.slice none 0 0] e1)) w.heap.size [.string S,.slice none 0 0,.slice none 0 0]:=Blk.new w [.string S,.slice none 0 0,.slice none 0 0] e1;have z1:(w.alloc (.cells #[.string S,.slice none 0 0,.slice none 0 0] e1)).heap.size=s+1:=by simp[hs]
 rw[h1] at b1 B1 z1;have b2:=below1 w1 (.cells #[.slice none 0 0,.slice (some ⟨s,0,none⟩) 1 1] e2);have B2:Blk (w1.alloc (.cells #[.slice none 0 0,.slice (some ⟨s,0,none⟩) 1 1] e2)) w1.heap.size [.slice none 0 0,.slice (some ⟨s,0,none⟩) 1 1]:=Blk.new w1 [.slice none 0 0,.slice (some ⟨s,0,none⟩) 1 1] e2;have z2:(w1.alloc (.cells #[.slice none 0 0,.slice (some ⟨s,0,none⟩) 1 1] e2)).heap.size=s+1+1:=by simp[z1]
 rw[h2] at b2 B2 z2;have b3:=below1 w2 (.cells #[.string S,.int .i64 1] e3);have B3:Blk (w2.alloc (.cells #[.string S,.int .i64 1] e3)) w2.heap.size [.string S,.int .i64 1]:=Blk.new w2 [.string S,.int .i64 1] e3;have z3:(w2.alloc (.cells #[.string S,.int .i64 1] e3)).heap.size=s+1+1+1:=by simp[z2]
 rw[h3] at b3 B3 z3;have b4:=below1 w3 (.cells #[.slice (some ⟨s+1,0,none⟩) 2 2,.slice (some ⟨s+1+1,0,none⟩) 1 1] e4);have B4:Blk (w3.alloc (.cells #[.slice (some ⟨s+1,0,none⟩) 2 2,.slice (some ⟨s+1+1,0,none⟩) 1 1] e4)) w3.heap.size [.slice (some ⟨s+1,0,none⟩) 2 2,.slice (some ⟨s+1+1,0,none⟩) 1 1]:=Blk.new w3 [.slice (some ⟨s+1,0,none⟩) 2 2,.slice (some ⟨s+1+1,0,none⟩) 1 1] e4;rw[h4] at b4 B4;rw[hs] at B1;rw[z1] at B2;rw[z2] at B3;rw[z3] at B4;have C1:=((B1.grow b2).grow b3).grow b4;have C2:=(B2.grow b3).grow b4;have C3:=B3.grow b4;have b12:=b1.trans (b2.mono b1.size);have b13:=b12.trans (b3.mono b12.size);refine⟨b13.trans (b4.mono b13.size),B4,⟨⟨_,C2.hasP (n:=2) (size:=1) rfl,⟨rfl,fun i x hx=>?_⟩,?_⟩⟩⟩
 ·match i,hx with
  | 0,hx=>
   obtain rfl:=Option.some.inj hx;exact⟨none,0,[],rfl,HasP.nil,CXsP.nil⟩
  | 1,hx=>
   obtain rfl:=Option.some.inj hx;refine⟨some ⟨s,0,none⟩,1,_,rfl,C1.hasP (n:=1) (size:=3) rfl,⟨rfl,fun k y hy=>?_⟩⟩
   match k,hy with
   | 0,hy=>
    obtain rfl:=Option.some.inj hy;exact⟨none,0,[],none,0,by rw[hS];rfl,rfl,rfl,HasP.nil,ENsP.nil,HasP.nil⟩
   | k+1,hy=>simp at hy
  | n+2,hx=>simp[awLK] at hx
 ·have:=C3.hasP (n:=1) (size:=2) rfl;rw[<-hS] at this;exact this
theorem aw_wide:CfgW awLK awTK:=by
 refine⟨by decide,fun x hx=>?_,by decide,fun z hz=>?_⟩
 ·rcases List.mem_cons.1 hx with rfl | hx
  ·exact ⟨by decide,fun y hy=>by cases hy⟩
  ·obtain rfl:=List.mem_singleton.1 hx;refine⟨by decide,fun y hy=>?_⟩;obtain rfl:=List.mem_singleton.1 hy;exact⟨by decide,by decide,fun z hz=>by cases hz⟩
 ·obtain rfl:=List.mem_singleton.1 hz;decide
theorem zEl {w:World} {A:Option Addr} {L:List Nat} {n:Nat} (h:HasP w (fun b=>b<w.heap.size) 1 A n (intsV L)) (hne:L≠[]):∃g o,A=some ⟨g,o,none⟩/\g<w.heap.size/\∀(i x:Nat),L[i]?=some x->w.cell? ⟨g,o+i,none⟩=some (.int .i64 (x:Int)):=by
 have hB:=h.has (B:=w.heap.size) fun b hb=>hb
 obtain⟨g,o,rfl,hg,hc⟩:=hB.lies (by unfold intsV;rw[List.length_map];exact List.length_pos_iff.2 hne);exact⟨g,o,rfl,hg,fun i x hx=>hc _ _ (by unfold intsV;rw[List.getElem?_map,hx];rfl)⟩
theorem zIb (w:World) (hT:TM w):Calls Tryz.prog 4 #[] w fun e w'=>e=.returned (.bool true)/\Below w.heap.size w w':=by
 suffices H:Calls Tryz.prog 4 #[] w fun e w'=>Hid (e=.returned (.bool true)/\Below w.heap.size w w') from H.mono fun e w' h=>h.out
 obtain⟨s,hs⟩:∃s,w.heap.size=s:=⟨_,rfl⟩;have hS:txt dcxK={ data:=#[100,99,61,120] }:=rfl;obtain⟨w1,h1⟩:∃z,w.alloc (.cells #[.string { data:=#[100,99,61,120] },.slice none 0 0,.slice none 0 0] 45)=z:=⟨_,rfl⟩;obtain⟨w2,h2⟩:∃z,w1.alloc (.cells #[.slice none 0 0,.slice (some ⟨s,0,none⟩) 1 1] 42)=z:=⟨_,rfl⟩;obtain⟨w3,h3⟩:∃z,w2.alloc (.cells #[.string { data:=#[100,99,61,120] },.int .i64 1] 47)=z:=⟨_,rfl⟩;obtain⟨w4,h4⟩:∃z,w3.alloc (.cells #[.slice (some ⟨s+1,0,none⟩) 2 2,.slice (some ⟨s+1+1,0,none⟩) 1 1] 34)=z:=⟨_,rfl⟩;obtain⟨hb,hB,hC⟩:=aw_cfg hs hS h1 h2 h3 h4;have HB:=hide hb;have HP:Hid (Calls Tryz.prog 6 #[.agg #[.slice (some ⟨s+1,0,none⟩) 2 2,.slice (some ⟨s+1+1,0,none⟩) 1 1],.int .i64 0,.string { data:=#[99,110,61,97,44,100,99,61,120] }] w4 (PathI ([0,1],0) w4)):=hide (by
  have:=zFw awLK awTK caxK 0 w4 _ 2 2 _ 1 1 hC aw_wide (by decide) (hT.below hb)
  rw[path_awK] at this
  exact this)
 have x0:=hB.cells 0 _ rfl;have x1:=hB.cells 1 _ rfl;have Hw1:=hide h1;have Hw2:=hide h2;have Hw3:=hide h3;have Hw4:=hide h4;have Hs:=hide hs;clear hb hB hC h1 h2 h3 h4 hS hT hs;go_enter Tryz.func4,Tryz.ntmps4;go_upto_region 2 with fail;rw[Hs.out,Hw1.out,Hw2.out,Hw3.out,Hw4.out];clear Hs Hw1 Hw2 Hw3 Hw4;go_wp2_with (go_at_call 6;fail);refine HP.out.mono ?_;rintro e w5 hp;obtain⟨A,c,rfl,hc,hm,hH,hb⟩:=hp.out;obtain⟨g,o,hAe,hg,hat⟩:=zEl (L:=[0,1]) hH (by simp);subst hAe;have c1:=hat 1 1 rfl;have HE:=hTz HB hb;clear hp hH hb hat HP HB hg;go_wp2;go_ret;exact hide ⟨rfl,HE.out⟩
end Go.Proofs.YtlfglibcggphjaaGreatDoor
