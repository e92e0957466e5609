/- Where a name is held, and who is nearer: the program's Held and Nearer. By an AI agent. -/
import Derived.Test.YtlfglibcggphjaaGreatDoorKFLow
set_option linter.unusedSimpArgs false
set_option linter.unusedVariables false
set_option maxRecDepth 100000
set_option maxHeartbeats 16000000
namespace Go.Proofs.YtlfglibcggphjaaGreatDoor
open Go Go.RowKit
structure CfgW (L:List (List CX)) (Top:List CT):Prop where
 len:L.length<=2000000
 each:∀x∈L,x.length<=2000000/\∀y∈x,y.1.length<=1048576/\y.2.2.length<=2000000/\∀z∈y.2.2,z.1.length<=1048576
 top:Top.length<=2000000/\∀z∈Top,z.1.length<=1048576
noncomputable def srvV (nm:List UInt8) (L:List CT):Int × Bool:=if (lowV nm (ctNames L)).2=true then ((L.getD (lowV nm (ctNames L)).1 ([],0)).2,true) else (0,false)
theorem zCc (nm:List UInt8) (L:List CT) (w:World) (A:Option Addr) (n c:Nat) (hA:HasP w (fun b=>b<w.heap.size) 2 A n (cutsV L)) (hn:n<=2000000) (hnm:nm.length<=1000000) (hw:∀x∈L,x.1.length<=1048576) (hT:TM w):
  Calls Tryz.prog 21 #[.slice A n c,.string (txt nm)] w (LowPost (lowV nm (ctNames L)) w):=by
 suffices H:Calls Tryz.prog 21 #[.slice A n c,.string (txt nm)] w fun e w'=>Hid (LowPost (lowV nm (ctNames L)) w e w') from H.mono fun e w' h=>h.out
 have HC:=hide (zIz nm L w A n c hA hn hnm hw hT);generalize lowV nm (ctNames L)=R at *;generalize txt nm=S at *;clear hA hw hT hnm hn;go_enter Tryz.func21,Tryz.ntmps21;go_wp2_with (go_at_call 28;fail);refine HC.out.mono ?_;rintro e w2 hp;obtain⟨rfl,hb⟩:=hp.out;have HB:=hide hb;clear hp hb HC;go_wp2;go_ret2;exact hide ⟨rfl,HB.out⟩
theorem zCa (nm:List UInt8) (L:List CX) (w:World) (A:Option Addr) (n c:Nat) (xs:List Value) (hA:HasP w (fun b=>b<w.heap.size) 3 A n xs) (hL:CXsP w (fun b=>b<w.heap.size) xs L) (hn:n<=2000000) (hnm:nm.length<=1000000) (hw:∀x∈L,x.1.length<=1048576) (hT:TM w):
  Calls Tryz.prog 16 #[.slice A n c,.string (txt nm)] w (LowPost (lowV nm (cxNames L)) w):=by
 suffices H:Calls Tryz.prog 16 #[.slice A n c,.string (txt nm)] w fun e w'=>Hid (LowPost (lowV nm (cxNames L)) w e w') from H.mono fun e w' h=>h.out
 have HC:=hide (zI9 nm L w A n c xs hA hL hn hnm hw hT);generalize lowV nm (cxNames L)=R at *;generalize txt nm=S at *;clear hA hL hw hT hnm hn;go_enter Tryz.func16,Tryz.ntmps16;go_wp2_with (go_at_call 23;fail);refine HC.out.mono ?_;rintro e w2 hp;obtain⟨rfl,hb⟩:=hp.out;have HB:=hide hb;clear hp hb HC;go_wp2;go_ret2;exact hide ⟨rfl,HB.out⟩
structure SrvPost (r:Int × Bool) (w:World) (e:Ending) (w':World):Prop where
 out:e=.returned (.tuple #[.int .i64 r.1,.bool r.2])/\Below w.heap.size w w'
theorem zDd (nm:List UInt8) (L:List CT) (w:World) (A:Option Addr) (n c:Nat) (hA:HasP w (fun b=>b<w.heap.size) 2 A n (cutsV L)) (hn:n<=2000000) (hnm:nm.length<=1000000) (hw:∀x∈L,x.1.length<=1048576) (hT:TM w):
  Calls Tryz.prog 17 #[.slice A n c,.string (txt nm)] w (SrvPost (srvV nm L) w):=by
 suffices H:Calls Tryz.prog 17 #[.slice A n c,.string (txt nm)] w fun e w'=>Hid (SrvPost (srvV nm L) w e w') from H.mono fun e w' h=>h.out
 have HC:=hide (zCc nm L w A n c hA hn hnm hw hT);have hnl:=hA.cuts_n;obtain⟨⟨a,b⟩,hR⟩:∃R,lowV nm (ctNames L)=R:=⟨_,rfl⟩;have hlt:=zGk (nm:=nm) (L:=ctNames L);have hS:srvV nm L=if b=true then ((L.getD a ([],0)).2,true) else (0,false):=by unfold srvV;rw[hR]
 rw[hR] at HC hlt;have HA:=hide hA;have HS:=hide hS;have Hlt:=hide hlt;have Hnl:=hide hnl;generalize txt nm=S at *;clear hA hw hT hnm hS hlt hnl hR;go_enter Tryz.func17,Tryz.ntmps17;go_wp2_with (go_at_call 21;fail);refine HC.out.mono ?_;rintro e w2 hp;obtain⟨rfl,hb⟩:=hp.out;have HB:=hide hb;clear hp HC;cases b with
 | false=>
  have hE:Hid (SrvPost (srvV nm L) w (.returned (.tuple #[.int .i64 0,.bool false])) w2):=hide ⟨by rw[HS.out];exact⟨rfl,HB.out⟩⟩;clear hb HA HS Hlt Hnl HB;go_wp2;go_ret2;exact hE
 | true=>
  have hal:a<n:=by have:=Hlt.out rfl;unfold ctNames at this;rw[List.length_map] at this;rw[Hnl.out];exact this
  have hz:(a:Int)<(n:Int):=by omega
  obtain⟨x,hx⟩:∃x,L[a]?=some x:=⟨_,List.getElem?_eq_getElem (by rw[<-Hnl.out];exact hal)⟩;obtain⟨g,o,hAe,hg,hat⟩:=HA.out.cuts (fun h=>by rw[h] at hx;simp at hx);subst hAe;have c1:=(hb.cell (p:=⟨g,o+a*2+1,none⟩) hg).trans (hat a x hx).2;have hE:Hid (SrvPost (srvV nm L) w (.returned (.tuple #[.int .i64 x.2,.bool true])) w2):=hide ⟨by
   rw[HS.out,if_pos rfl,List.getD_eq_getElem?_getD,hx]
   exact⟨rfl,HB.out⟩⟩
  generalize x.2=sv at *;clear hb HA HS Hlt Hnl HB hat hg hx;go_wp2;go_ret2;exact hE
def thereB (n:Nat) (s:Int):Bool:=decide (0<=s/\s<(n:Int))
theorem zB9 (w:World) (A:Option Addr) (n c:Nat) (T:Option Addr) (m d:Nat) (s:Int) (hn:n<=2000000):
  Calls Tryz.prog 12 #[.agg #[.slice A n c,.slice T m d],.int .i64 s] w fun e w'=>e=.returned (.bool (thereB n s))/\Below w.heap.size w w':=by
 have hb1:=below1 w (.cells #[.slice A n c,.slice T m d] 34);have hX:Blk (w.alloc (.cells #[.slice A n c,.slice T m d] 34)) w.heap.size [.slice A n c,.slice T m d]:=Blk.new w [.slice A n c,.slice T m d] 34;obtain⟨w1,hw1⟩:∃w1,w.alloc (.cells #[.slice A n c,.slice T m d] 34)=w1:=⟨_,rfl⟩;rw[hw1] at hb1 hX;have x0:=hX.cells 0 _ rfl;have HB:=hide hb1;have Hw1:=hide hw1;clear hb1 hX hw1;go_enter Tryz.func12,Tryz.ntmps12;go_upto_region 1 with fail;rw[Hw1.out];clear Hw1;obtain⟨h,hh⟩:∃h,w.heap.size=h:=⟨_,rfl⟩;rw[hh] at x0;(try rw[hh]);have HBh:Hid (Below h w w1):=hide (by rw[<-hh];exact HB.out);clear hh;by_cases h1:0<=s
 ·by_cases h2:s<(n:Int)
  ·have hd:thereB n s=true:=decide_eq_true ⟨h1,h2⟩;go_wp2;go_ret;exact⟨by first | rfl | (rw[hd];rfl) | simp[hd],by first | exact HB.out | exact HBh.out⟩
  ·have hd:thereB n s=false:=decide_eq_false (fun h=>h2 h.2);go_wp2;go_ret;exact⟨by first | rfl | (rw[hd];rfl) | simp[hd],by first | exact HB.out | exact HBh.out⟩
 ·have hd:thereB n s=false:=decide_eq_false (fun h=>h1 h.1);go_wp2;go_ret;exact⟨by first | rfl | (rw[hd];rfl) | simp[hd],by first | exact HB.out | exact HBh.out⟩
end Go.Proofs.YtlfglibcggphjaaGreatDoor
