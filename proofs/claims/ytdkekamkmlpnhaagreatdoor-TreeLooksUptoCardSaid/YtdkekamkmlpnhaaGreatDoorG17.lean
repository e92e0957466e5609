/- The tree's copy of an entry: the same, all in new memory. By an AI agent. -/
import Derived.Lib.AppendZeros
import Derived.Test.YtdkekamkmlpnhaaGreatDoorEN
import Derived.Test.YtdkekamkmlpnhaaGreatDoorEY
import Derived.Test.YtdkekamkmlpnhaaGreatDoorEX
import Derived.Test.YtdkekamkmlpnhaaGreatDoorMI
import Derived.Test.YtdkekamkmlpnhaaGreatDoorGrow
set_option linter.unusedSimpArgs false
set_option linter.unusedVariables false
set_option maxRecDepth 100000
set_option maxHeartbeats 64000000
namespace Go.Proofs.YtdkekamkmlpnhaaGreatDoor
open Go Go.RowKit
theorem makeEA (w:World) (n:Nat) (hn:n<=1000000):
  ∃w',(Instr.makeSlice 36 (.int .i64 0) (.int .i64 (n:Int))).run Tryz.prog w=.ok (.slice (some ⟨w.heap.size,0,none⟩) 0 n) w'/\
   w'.ownsRow w.heap.size 60 2 (.slice (some ⟨w.heap.size,0,none⟩) 0 n) 0 []/\Below w.heap.size w w':=by
 obtain⟨i0,hi,hz0,hz1,hz2⟩:=info_parts infoEA;obtain⟨w',h1,h2,h3⟩:=run_make_own (P:=Tryz.prog) w w.heap.size 36 60 i0 (.agg #[.string .empty,.slice none 0 0]) 2 Tryz.underlying36 hi hz0 hz1 .i64 .i64 n (by rw[hz2];omega) (by unfold maxLen;omega) (Nat.le_refl _);exact⟨w',h1,h2,(Below.refl _ _).grown h3 (Nat.le_refl _) (fun g hg=>by cases hg)⟩
theorem zCh (nm:List UInt8) (L:List EA) (w:World) (A:Option Addr) (n c:Nat) (xs:List Value) (hA:Has w w.heap.size 2 A n xs) (hL:EAs w w.heap.size xs L) (hn:n<=1000000) (hnm:nm.length<=1048576) (hvs:∀a∈L,a.1.length<=1048576/\a.2.length<=1000000/\∀u∈a.2,u.length<=1048576):
  Calls Tryz.prog 27 #[.agg #[.string (txt nm),.slice A n c]] w (EntPost (nm,L) w):=by
 suffices H:Calls Tryz.prog 27 #[.agg #[.string (txt nm),.slice A n c]] w fun e w'=>Hid (EntPost (nm,L) w e w') from H.mono fun e w' h=>h.out
 have hnl:=hA.eas_n hL;have HCl:=hide (fun w=>zBy (txt nm) (by rw[zAg];omega) w);obtain⟨S,hS⟩:∃x,txt nm=x:=⟨_,rfl⟩;rw[hS] at HCl ⊢;have HS:=hide hS;clear hS hnm;have hb1:=below1 w (.cells #[.string S,.slice A n c] 38);have hX:Blk (w.alloc (.cells #[.string S,.slice A n c] 38)) w.heap.size [.string S,.slice A n c]:=Blk.new w [.string S,.slice A n c] 38;obtain⟨w1,hw1⟩:∃w1,w.alloc (.cells #[.string S,.slice A n c] 38)=w1:=⟨_,rfl⟩;have hs1:w1.heap.size=w.heap.size+1:=by rw[<-hw1];simp
 rw[hw1] at hb1 hX;have hb2:=below1 w1 (.cells #[.string ⟨#[]⟩,.slice none 0 0] 38);have hY:Blk (w1.alloc (.cells #[.string ⟨#[]⟩,.slice none 0 0] 38)) w1.heap.size [.string ⟨#[]⟩,.slice none 0 0]:=Blk.new w1 [.string ⟨#[]⟩,.slice none 0 0] 38;obtain⟨w2,hw2⟩:∃w2,w1.alloc (.cells #[.string ⟨#[]⟩,.slice none 0 0] 38)=w2:=⟨_,rfl⟩;have hs2:w2.heap.size=w.heap.size+2:=by rw[<-hw2];simp[hs1]
 rw[hw2] at hb2 hY;have hbb:=hb1.trans (hb2.mono hb1.size);have hX2:=hX.grow hb2;obtain⟨wm,hmake,hom,hbm⟩:=makeEA w2 n hn;have HA:=hide ((hA.below hbb).upto hbb.size);have HL:=hide (hL.grow hbb);have HX:=hide hX2;have HY:=hide hY;have HB:=hide hbb;have HBm:=hide hbm;have Hnl:=hide hnl;have Hvs:=hide hvs;have Hw:=hide (And.intro hw1 hw2);have Hs:=hide (And.intro hs1 hs2);have HR0:Hid (RowA wm w2.heap.size 60 (.slice (some ⟨w2.heap.size,0,none⟩) 0 n) [] []):=hide (RowA.start hom);have x1:=hX2.cells 1 _ rfl;have x1m:=(hX2.grow hbm).cells 1 _ rfl;clear hA hL hb1 hX hw1 hs1 hb2 hY hw2 hs2 hbb hX2 hom hbm hnl hvs;go_enter Tryz.func27,Tryz.ntmps27;go_upto_region 1 with fail;rw[Hw.out.1];(try rw[Hs.out.1]);rw[Hw.out.2];rw[Hs.out.1] at HY;have Hlo:Hid (w.heap.size<=w.heap.size+1/\w.heap.size+1<w2.heap.size):=hide ⟨by omega,by rw[Hs.out.2];omega⟩;obtain⟨h1,hh1⟩:∃h,w.heap.size=h:=⟨_,rfl⟩;have HN1:=hide hh1;rw[hh1] at HX HY Hlo x1 x1m;(try rw[hh1]);clear hh1;obtain⟨h2,hh2⟩:∃h,h1+1=h:=⟨_,rfl⟩;rw[hh2] at HY Hlo;(try rw[hh2]);clear hh2 Hw Hs;go_wp2
 go_loopg [3,16] n (fun r s3 s16 wx=>∃(i:Nat) (zs:List Value),i+r=n/\s16=.int .i64 (i:Int)/\Hid (RowA wx w2.heap.size 60 s3 zs (L.take i))/\Hid (Below w2.heap.size w2 wx))
 case atStart=>exact⟨0,[],by omega,rfl,HR0,HBm⟩
 case round=>
  clear HR0 HBm hmake x1 x1m;obtain⟨i,zs,hig,rfl,hR,hBr⟩:=hrel;cases gk with
  | zero=>
   obtain rfl:i=n:=by omega
   have hiz:¬((i:Int)<(i:Int)):=by omega
   have x0:=(HX.out.grow hBr.out).cells 0 _ rfl;have hT:=hR.out;rw[List.take_of_length_le (by rw[<-Hnl.out];exact Nat.le_refl _)] at hT;obtain⟨A3,c3,rfl,hc3,hP3⟩:=zAv hT.own;have hm3:=zAu hT.own;have hE3:=hT.attrs;have HP:=hide (And.intro hc3 (And.intro hm3 (And.intro hP3 hE3)));obtain⟨k3,hk3⟩:∃k,L.length=k:=⟨_,rfl⟩;have Hk3:=hide hk3;rw[hk3];clear hT hc3 hm3 hP3 hE3 hk3 hR HA HL Hvs;go_wp2_with (go_at_call 45;fail);refine (HCl.out wr).mono ?_;rintro e w4 ⟨rfl,hb4⟩;have HY4:=hide ((HY.out.grow hBr.out).grow hb4);have HB4:=hTz hBr hb4;have HP4:Hid (k3<=c3/\c3<=maxLen/\HasP w4 (NewB w2.heap.size w4.heap.size) 2 A3 k3 zs/\EAsP w4 (NewB w2.heap.size w4.heap.size) zs L):=hide (by
    obtain⟨p1,p2,p3,p4⟩:=HP.out
    rw[Hk3.out] at p1 p3
    exact⟨p1,p2,p3.move (fun p hp=>hb4.cell hp.2) fun b hb=>⟨hb.1,Nat.lt_of_lt_of_le hb.2 hb4.size⟩,p4.move (fun p hp=>hb4.cell hp.2.1) fun b hb=>⟨hb.1,Nat.lt_of_lt_of_le hb.2.1 hb4.size⟩⟩)
   have z0:=HY4.out.cells 0 _ rfl;have z1:=HY4.out.cells 1 _ rfl;have hf:=HY4.out.fz;clear hb4 hBr HX HY HCl HP x0;go_wp2;have hfin:Blk ((w4.setCell ⟨h2,0,none⟩ (.string S)).setCell ⟨h2,1,none⟩ (.slice A3 k3 c3)) h2 [.string S,.slice A3 k3 c3]:=(HY4.out.set 0 (.string S) (by simp)).set 1 (.slice A3 k3 c3) (by simp);refine bodyPost_ret (v:=.agg #[.string S,.slice A3 k3 c3]) ?_ rfl ?_
   ·exact zCk rfl _ _ h2 [.string S,.slice A3 k3 c3] _ rfl hfin.range Tryz.underlying38 rfl (by kernel_rfl)
   have hsz:((w4.setCell ⟨h2,0,none⟩ (.string S)).setCell ⟨h2,1,none⟩ (.slice A3 k3 c3)).heap.size=w4.heap.size:=by simp[World.setCell]
   have far:∀p:Addr,NewB w2.heap.size w4.heap.size p.block->((w4.setCell ⟨h2,0,none⟩ (.string S)).setCell ⟨h2,1,none⟩ (.slice A3 k3 c3)).cell? p=w4.cell? p:=fun p hp=>by
    have hne:h2≠p.block:=(by have:=hp.1;have:=Hlo.out.2;omega);rw[World.cell?_setCell_far _ _ _ _ hne,World.cell?_setCell_far _ _ _ _ hne]
   obtain⟨p1,p2,p3,p4⟩:=HP4.out;have hw2:w.heap.size<=w2.heap.size:=HB.out.size;refine hide ⟨⟨A3,c3,zs,by simp only;rw[HS.out,Hk3.out],by simp only;rw[Hk3.out];exact p1,p2,?_,?_,?_⟩⟩
   ·simp only;rw[hsz,Hk3.out];exact p3.move far fun b hb=>⟨Nat.le_trans hw2 hb.1,hb.2⟩
   ·simp only;rw[hsz];exact p4.move far fun b hb=>⟨Nat.le_trans hw2 hb.1,hb.2⟩
   ·have hlow:w.heap.size<=h2:=by have:=Hlo.out.1;rwa [HN1.out]
    exact ((HB.out.trans (HB4.out.mono hw2)).setCell (p:=⟨h2,0,none⟩) hlow _).setCell (p:=⟨h2,1,none⟩) hlow _
  | succ r=>
   obtain⟨wo,rfl⟩:∃wo,wo=wr:=⟨_,rfl⟩;have hi:i<n:=by omega
   have hiz:(i:Int)<(n:Int):=by omega
   obtain⟨a,ha⟩:∃a,L[i]?=some a:=⟨_,List.getElem?_eq_getElem (by rw[<-Hnl.out];exact hi)⟩;have hva:=Hvs.out a (List.mem_of_getElem? ha);obtain⟨g,o,hAe,hg,hat⟩:=HA.out.ea HL.out (fun h=>by rw[h] at ha;simp at ha);obtain⟨V,cv,hat⟩:=hat i a ha;subst hAe;have hat2:=hat.below hg hBr.out;have e0:=hat2.e0;have e1:=hat2.e1;obtain⟨TA,hTA⟩:∃x,txt a.1=x:=⟨_,rfl⟩;obtain⟨k,hk⟩:∃x,a.2.length=x:=⟨_,rfl⟩;have HCa:=hide (fun w=>zBy (txt a.1) (by rw[zAg];have:=hva.1;omega) w);rw[hTA] at e0 HCa;rw[hk] at e1;have HTA:=hide hTA;have Hk:=hide hk;have Htk:Hid (L.take (i+1)=L.take i++[a]):=hide (by rw[List.take_add_one,ha];rfl);have hbx:=below1 wo (.cells #[.string TA,.slice V k cv] 60);have hBx:Blk (wo.alloc (.cells #[.string TA,.slice V k cv] 60)) wo.heap.size [.string TA,.slice V k cv]:=Blk.new wo [.string TA,.slice V k cv] 60;have hVh:Has wo wo.heap.size 1 V k (strs a.2):=by have:=hat2.has.upto hBr.out.size;rwa [hk] at this
   obtain⟨w3,hw3⟩:∃x,wo.alloc (.cells #[.string TA,.slice V k cv] 60)=x:=⟨_,rfl⟩;rw[hw3] at hbx hBx;have hk6:k<=1000000:=by have:=hva.2.1;omega
   obtain⟨wm,hmake,hom,hbm⟩:=makeS w3 k hk6;have HV:=hide ((hVh.below hbx).upto hbx.size);have HBx:=hide hBx;have Hbx:=hide hbx;have Hw3:=hide hw3;have HVs:=hide hva.2.2;have Hom:=hide hom;have Hbm:=hide hbm;have y1:=hBx.cells 1 _ rfl;have y1m:=(hBx.grow hbm).cells 1 _ rfl;have Hli:Hid (i=(L.take i).length):=hide (by rw[List.length_take];have:=Hnl.out;omega);clear hat hat2 hTA hk ha hva hbx hBx hVh hw3 hom hbm HA HL Hvs HX HY HB HCl;go_upto_region 5 with fail;rw[Hw3.out];clear e0 e1 Hw3;obtain⟨h5,hh5⟩:∃h,wo.heap.size=h:=⟨_,rfl⟩;have Hh5:=hide hh5;rw[hh5] at HBx y1 y1m;(try rw[hh5]);clear hh5;go_wp2
   go_loopg [6,27] k (fun r s6 s27 wx=>∃j:Nat,j+r=k/\s27=.int .i64 (j:Int)/\Hid (wx.ownsRow w3.heap.size 9 1 s6 j (strs (a.2.take j)))/\Hid (Below w3.heap.size w3 wx))
   case atStart=>exact⟨0,by omega,rfl,Hom,Hbm⟩
   case round=>
    clear Hom Hbm hmake y1 y1m;obtain⟨j,hjg,rfl,hor,hbr⟩:=hrel;cases gk with
    | zero=>
     obtain rfl:j=k:=by omega
     have hjz:¬((j:Int)<(j:Int)):=(by omega);have y0:=(HBx.out.grow hbr.out).cells 0 _ rfl;have ho:=hor.out;rw[List.take_of_length_le (by rw[Hk.out];exact Nat.le_refl _)] at ho;obtain⟨A6,c6,rfl,hc6,hP6⟩:=zAv ho;have hm6:=zAu ho;have HP6:=hide (And.intro hc6 (And.intro hm6 hP6));clear ho hc6 hP6 hm6 hor HV HVs HBx;go_wp2_with (go_at_call 45;fail);refine (HCa.out _).mono ?_;rintro e w5 ⟨rfl,hb5⟩;have hbw:=Hbx.out.trans ((hbr.out.trans (hb5.mono hbr.out.size)).mono Hbx.out.size);have hP5:HasP w5 (NewB wo.heap.size w5.heap.size) 1 A6 a.2.length (strs a.2):=by rw[Hk.out];exact HP6.out.2.2.move (fun p hp=>hb5.cell hp.2) fun b hb=>⟨Nat.le_trans Hbx.out.size hb.1,Nat.lt_of_lt_of_le hb.2 hb5.size⟩
     have Hbw:=hide hbw;have HP5:=hide hP5;have hown:=zAc hR.out.own (hbw.trans ((below1 w5 (.cells #[.string TA,.slice A6 j c6] 60)).mono hbw.size));rw[<-Hli.out] at hown;have hlit:=litY w5 (.string TA) (.slice A6 j c6) 60 rfl rfl;have hH:=Has.own hlit;have hs4:w2.heap.size<=(w5.alloc (.cells #[.string TA,.slice A6 j c6] 60)).heap.size:=Nat.le_trans hBr.out.size (Nat.le_trans hbw.size (below1 w5 _).size);have h1c:∀u∈[Value.string TA,Value.slice A6 j c6],u.oneCell'=true:=by simp[Value.oneCell']
     have hai:i+1<=2000000:=by omega
     clear hb5 hP5 hbw hlit y0 HCa hbr;go_wp2_with (at_builtin;go_must (refine appN _ 36 60 _ 2 40 Tryz.underlying36 infoEA rfl (by omega) (by omega) rfl (.tmp 37) (.tmp 43) rfl w2.heap.size _ i zs rfl hown _ _ 1 1 [.string TA,.slice A6 j c6] rfl hH h1c hai hs4 ?_));intro v7 w7 hown7 hb7 hg7 ht7;have HR7:Hid (RowA w7 w2.heap.size 60 v7 (zs++[.string TA,.slice A6 j c6]) (L.take (i+1))):=hide (by
      rw[Htk.out]
      have hq:=RowA.more hR.out hBr.out.size Hbw.out (a:=a) (A:=A6) (c:=c6) (by rw[Hk.out];exact HP6.out.1) HP6.out.2.1 HP5.out (.cells #[.string TA,.slice A6 j c6] 60) (v':=v7) (w7:=w7) (by rw[<-Hli.out,HTA.out,Hk.out];exact hown7) hg7 (by simpa using ht7)
      rw[HTA.out,Hk.out] at hq
      exact hq)
     have HB7:=hide (hBr.out.trans ((Hbw.out.trans ((below1 w5 (.cells #[.string TA,.slice A6 j c6] 60)).mono Hbw.out.size)).mono hBr.out.size |>.trans hb7));clear hown7 hb7 hg7 ht7 hown hH hs4 h1c hai HP5 HP6 Hbw hR hBr Hbx;go_wp2
     go_roundg r
     case measure=>omega
     case rel=>exact⟨i+1,_,by omega,by go_num,HR7,HB7⟩
    | succ q=>
     have hj:j<k:=(by omega);have hjz:(j:Int)<(k:Int):=(by omega);obtain⟨v,hv⟩:∃v,a.2[j]?=some v:=⟨_,List.getElem?_eq_getElem (by rw[Hk.out];exact hj)⟩;obtain⟨g6,o6,hVe,hg6,hat6⟩:=HV.out.texts (fun h=>by rw[h] at hv;simp at hv);subst hVe;have x0:=(hbr.out.cell (p:=⟨g6,o6+j,none⟩) hg6).trans (hat6 j v hv);have hsz:=HVs.out v (List.mem_of_getElem? hv);have HC:=hide (fun w=>zBy (txt v) (by rw[zAg];omega) w);have Htk2:Hid (strs (a.2.take (j+1))=strs (a.2.take j)++[.string (txt v)]):=hide (by rw[List.take_add_one,hv];simp[strs]);generalize txt v=X at *;clear hat6 hv hsz HV HVs HBx;go_wp2_with (go_at_call 45;fail);refine (HC.out _).mono ?_;rintro e w4 ⟨rfl,hb4⟩;have hor4:=zAc hor.out hb4;have hB4:=hbr.out.trans (hb4.mono hbr.out.size);clear hor hb4 hbr HC x0;have hone:=litS w4 X;have hH:=Has.own hone;have hor5:=hor4.alloc (.cells #[.string X] 9);have hB5:=hide (hB4.alloc hB4.size (.cells #[.string X] 9));have hs5:=hB5.out.size;have h1c:∀u∈[Value.string X],u.oneCell'=true:=by simp[Value.oneCell']
     clear hone hor4 hB4;go_wp2_with (at_builtin;go_must (refine appE _ 43 9 _ 1 16 Tryz.underlying43 infoS rfl (by omega) (by omega) rfl (.tmp 31) (.tmp 34) rfl w3.heap.size _ j (strs (a.2.take j)) rfl hor5 _ _ 1 1 [.string X] rfl hH h1c (by omega) hs5 ?_));intro v' w6 hor6 hb6 _;have hB6:=hide (hB5.out.trans hb6);rw[<-Htk2.out] at hor6;have HO6:=hide hor6;clear hor6 hb6 hor5 hH h1c hs5 hB5 Htk2;go_wp2
     go_roundg q
     case measure=>omega
     case rel=>exact⟨j+1,by omega,by go_num,HO6,hB6⟩
end Go.Proofs.YtdkekamkmlpnhaaGreatDoor
set_option maxHeartbeats 32000000
namespace Go.Proofs.YtdkekamkmlpnhaaGreatDoor
open Go Go.RowKit
theorem infoND:(Tryz.prog.info? 64).map (fun i=>(i.zero,i.size,i.bytes))=some (some (.agg #[.string .empty,.slice none 0 0,.slice none 0 0]),3,64):=by kernel_rfl
theorem grow_nd (n:Nat) (h0:n≠0) (hn:n<=100000) (w:World):
  Calls Tryz.prog 153 #[.slice none 0 0,.int .i64 (n:Int)] w fun e w'=>∃v,e=.returned v/\w'.ownsRow w.heap.size 64 3 v 0 []/\Below w.heap.size w w':=by
 have z0:¬((n:Int)<0):=by omega
 have z1:((0:Int)<(n:Int)):=by omega
 obtain⟨i0,hi,hz0,hz1,hz2⟩:=info_parts infoND;have happ:=Lib.run_append_nil_zeros (P:=Tryz.prog) w 61 3 61 64 i0 (.agg #[.string .empty,.slice none 0 0,.slice none 0 0]) .i64 .i64 Tryz.underlying61 Tryz.underlying3 hi hz0 n (by omega) (by omega) (by omega) (by rw[hz2];omega);generalize hcap:grownCap w n 0 64=cap2 at happ;have hcapge:n<=cap2:=by rw[<-hcap];exact grownCap_ge w _ 0 64
 have hcaple:cap2<=maxLen:=by rw[<-hcap];exact grownCap_le_maxLen w _ 0 64 (by unfold maxLen;omega)
 generalize hZ:(Builtin.zeroCells (Value.agg #[.string .empty,.slice none 0 0,.slice none 0 0]).cells n++Builtin.zeroCells (Value.agg #[.string .empty,.slice none 0 0,.slice none 0 0]).cells (cap2-n))=Z at happ;have hZs:Z.size=cap2*3:=by rw[<-hZ];simp[size_zeroCells,Value.cells];omega
 have hown:(w.drew.alloc (.cells Z 64)).ownsRow w.heap.size 64 3 (.slice (some ⟨w.heap.size,0,none⟩) 0 cap2) 0 []:=
  ⟨rfl,.inr ⟨w.heap.size,cap2,Z,rfl,Nat.le_refl _,heap_alloc_new w.drew _,Nat.zero_le _,hcaple,by omega,by simp⟩⟩
 have hb:Below w.heap.size w (w.drew.alloc (.cells Z 64)):=((Below.refl _ _).drew).alloc (Nat.le_refl _) _;have Hown:=hide hown;have Hb:=hide hb;have hcm:(cap2:Int)<=9223372036854775807:=by unfold maxLen at hcaple;omega
 clear hcap hZ hZs hown hb hi hz0 hz1 hz2 hcaple;go_enter Tryz.func153,Tryz.ntmps153;go_wp2_with (at_builtin;refine Lib.wpList_append_run _ rfl _ _ _ _ rfl _ _ rfl rfl _ _ happ ?_);go_wp2;go_ret;exact⟨_,rfl,Hown.out,Hb.out⟩
structure OneSome (B:Nat) (w:World) (e:Ending) (w':World):Prop where
 out:∃A c,e=.returned (.slice A 1 c)/\Below B w w'
theorem zRf (w:World) (h:Nat) (B:Option Addr) (d:Nat) (u0 u1 u2:Value) (hO:Blk w h [.slice none 0 0,.slice B 1 d,.slice none 0 0]) (hB:Has w w.heap.size 3 B 1 [u0,u1,u2]) (h1:∀u∈[u0,u1,u2],u.oneCell'=true):
  Calls Tryz.prog 102 #[.slice (some ⟨h,0,none⟩) 3 3] w (OneSome w.heap.size w):=by
 suffices H:Calls Tryz.prog 102 #[.slice (some ⟨h,0,none⟩) 3 3] w fun e w'=>Hid (OneSome w.heap.size w e w') from H.mono fun e w' h=>h.out
 have c0:=hO.cells 0 _ rfl;have c1:=hO.cells 1 _ rfl;have c2:=hO.cells 2 _ rfl;have HO:=hide hO;have HB:=hide hB;have H1:=hide h1;have HG:=hide (grow_nd 1 (by omega) (by omega) w);clear hO hB h1;go_enter Tryz.func102,Tryz.ntmps102;go_wp2
 go_loopg [3,11] 3 (fun k s3 s11 wx=>((k=3/\s11=.int .i64 0/\s3=.int .i64 0)\/(k=2/\s11=.int .i64 1/\s3=.int .i64 0)\/(k=1/\s11=.int .i64 2/\s3=.int .i64 1)\/(k=0/\s11=.int .i64 3/\s3=.int .i64 1))/\wx=w)
 case atStart=>exact⟨.inl ⟨rfl,rfl,rfl⟩,rfl⟩
 case round=>
  obtain⟨hcs0,hw0⟩:=hrel;obtain rfl:=hw0.symm;clear hw0;rcases hcs0 with⟨rfl,rfl,rfl⟩ | ⟨rfl,rfl,rfl⟩ | ⟨rfl,rfl,rfl⟩ | ⟨rfl,rfl,rfl⟩
  ·clear HO HB H1 HG;go_wp2
   go_roundg 2
   case measure=>omega
   case rel=>exact⟨.inr (.inl ⟨rfl,by go_num,by go_num⟩),rfl⟩
  ·clear HO HB H1 HG;go_wp2
   go_roundg 1
   case measure=>omega
   case rel=>exact⟨.inr (.inr (.inl ⟨rfl,by go_num,by go_num⟩)),rfl⟩
  ·clear HO HB H1 HG;go_wp2
   go_roundg 0
   case measure=>omega
   case rel=>exact⟨.inr (.inr (.inr ⟨rfl,by go_num,by go_num⟩)),rfl⟩
  ·clear c0 c1 c2;go_wp2_with (go_at_call 153;fail);refine HG.out.mono ?_;rintro e w1 ⟨v1,rfl,hown,hb1⟩;have HB1:=hide hb1;clear HG hb1;go_wp2
   go_loopg [6,27] 3 (fun k s6 s27 wx=>Hid ((k=3/\s27=.int .i64 0/\wx.ownsRow w.heap.size 64 3 s6 0 [])\/(k=2/\s27=.int .i64 1/\wx.ownsRow w.heap.size 64 3 s6 0 [])\/(k=1/\s27=.int .i64 2/\wx.ownsRow w.heap.size 64 3 s6 1 [u0,u1,u2])\/(k=0/\s27=.int .i64 3/\wx.ownsRow w.heap.size 64 3 s6 1 [u0,u1,u2]))/\Hid (Below w.heap.size w wx))
   case atStart=>exact⟨hide (.inl ⟨rfl,rfl,hown⟩),HB1⟩
   case round=>
    obtain⟨hcs,hB1⟩:=hrel;clear hown HB1;have c0:=(HO.out.grow hB1.out).cells 0 _ rfl;have c1:=(HO.out.grow hB1.out).cells 1 _ rfl;have c2:=(HO.out.grow hB1.out).cells 2 _ rfl;have hs1:=hB1.out.size;rcases hcs.out with⟨rfl,rfl,hor⟩ | ⟨rfl,rfl,hor⟩ | ⟨rfl,rfl,hor⟩ | ⟨rfl,rfl,hor⟩
    ·clear hcs HO HB H1 c1 c2;go_wp2_with (at_builtin;go_must (refine appN _ 61 64 _ 3 64 Tryz.underlying61 infoND rfl (by omega) (by omega) rfl (.tmp 31) (.tmp 32) rfl w.heap.size _ 0 [] rfl hor wr.heap.size none 0 0 [] rfl Has.nil (by simp) (by omega) hs1 ?_));intro v' w6 hor6 hb6 _ _;have hB6:=hide (hB1.out.trans hb6);clear hor hb6 hs1 hB1 c0;go_wp2
     go_roundg 2
     case measure=>omega
     case rel=>exact⟨hide (.inr (.inl ⟨rfl,by go_num,hor6⟩)),hB6⟩
    ·have hA1:=HB.out.below hB1.out;have ho1:=H1.out;clear hcs HO HB H1 c0 c2;go_wp2_with (at_builtin;go_must (refine appN _ 61 64 _ 3 64 Tryz.underlying61 infoND rfl (by omega) (by omega) rfl (.tmp 31) (.tmp 32) rfl w.heap.size _ 0 [] rfl hor _ _ 1 _ [u0,u1,u2] rfl hA1 ho1 (by omega) hs1 ?_));intro v' w6 hor6 hb6 _ _;have hB6:=hide (hB1.out.trans hb6);clear hor hb6 hs1 hB1 c1 hA1 ho1;go_wp2
     go_roundg 1
     case measure=>omega
     case rel=>exact⟨hide (.inr (.inr (.inl ⟨rfl,by go_num,hor6⟩))),hB6⟩
    ·clear hcs HO HB H1 c0 c1;go_wp2_with (at_builtin;go_must (refine appN _ 61 64 _ 3 64 Tryz.underlying61 infoND rfl (by omega) (by omega) rfl (.tmp 31) (.tmp 32) rfl w.heap.size _ 1 [u0,u1,u2] rfl hor wr.heap.size none 0 0 [] rfl Has.nil (by simp) (by omega) hs1 ?_));intro v' w6 hor6 hb6 _ _;have hB6:=hide (hB1.out.trans hb6);clear hor hb6 hs1 hB1 c2;go_wp2
     go_roundg 0
     case measure=>omega
     case rel=>exact⟨hide (.inr (.inr (.inr ⟨rfl,by go_num,hor6⟩))),hB6⟩
    ·obtain ⟨A7,c7,rfl,_,_⟩:=zAh hor;clear hcs HO HB H1 c0 c1 c2 hs1 hor;go_wp2;go_ret;exact hide ⟨⟨_,_,rfl,hB1.out⟩⟩
theorem zL9 (w:World) (A:Option Addr) (n c:Nat):
  Calls Tryz.prog 100 #[.slice none 0 0,.slice A n c,.func (.func 101) #[] #[]] w fun e w'=>e=.returned (.tuple #[.int .i64 0,.bool false])/\w'=w:=by
 go_enter Tryz.func100,Tryz.ntmps100;go_wp2
 go_loopg [9,10] 0 (fun k s9 s10 wx=>s9=.int .i64 0/\s10=.int .i64 0/\wx=w)
 case atStart=>exact⟨rfl,rfl,rfl⟩
 case round=>obtain⟨rfl,rfl,hw⟩:=hrel;obtain rfl:=hw.symm;clear hw;go_wp2;go_ret2;exact⟨rfl,rfl⟩
theorem zRv (w:World) (q:Nat) (hQ:Blk w q [.slice none 0 0]) (A:Option Addr) (n c:Nat):
  Calls Tryz.prog 55 #[.pointer (some ⟨q,0,none⟩),.slice A n c] w fun e w'=>e=.returned (.tuple #[.int .i64 0,.bool false])/\w'=w:=by
 have k0:=hQ.cells 0 _ rfl;clear hQ;go_enter Tryz.func55,Tryz.ntmps55;go_wp2_with (go_at_call 100;fail);refine (zL9 w A n c).mono ?_;rintro e w1 ⟨rfl,hw⟩;obtain rfl:=hw.symm;clear hw;go_wp2;go_ret2;exact⟨rfl,rfl⟩
theorem zMe (w:World) (p:Addr) (A:Option Addr) (c:Nat):
  Calls Tryz.prog 56 #[.pointer (some p),.slice A 0 c] w fun e w'=>e=.returned (.int .i64 0)/\w'=w:=by
 go_enter Tryz.func56,Tryz.ntmps56;go_wp2;go_ret;exact⟨rfl,rfl⟩
theorem tlen_one (w:World) (q:Nat) (A:Option Addr) (n c:Nat) (hQ:Blk w q [.slice A n c]):
  Calls Tryz.prog 21 #[.pointer (some ⟨q,0,none⟩)] w fun e w'=>e=.returned (.int .i64 (n:Int))/\w'=w:=by
 have k0:=hQ.cells 0 _ rfl;clear hQ;go_enter Tryz.func21,Tryz.ntmps21;go_wp2;go_ret;exact⟨rfl,rfl⟩
end Go.Proofs.YtdkekamkmlpnhaaGreatDoor
namespace Go.Proofs.YtdkekamkmlpnhaaGreatDoor
open Go Go.RowKit
structure PathPost (T:List (List UInt8)) (w:World) (e:Ending) (w':World):Prop where
 out:∃A c,e=.returned (.slice A T.length c)/\T.length<=c/\c<=maxLen/\HasP w' (fun b=>w.heap.size<=b/\b<w'.heap.size) 1 A T.length (strs T)/\Below w.heap.size w w'
theorem zS1 {w w':World} {P:Nat->Prop} {B size n:Nat} {A:Option Addr} {xs ys:List Value} (h:HasP w P size A n xs) (h':Has w' B size A n ys) (hx:xs≠[]) {P':Nat->Prop} (hP:∀b,P b->P' b):HasP w' P' size A n ys:=by
 refine⟨h'.1,h'.2.imp id fun ⟨ad,e,hb,hc⟩=>?_⟩;rcases h.2 with h2 | ⟨ad2,e2,hb2,_⟩
 ·exact absurd h2 hx
 ·have:ad=ad2:=Option.some.inj (e.symm.trans e2);subst this;exact⟨ad,e,hP _ hb2,hc⟩
theorem zF4 (nm:List UInt8) (hne:nm≠[]) (hl:nm.length<=1000000) (hc0:cuts 44 nm≠[]) (hcl:(cuts 44 nm).length<=1000000) (w:World):
  Calls Tryz.prog 43 #[.string (txt nm)] w (PathPost (cuts 44 nm).reverse w):=by
 suffices H:Calls Tryz.prog 43 #[.string (txt nm)] w fun e w'=>Hid (PathPost (cuts 44 nm).reverse w e w') from H.mono fun e w' h=>h.out
 have q1:((txt nm).toList==[])=false:=by rw[toeq];simpa using hne
 have HS:=hide (zEv (txt nm) (by rw[zAg];exact hl) 44 (by decide) w);have hd:(txt nm).data.toList=nm:=by simp[txt]
 rw[hd] at HS;have Hc0:=hide hc0;have Hcl:=hide hcl;clear hd hne hl hc0 hcl;generalize hS:txt nm=S at *;clear hS;go_enter Tryz.func43,Tryz.ntmps43;go_wp2_with (go_at_call 75;fail);refine HS.out.mono ?_;rintro e w2 ⟨v,rfl,hown,hb2⟩;obtain⟨A,c,hv,hnc,hP⟩:=zAv hown;have hmost:=zAu (hv ▸ hown);subst hv;have HR:=hide (zK8 w2 w.heap.size A _ c (cuts 44 nm) hown hb2.size Hcl.out);have HP:=hide (And.intro hnc (And.intro hmost hP));have HB:=hide hb2;clear hown hb2 hnc hP hmost HS;obtain⟨k,hk⟩:∃x,(cuts 44 nm).length=x:=⟨_,rfl⟩;have HK:=hide hk;rw[hk] at HR HP ⊢;clear hk;go_wp2_with (go_at_call 76;fail);refine HR.out.mono ?_;rintro e w3 ⟨rfl,hh,hg,hb3⟩;have HE:Hid (PathPost (cuts 44 nm).reverse w (.returned (.slice A k c)) w3):=hide ⟨⟨A,c,by rw[List.length_reverse,HK.out],by rw[List.length_reverse,HK.out];exact HP.out.1,HP.out.2.1,by
  rw[List.length_reverse,HK.out]
  exact zS1 HP.out.2.2 hh (by unfold strs;simpa using Hc0.out) fun b hb=>⟨hb.1,Nat.lt_of_lt_of_le hb.2 hg.size⟩,HB.out.trans hb3⟩⟩
 clear hh hg hb3 HR HP HB HK Hc0 Hcl;go_wp2;go_ret;exact HE
structure NodePost (S:ByteArray) (A:Option Addr) (n c:Nat) (T:List (List UInt8)) (w:World) (e:Ending) (w':World):Prop where
 out:∃P cp,e=.returned (.agg #[.string S,.slice A n c,.slice P T.length cp])/\T.length<=cp/\cp<=maxLen/\HasP w' (fun b=>w.heap.size<=b/\b<w'.heap.size) 1 P T.length (strs T)/\Below w.heap.size w w'
theorem node_end {w wr w3 wz:World} {h2 k cp:Nat} {S:ByteArray} {A P:Option Addr} {n c:Nat} {T:List (List UInt8)} (hB:Below w.heap.size w wr) (hW:Below wr.heap.size wr w3) (hg:w3.grownBy wz (some h2)) (hh:w.heap.size<=h2/\h2<wr.heap.size)
  (hP:k<=cp/\cp<=maxLen/\HasP w3 (fun b=>wr.heap.size<=b/\b<w3.heap.size) 1 P k (strs T)) (hk:T.length=k):NodePost S A n c T w (.returned (.agg #[.string S,.slice A n c,.slice P k cp])) wz:=by
 subst hk;refine⟨⟨P,cp,rfl,hP.1,hP.2.1,hP.2.2.move (fun p hp=>World.cell?_of_block (hg.block _ hp.2 fun e=>?_)) fun b hb=>⟨Nat.le_trans hB.size hb.1,Nat.lt_of_lt_of_le hb.2 hg.size⟩,?_⟩⟩
 ·have:=Option.some.inj e;have:=hp.1;omega
 ·exact (hB.trans (hW.mono hB.size)).grown hg (Nat.le_trans hB.size hW.size) fun b hb=>by rw[<-Option.some.inj hb];exact hh.1
theorem zGd (nm:List UInt8) (hne:nm≠[]) (hl:nm.length<=1000000) (hc0:cuts 44 nm≠[]) (hcl:(cuts 44 nm).length<=1000000) (w:World) (A:Option Addr) (n c:Nat):
  Calls Tryz.prog 26 #[.agg #[.string (txt nm),.slice A n c]] w (NodePost (txt nm) A n c (cuts 44 nm).reverse w):=by
 have HP:=hide (fun w=>zF4 nm hne hl hc0 hcl w)
 suffices H:Calls Tryz.prog 26 #[.agg #[.string (txt nm),.slice A n c]] w fun e w'=>Hid (NodePost (txt nm) A n c (cuts 44 nm).reverse w e w') from H.mono fun e w' h=>h.out
 clear hne hl hc0 hcl;generalize hS:txt nm=S at *;clear hS;obtain⟨TT,hTT⟩:∃x,(cuts 44 nm).reverse=x:=⟨_,rfl⟩;rw[hTT] at HP ⊢;clear hTT;have hb1:=below1 w (.cells #[.string S,.slice A n c] 38);have hX:=BoxE.new w S A n c 38;obtain⟨w1,hw1⟩:∃w1,w.alloc (.cells #[.string S,.slice A n c] 38)=w1:=⟨_,rfl⟩;have hs1:w1.heap.size=w.heap.size+1:=by rw[<-hw1];simp
 rw[hw1] at hb1 hX;have hb2:=below1 w1 (.cells #[.string ⟨#[]⟩,.slice none 0 0,.slice none 0 0] 64);have hY:Blk (w1.alloc (.cells #[.string ⟨#[]⟩,.slice none 0 0,.slice none 0 0] 64)) w1.heap.size [.string ⟨#[]⟩,.slice none 0 0,.slice none 0 0]:=Blk.new w1 [.string ⟨#[]⟩,.slice none 0 0,.slice none 0 0] 64;obtain⟨wr,hw2⟩:∃wr,w1.alloc (.cells #[.string ⟨#[]⟩,.slice none 0 0,.slice none 0 0] 64)=wr:=⟨_,rfl⟩;have hs2:wr.heap.size=w.heap.size+2:=by rw[<-hw2];simp[hs1]
 rw[hw2] at hb2 hY;have HX:=hide (hX.grow hb2);have HY:=hide hY;have HB:=hide (hb1.trans (hb2.mono hb1.size));have Hw:=hide (And.intro hw1 hw2);have Hs:=hide (And.intro hs1 hs2);clear hb1 hX hw1 hb2 hY hw2 hs1 hs2;go_enter Tryz.func26,Tryz.ntmps26;go_upto_region 1 with fail;rw[Hw.out.1];(try rw[Hs.out.1]);rw[Hw.out.2];rw[Hs.out.1] at HY;have Hh2:Hid (w.heap.size<=w.heap.size+1/\w.heap.size+1<wr.heap.size):=hide ⟨by omega,by rw[Hs.out.2];omega⟩;obtain⟨h1,hh1⟩:∃h,w.heap.size=h:=⟨_,rfl⟩;have HN:=hide hh1;rw[hh1] at HX HY Hh2;(try rw[hh1]);clear hh1;obtain⟨h2,hh2⟩:∃h,h1+1=h:=⟨_,rfl⟩;rw[hh2] at HY Hh2;(try rw[hh2]);clear hh2 Hw Hs;rw[<-HN.out] at Hh2;refine zDf wr.heap.size 5 (by kernel_rfl) ?_;have hdr:Below wr.heap.size wr wr.drew:=(Below.refl _ _).drew;have HW:=hide hdr;clear hdr;generalize wr.drew=wd at *;refine zAd 0 (some 3) (v:=?va0) rfl rfl (by kernel_rfl) rfl (by kernel_rfl) (by rfl) (fun W hW=>?ya0) ?_
 case ya0=>have k0:=(HX.out.grow (HW.out.trans hW)).c0;have k1:=(HX.out.grow (HW.out.trans hW)).c1;go_simp<;>with_reducible rfl
 (try simp only[pUz]);refine zAd 1 (some 4) rfl rfl (by kernel_rfl) rfl (by kernel_rfl) (by rfl) (fun W hW=>by go_simp<;>with_reducible rfl) ?_;(try simp only[pUz]);refine zAd 2 (some 5) (v:=?va2) rfl rfl (by kernel_rfl) rfl (by kernel_rfl) (by rfl) (fun W hW=>?ya2) ?_
 case ya2=>have k0:=(HX.out.grow (HW.out.trans hW)).c0;go_simp<;>with_reducible rfl
 (try simp only[pUz]);refine zAo 3 rfl (by kernel_rfl) (fun K hK=>?_);go_simp;refine (HP.out wd).mono ?_;rintro e wg3 hpost;obtain⟨P,cp,rfl,hcp,hmp,hhp,hb⟩:=hpost.out;refine hK.out _ _ (fun _=>hb.mono HW.out.size) ?_;obtain⟨k,hk⟩:∃x,TT.length=x:=⟨_,rfl⟩;have HK:=hide hk;rw[hk] at hcp hhp ⊢;have HPP:=hide (And.intro hcp (And.intro hmp (hhp.move (P':=fun b=>wr.heap.size<=b/\b<wg3.heap.size) (fun p _=>rfl) fun b hb=>⟨Nat.le_trans HW.out.size hb.1,hb.2⟩)));have HW9:=hTz HW hb;clear hK K hpost hcp hmp hhp hb HW hk HP;have HW:=HW9;clear HW9;(try simp only[pUz]);refine zAd 4 (some 7) rfl rfl (by kernel_rfl) rfl (by kernel_rfl) (by rfl) (fun W hW=>by go_simp<;>with_reducible rfl) ?_;(try simp only[pUz]);refine zAo 5 rfl (by kernel_rfl) (fun K hK=>?_);have HYc:=hide (HY.out.grow HW.out);refine zOd wg3 none rfl rfl 64 (.tmp 2) (.tmp 7) rfl h2 0 #[.string S,.slice A n c,.slice P k cp] rfl rfl (HYc.out.there 0 3 (by simp)) (by kernel_rfl) (by simp[Value.oneCell']) ?_;refine hK.out _ _ (fun h=>absurd rfl h) ?_;have HY5:=hide (HYc.out.sets 0 [.string S,.slice A n c,.slice P k cp] (by simp) [.string S,.slice A n c,.slice P k cp] (by simp));have hgs:=zB4 h2 [.string S,.slice A n c,.slice P k cp] 0 wg3;have HE5:=hide (node_end (S:=S) (A:=A) (n:=n) (c:=c) HB.out HW.out hgs Hh2.out HPP.out HK.out);change wpAnyL _ _ _ _ _ _ _ _ _ (wg3.setCells h2 0 [.string S,.slice A n c,.slice P k cp]);generalize wg3.setCells h2 0 [.string S,.slice A n c,.slice P k cp]=wz at *;clear hK K hgs HYc HY HX HW HPP HB HK Hh2;(try simp only[pUz]);refine zC6 (by kernel_rfl) ?_ _;go_wp2;refine bodyPost_ret (v:=.agg #[.string S,.slice A n c,.slice P k cp]) ?_ rfl ?_
 ·exact zCk rfl _ wz h2 [.string S,.slice A n c,.slice P k cp] _ rfl HY5.out.range Tryz.underlying64 rfl (by kernel_rfl)
 ·exact hide HE5.out
structure ReplPost (B0 q:Nat) (w:World) (e:Ending) (w':World):Prop where
 out:∃A c,e=.returned (.tuple #[])/\Blk w' q [.slice A 1 c]/\Below B0 w w'
theorem zKh (wr:World) (B0 q:Nat) (B:Option Addr) (d:Nat) (u0 u1 u2:Value) (hQ:Blk wr q [.slice none 0 0]) (hq:B0<=q) (hw:B0<=wr.heap.size) (hB:Has wr wr.heap.size 3 B 1 [u0,u1,u2]) (h1:∀u∈[u0,u1,u2],u.oneCell'=true):
  Calls Tryz.prog 57 #[.pointer (some ⟨q,0,none⟩),.int .i64 0,.int .i64 0,.slice B 1 d] wr (ReplPost B0 q wr):=by
 suffices H:Calls Tryz.prog 57 #[.pointer (some ⟨q,0,none⟩),.int .i64 0,.int .i64 0,.slice B 1 d] wr fun e w'=>Hid (ReplPost B0 q wr e w') from H.mono fun e w' h=>h.out
 have HQ:=hide hQ;have Hq:=hide hq;have Hbw:=hide hw;have HBn:=hide hB;have HU:=hide h1;clear hQ hq hw hB h1;go_enter Tryz.func57,Tryz.ntmps57;go_upto_region 0 with fail;refine zDf wr.heap.size 18 (by kernel_rfl) ?_;have hdr:Below wr.heap.size wr wr.drew:=(Below.refl _ _).drew;have HW:=hide hdr;clear hdr;generalize wr.drew=wd at *;refine zAd 0 (some 8) rfl rfl (by kernel_rfl) rfl (by kernel_rfl) (by rfl) (fun W hW=>by go_simp<;>with_reducible rfl) ?_;(try simp only[pUz]);refine zAd 1 (some 9) rfl rfl (by kernel_rfl) rfl (by kernel_rfl) (by rfl) (fun W hW=>by go_simp<;>with_reducible rfl) ?_;(try simp only[pUz]);refine zAd 2 (some 10) rfl rfl (by kernel_rfl) rfl (by kernel_rfl) (by rfl) (fun W hW=>by go_simp<;>with_reducible rfl) ?_;(try simp only[pUz]);refine zAd 3 (some 11) rfl rfl (by kernel_rfl) rfl (by kernel_rfl) (by rfl) (fun W hW=>by go_simp<;>with_reducible rfl) ?_;(try simp only[pUz]);refine zAd 4 (some 12) (v:=?vb4) rfl rfl (by kernel_rfl) rfl (by kernel_rfl) (by rfl) (fun W hW=>?yb4) ?_
 case yb4=>have k0:=(HQ.out.grow (HW.out.trans hW)).cells 0 _ rfl;go_simp<;>with_reducible rfl
 (try simp only[pUz]);refine zAd 5 (some 13) rfl rfl (by kernel_rfl) rfl (by kernel_rfl) (by rfl) (fun W hW=>by go_simp<;>with_reducible rfl) ?_;(try simp only[pUz]);refine zAd 6 (some 14) rfl rfl (by kernel_rfl) rfl (by kernel_rfl) (by rfl) (fun W hW=>by go_simp<;>with_reducible rfl) ?_;(try simp only[pUz]);refine zAd 7 (some 15) rfl rfl (by kernel_rfl) rfl (by kernel_rfl) (by rfl) (fun W hW=>by go_simp<;>with_reducible rfl) ?_;(try simp only[pUz]);refine zAd 8 (some 16) rfl rfl (by kernel_rfl) rfl (by kernel_rfl) (by rfl) (fun W hW=>by go_simp<;>with_reducible rfl) ?_;(try simp only[pUz]);refine zAd 9 (some 17) rfl rfl (by kernel_rfl) rfl (by kernel_rfl) (by rfl) (fun W hW=>by go_simp<;>with_reducible rfl) ?_;(try simp only[pUz]);refine zAd 10 (some 18) rfl rfl (by kernel_rfl) rfl (by kernel_rfl) (by rfl) (fun W hW=>by go_simp<;>with_reducible rfl) ?_;(try simp only[pUz]);refine zAd 11 (some 19) (v:=?vb11) rfl rfl (by kernel_rfl) rfl (by kernel_rfl) (by rfl) (fun W hW=>?yb11) ?_
 case yb11=>have k0:=(HQ.out.grow (HW.out.trans hW)).cells 0 _ rfl;go_simp<;>with_reducible rfl
 (try simp only[pUz]);refine zAd 12 (some 20) rfl rfl (by kernel_rfl) rfl (by kernel_rfl) (by rfl) (fun W hW=>by go_simp<;>with_reducible rfl) ?_;(try simp only[pUz]);refine zAd 13 (some 21) rfl rfl (by kernel_rfl) rfl (by kernel_rfl) (by rfl) (fun W hW=>by go_simp<;>with_reducible rfl) ?_;(try simp only[pUz]);refine zAo 14 rfl (by kernel_rfl) (fun K hK=>?_);go_simp;have hb:=below1 wd (.cells #[.slice none 0 0,.slice B 1 d,.slice none 0 0] 61);refine hK.out _ _ (fun _=>hb.mono HW.out.size) ?_;have hL:Blk (wd.alloc (.cells #[.slice none 0 0,.slice B 1 d,.slice none 0 0] 61)) wd.heap.size [.slice none 0 0,.slice B 1 d,.slice none 0 0]:=Blk.new wd [.slice none 0 0,.slice B 1 d,.slice none 0 0] 61;have HLt:=hide hL;have HBc:=hide (((HBn.out.below HW.out).upto HW.out.size).below hb |>.upto hb.size);have HW9:=hTz HW hb;generalize wd.alloc (.cells #[.slice none 0 0,.slice B 1 d,.slice none 0 0] 61)=wl at *;generalize wd.heap.size=ql at *;clear hK K hb hL HW;have HW:=HW9;clear HW9;(try simp only[pUz]);refine zAo 15 rfl (by kernel_rfl) (fun K hK=>?_);go_simp;refine (zRf wl ql B d u0 u1 u2 HLt.out HBc.out HU.out).mono ?_;rintro e wc hpost;obtain⟨A8,c8,rfl,hb⟩:=hpost.out;refine hK.out _ _ (fun _=>hb.mono HW.out.size) ?_;have HW9:=hTz HW hb;clear hK K hpost hb HW HLt HBc HU HBn;have HW:=HW9;clear HW9;(try simp only[pUz]);refine zAo 16 rfl (by kernel_rfl) (fun K hK=>?_);go_simp;refine hK.out _ _ (fun _=>Below.refl _ _) ?_;clear hK K;(try simp only[pUz]);refine zAo 17 rfl (by kernel_rfl) (fun K hK=>?_);go_simp;refine hK.out _ _ (fun _=>Below.refl _ _) ?_;clear hK K;(try simp only[pUz]);refine zAo 18 rfl (by kernel_rfl) (fun K hK=>?_);have HQc:=hide (HQ.out.grow HW.out);have cm:=HQc.out.cells 0 _ rfl;have fm:=HQc.out.fz 0;go_simp;refine hK.out _ _ (fun h=>absurd rfl h) ?_;have HQ9:=hide (HQc.out.set 0 (.slice A8 1 c8) (by simp));have HE9:=hide (((HW.out.mono Hbw.out)).setCell (p:=⟨q,0,none⟩) Hq.out (.slice A8 1 c8));change wpAnyL _ _ _ _ _ _ _ _ _ (wc.setCell ⟨q,0,none⟩ (.slice A8 1 c8));generalize wc.setCell ⟨q,0,none⟩ (.slice A8 1 c8)=wz at *;clear hK K cm fm HQc HQ HW;(try simp only[pUz]);refine zC6 (by kernel_rfl) ?_ _;clear Hq Hbw
 go_end0
 exact hide ⟨⟨_,_,rfl,HQ9.out,HE9.out⟩⟩
end Go.Proofs.YtdkekamkmlpnhaaGreatDoor
namespace Go.Proofs.YtdkekamkmlpnhaaGreatDoor
open Go Go.RowKit
structure BsPost (z:Nat->Int) (n:Nat) (w:World) (e:Ending) (w':World):Prop where
 out:∃k:Nat,k<=n/\(∀i,i<k->z i<0)/\(∀i,k<=i->i<n->0<=z i)/\e=.returned (.tuple #[.int .i64 (k:Int),.bool (decide (k<n/\z k=0))])/\Below w.heap.size w w'
theorem zLl (g:Nat) (eg:∀args w,(callFunc g args).run Tryz.prog w=.ok (.enter g args) w) (z:Nat->Int) (us:Nat->Value × Value × Value) (w:World) (b o cap n:Nat) (P:Option Addr) (m d:Nat)
  (hb:b<w.heap.size) (hc:∀i,i<n->w.cell? ⟨b,o+i*3,none⟩=some (us i).1/\w.cell? ⟨b,o+i*3+1,none⟩=some (us i).2.1/\w.cell? ⟨b,o+i*3+2,none⟩=some (us i).2.2) (hn:n<=1000000)
  (H:∀i,i<n->∀W,Below w.heap.size w W->Calls Tryz.prog g #[.agg #[(us i).1,(us i).2.1,(us i).2.2],.slice P m d] W fun e W'=>e=.returned (.int .i64 (z i))/\Below W.heap.size W W')
  (mono:∀a c,a<=c->c<n->z c<0->z a<0):
  Calls Tryz.prog 100 #[.slice (some ⟨b,o,none⟩) n cap,.slice P m d,.func (.func g) #[] #[]] w (BsPost z n w):=by
 suffices HH:Calls Tryz.prog 100 #[.slice (some ⟨b,o,none⟩) n cap,.slice P m d,.func (.func g) #[] #[]] w fun e w'=>Hid (BsPost z n w e w') from HH.mono fun e w' h=>h.out
 have Hb:=hide hb;have Hc:=hide hc;have HF:=hide H;have Hm:=hide mono;clear hb hc H mono;go_enter Tryz.func100,Tryz.ntmps100;go_wp2
 go_loopg [9,10] n (fun r s9 s10 wx=>∃i j:Nat,i+r=j/\j<=n/\s9=.int .i64 (i:Int)/\s10=.int .i64 (j:Int)/\Hid (∀a,a<i->z a<0)/\Hid (∀a,j<=a->a<n->0<=z a)/\Hid (Below w.heap.size w wx))
 case atStart=>exact⟨0,n,by omega,by omega,rfl,rfl,hide fun a ha=>(by omega),hide fun a ha hb=>(by omega),hide (Below.refl _ _)⟩
 case round=>
  obtain⟨i,j,hij,hjn,rfl,rfl,hlo,hhi,hbr⟩:=hrel;cases gk with
  | zero=>
   obtain rfl:i=j:=by omega
   have hiz:¬((i:Int)<(i:Int)):=by omega
   by_cases hin:i<n
   ·have hiz2:((i:Int)<(n:Int)):=by omega
    have hcc:=Hc.out i hin;obtain⟨u0,hu0⟩:∃x,(us i).1=x:=⟨_,rfl⟩;obtain⟨u1,hu1⟩:∃x,(us i).2.1=x:=⟨_,rfl⟩;obtain⟨u2,hu2⟩:∃x,(us i).2.2=x:=⟨_,rfl⟩;have hcall:=HF.out i hin wr hbr.out;rw[hu0,hu1,hu2] at hcc hcall;have c0:=(hbr.out.cell (p:=⟨b,o+i*3,none⟩) Hb.out).trans hcc.1;have c1:=(hbr.out.cell (p:=⟨b,o+i*3+1,none⟩) Hb.out).trans hcc.2.1;have c2:=(hbr.out.cell (p:=⟨b,o+i*3+2,none⟩) Hb.out).trans hcc.2.2;obtain⟨zi,hzi⟩:∃x,z i=x:=⟨_,rfl⟩;rw[hzi] at hcall;have Hcall:=hide hcall;have Hzi:=hide hzi;clear hcc hcall hu0 hu1 hu2 hzi Hb Hc HF Hm;go_wp2_with (go_at_fn g;fail);refine Hcall.out.mono ?_;rintro e w3 ⟨rfl,hb3⟩;have HE:=hTz hbr hb3;clear hb3 hbr Hcall c0 c1 c2;by_cases hz0:zi=0
    ·subst hz0;go_wp2;go_ret2;exact hide ⟨⟨i,by omega,hlo.out,hhi.out,by rw[decide_eq_true ⟨hin,Hzi.out⟩];rfl,HE.out⟩⟩
    ·have q0:(zi==0)=false:=beq_false_of_ne hz0;go_wp2;go_ret2;exact hide ⟨⟨i,by omega,hlo.out,hhi.out,by rw[decide_eq_false (fun h=>hz0 (Hzi.out.symm.trans h.2))];simp[q0],HE.out⟩⟩
   ·have hiz2:¬((i:Int)<(n:Int)):=by omega
    clear Hb Hc HF Hm;go_wp2;go_ret2;exact hide ⟨⟨i,by omega,hlo.out,hhi.out,by rw[decide_eq_false (fun h=>hin h.1)];rfl,hbr.out⟩⟩
  | succ r=>
   have hiz:(i:Int)<(j:Int):=by omega
   obtain⟨h,hh⟩:∃h,(i+j)/2=h:=⟨_,rfl⟩;have hhi1:i<=h/\h<j:=by omega
   have hhn:h<n:=by omega
   have hcc:=Hc.out h hhn;obtain⟨u0,hu0⟩:∃x,(us h).1=x:=⟨_,rfl⟩;obtain⟨u1,hu1⟩:∃x,(us h).2.1=x:=⟨_,rfl⟩;obtain⟨u2,hu2⟩:∃x,(us h).2.2=x:=⟨_,rfl⟩;have hcall:=HF.out h hhn wr hbr.out;rw[hu0,hu1,hu2] at hcc hcall;have c0:=(hbr.out.cell (p:=⟨b,o+h*3,none⟩) Hb.out).trans hcc.1;have c1:=(hbr.out.cell (p:=⟨b,o+h*3+1,none⟩) Hb.out).trans hcc.2.1;have c2:=(hbr.out.cell (p:=⟨b,o+h*3+2,none⟩) Hb.out).trans hcc.2.2;obtain⟨zi,hzi⟩:∃x,z h=x:=⟨_,rfl⟩;rw[hzi] at hcall;have Hcall:=hide hcall;have Hzi:=hide hzi;clear hcc hcall hu0 hu1 hu2 hzi;go_upto_region 5 with fail;rw[show ((i:Int)+(j:Int))/2=(h:Int) by omega];have hhn2:(h:Int)<(n:Int):=by omega
   go_wp2_with (go_at_fn g;fail);refine Hcall.out.mono ?_;rintro e w3 ⟨rfl,hb3⟩;have HE:=hTz hbr hb3;clear hb3 hbr Hcall c0 c1 c2;by_cases hz0:zi<0
   ·have hlo2:Hid (∀a,a<h+1->z a<0):=hide fun a ha=>Hm.out a h (by omega) hhn (by rw[Hzi.out];exact hz0)
    clear hlo Hb Hc HF Hm Hzi;go_wp2
    go_roundg (j-(h+1))
    case measure=>omega
    case rel=>exact⟨h+1,j,by omega,hjn,by go_num,rfl,hlo2,hhi,HE⟩
   ·have hhi2:Hid (∀a,h<=a->a<n->0<=z a):=hide fun a ha hb=>by
     rcases Int.lt_or_le (z a) 0 with hq | hq
     ·exact absurd (Hm.out h a ha hb hq) (by rw[Hzi.out];exact hz0)
     ·exact hq
    clear hhi Hb Hc HF Hm Hzi;go_wp2
    go_roundg (h-i)
    case measure=>omega
    case rel=>exact⟨i,h,by omega,by omega,rfl,rfl,hlo,hhi2,HE⟩
end Go.Proofs.YtdkekamkmlpnhaaGreatDoor
