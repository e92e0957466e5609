/- The program's Path. By an AI agent. -/
import Derived.Test.YtlfglibcggphjaaGreatDoorKFMath
import Derived.Test.YtlfglibcggphjaaGreatDoorGrow
import Derived.Test.YtlfglibcggphjaaGreatDoorEY
import Derived.Deep.OwnRows
set_option linter.unusedSimpArgs false
set_option linter.unusedVariables false
set_option maxRecDepth 100000
set_option maxHeartbeats 64000000
namespace Go.Proofs.YtlfglibcggphjaaGreatDoor
open Go Go.RowKit
def intsV (L:List Nat):List Value:=L.map fun x:Nat=>Value.int .i64 (x:Int)
theorem zIp (L:List Nat) (x:Nat):intsV (L++[x])=intsV L++[.int .i64 (x:Int)]:=by simp[intsV]
theorem infoI:(Tryz.prog.info? 3).map (fun i=>(i.zero,i.size,i.bytes))=some (some (.int .i64 0),1,8):=by kernel_rfl
theorem infoBl:(Tryz.prog.info? 4).map (fun i=>(i.zero,i.size,i.bytes))=some (some (.bool false),1,1):=by kernel_rfl
theorem litI (w:World) (x:Int):(w.alloc (.cells #[.int .i64 x] 3)).ownsRow w.heap.size 3 1 (.slice (some ⟨w.heap.size,0,none⟩) 1 1) 1 [.int .i64 x]:=
 zBo w #[.int .i64 x] 3 1 (by unfold maxLen;omega) rfl
def boolsV (b:List Bool):List Value:=b.map fun x=>.bool x
theorem zE0 {b:List Bool} {k:Nat} {x:Bool} (h:b[k]?=some x):(boolsV b)[k]?=some (.bool x):=by
 unfold boolsV;rw[List.getElem?_map,h];rfl
theorem zHz (n:Nat):madeCells #[Value.bool false] n=(boolsV (List.replicate n false)).toArray:=by
 unfold madeCells boolsV;apply Array.ext
 ·simp
 ·intro i h1 h2;simp[Nat.mod_one]
theorem zIg (b:List Bool) (k:Nat):boolsV (b.set k true)=(boolsV b).set k (.bool true):=by
 unfold boolsV;rw[List.map_set]
structure PathI (r:List Nat × Int) (w:World) (e:Ending) (w':World):Prop where
 out:∃A c,e=.returned (.tuple #[.slice A r.1.length c,.int .i64 r.2])/\r.1.length<=c/\c<=maxLen/\HasP w' (fun b=>b<w'.heap.size) 1 A r.1.length (intsV r.1)/\Below w.heap.size w w'
theorem zCm {w w3 wx:World} {r:List Nat × Int} {acc:List Nat} {v:Value} {base:Nat} {c:Int} (hb:Below w.heap.size w w3) (hx:Below w3.heap.size w3 wx) (hr:r=(acc,c)) (h:wx.ownsRow base 3 1 v acc.length (intsV acc)):PathI r w (.returned (.tuple #[v,.int .i64 c])) wx:=by
 subst hr;obtain⟨A,c2,rfl,hc,hP⟩:=zA0 h;exact⟨⟨A,c2,rfl,hc,zCl h,hP.move (fun p _=>rfl) (fun b hb=>hb.2),hb.trans (hx.mono hb.size)⟩⟩
theorem zFw (L:List (List CX)) (Top:List CT) (nm:List UInt8) (s:Int) (w:World) (A:Option Addr) (n c:Nat) (T:Option Addr) (m d:Nat) (hR:CfgR w A n T m L Top) (hW:CfgW L Top) (hnm:nm.length<=1000000) (hT:TM w):
  Calls Tryz.prog 6 #[.agg #[.slice A n c,.slice T m d],.int .i64 s,.string (txt nm)] w (PathI (pathV9 L Top nm s) w):=by
 suffices H:Calls Tryz.prog 6 #[.agg #[.slice A n c,.slice T m d],.int .i64 s,.string (txt nm)] w fun e w'=>Hid (PathI (pathV9 L Top nm s) w e w') from H.mono fun e w' h=>h.out
 have hb1:=below1 w (.cells #[.slice A n c,.slice T m d] 34);have hX:Blk (w.alloc (.cells #[.slice A n c,.slice T m d] 34)) w.heap.size [.slice A n c,.slice T m d]:=Blk.new w [.slice A n c,.slice T m d] 34;obtain⟨w1,hw1⟩:∃w1,w.alloc (.cells #[.slice A n c,.slice T m d] 34)=w1:=⟨_,rfl⟩;rw[hw1] at hb1 hX;have HN:=hide (zA9 nm (by omega) w1 (hT.below hb1));obtain⟨t,ht⟩:∃t,(normT nm).1=t:=⟨_,rfl⟩;obtain⟨y,hy⟩:∃y,(normT nm).2=y:=⟨_,rfl⟩;rw[ht,hy] at HN;obtain⟨xs,r1,r2,r3⟩:=hR.out;have hnl:=r1.sv_n r2;have HV:Hid (pathV9 L Top nm s=if y=0 then (if thereB n s=true then pathG (nxV L Top nm) n (List.replicate n false) s.toNat else ([],1)) else ([],34)):=hide (by unfold pathV9;rw[hy,hnl]);have HR:=hide (hR.grow hb1);have HT:=hide (hT.below hb1);have HX:=hide hX;have HB:=hide hb1;have Hw1:=hide hw1;have hn6:n<=2000000:=by rw[hnl];exact hW.len
 have HTh:=hide (fun (s:Int) (w:World)=>zB9 w A n c T m d s hn6);have HHe:=hide (fun (s:Int) (w:World) (hR:CfgR w A n T m L Top) (hT:TM w)=>zI5 L Top nm s w A n c T m d hR hW hnm hT);have HNe:=hide (fun (s:Int) (w:World) (hR:CfgR w A n T m L Top) (hT:TM w)=>zFl L Top nm s w A n c T m d hR hW hnm hT);have Hnl:=hide hnl;obtain⟨S,hS⟩:∃S,txt nm=S:=⟨_,rfl⟩;rw[hS] at HN HHe HNe ⊢;obtain⟨TS,hTS⟩:∃S,txt t=S:=⟨_,rfl⟩;rw[hTS] at HN;clear hb1 hX hw1 ht hy hR hW hT hnm r1 r2 r3 hnl hS hTS;go_enter Tryz.func6,Tryz.ntmps6;go_upto_region 1 with fail;rw[Hw1.out];clear Hw1;obtain⟨h,hh⟩:∃h,w.heap.size=h:=⟨_,rfl⟩;have Hh:=hide hh;rw[hh] at HX;(try rw[hh]);clear hh;go_wp2_with (go_at_call 11;fail);refine HN.out.mono ?_;rintro e w2 ⟨rfl,hb2⟩;have HX2:=hide (HX.out.grow hb2);have x0:=HX2.out.cells 0 _ rfl;have x1:=HX2.out.cells 1 _ rfl;have HR2:=hide (HR.out.grow hb2);have HT2:=hide (HT.out.below hb2);have HB2:=hTz HB hb2;clear hb2 HN HX HR HT HB;by_cases hy0:y=0
 ·subst hy0;go_wp2_with (go_at_call 12;fail);refine (HTh.out s w2).mono ?_;rintro e w3 ⟨rfl,hb3⟩;have HX3:=hide (HX2.out.grow hb3);have HR3:=hide (HR2.out.grow hb3);have HT3:=hide (HT2.out.below hb3);have HB3:=hTz HB2 hb3;obtain⟨tb,htb⟩:∃b,thereB n s=b:=⟨_,rfl⟩;rw[htb] at HV ⊢;clear hb3 HX2 HR2 HT2 HB2 x0 x1;cases tb with
  | false=>
   have HE:Hid (PathI (pathV9 L Top nm s) w (.returned (.tuple #[.slice none 0 0,.int .i64 1])) w3):=hide (by
    have hv1:pathV9 L Top nm s=([],1):=(by rw[HV.out];simp);rw[hv1]
    exact⟨⟨none,0,rfl,Nat.le_refl _,by unfold maxLen;omega,⟨rfl,.inl rfl⟩,HB3.out⟩⟩)
   clear HV HR3 HT3 HB3 HX3 Hh HTh HHe HNe Hnl htb;go_wp2;go_ret2;exact HE
  | true=>
   have hs:0<=s/\s<(n:Int):=of_decide_eq_true htb;obtain⟨k0,rfl⟩:=Int.eq_ofNat_of_zero_le hs.1;have hk0:k0<n:=by omega
   obtain⟨NX,hNX⟩:∃f,nxV L Top nm=f:=⟨_,rfl⟩;have HVV:Hid (pathV9 L Top nm ((k0:Nat):Int)=pathG NX n (List.replicate n false) k0):=hide (by rw[HV.out,hNX];simp);have HNX:=hide hNX;have hmake:=run_make_row' (P:=Tryz.prog) 53 4 (.bool false) 1 Tryz.underlying53 infoBl rfl .i64 .i64 n (by omega) (by omega) w3;rw[zHz] at hmake;have hbm:=below1 w3 (.cells (boolsV (List.replicate n false)).toArray 4);have hP0:Blk (w3.alloc (.cells (boolsV (List.replicate n false)).toArray 4)) w3.heap.size (boolsV (List.replicate n false)):=Blk.new w3 _ _;have hszm:(w3.alloc (.cells (boolsV (List.replicate n false)).toArray 4)).heap.size=w3.heap.size+1:=by simp
   obtain⟨w4,hw4⟩:∃z,w3.alloc (.cells (boolsV (List.replicate n false)).toArray 4)=z:=⟨_,rfl⟩;rw[hw4] at hmake hbm hP0 hszm;have HP0:=hide hP0;have HBm:=hide hbm;have x0:=HX3.out.cells 0 _ rfl;have HO0:Hid (w4.ownsRow (w3.heap.size+1) 3 1 (.slice none 0 0) ([]:List Nat).length (intsV [])):=hide (World.ownsRow_nil _ _ _ _);obtain⟨h1,hh1⟩:∃z,w3.heap.size=z:=⟨_,rfl⟩;have Hh1:=hide hh1;rw[hh1] at hmake HP0 HO0;have Hsz4:Hid (w4.heap.size=h1+1):=hide (by rw[hszm,hh1]);clear hP0 hbm hszm hw4 HV hs htb hNX hh1;go_wp2;clear x0 hmake
   go_loopg [1,10] n (fun r s1 s10 wx=>∃(k:Nat) (acc:List Nat) (b:List Bool),s1=.int .i64 (k:Int)/\k<n/\acc.length+r=n/\Hid (b.length=n/\cntF b=r/\b[k]?=some false)/\Hid (wx.ownsRow (h1+1) 3 1 s10 acc.length (intsV acc))/\Hid (Blk wx h1 (boolsV b))/\Hid (Below w3.heap.size w3 wx)/\Hid (h1+1<=wx.heap.size)/\Hid (pathV9 L Top nm ((k0:Nat):Int)=(acc++(pathG NX r b k).1,(pathG NX r b k).2)))
   case atStart=>exact⟨k0,[],List.replicate n false,rfl,hk0,by simp,hide ⟨by simp,zK7 n,by rw[List.getElem?_replicate,if_pos hk0]⟩,HO0,HP0,HBm,hide (by rw[Hsz4.out];exact Nat.le_refl _),hide (by rw[HVV.out];rfl)⟩
   case round=>
    clear HO0 HP0 HBm HVV Hsz4;obtain⟨k,acc,b,rfl,hkn,har,hbb,hor,hpb,hbr,hsz,hpv⟩:=hrel;cases gk with
    | zero=>
     exfalso;obtain⟨_,h2,h3⟩:=hbb.out;have:=zGd b k h3;omega
    | succ r=>
     obtain⟨wo,rfl⟩:∃wo,wo=wr:=⟨_,rfl⟩;have hone:=litI wo (k:Int);have hH:=Has.own hone;have hor7:=hor.out.alloc (.cells #[.int .i64 (k:Int)] 3);have hs7:h1+1<=(wo.alloc (.cells #[.int .i64 (k:Int)] 3)).heap.size:=Nat.le_trans hsz.out (below1 wo _).size;have h1c:∀u∈[Value.int .i64 (k:Int)],u.oneCell'=true:=by simp[Value.oneCell']
     have Hba:=hide (below1 wo (.cells #[.int .i64 (k:Int)] 3));obtain⟨na,hna⟩:∃z,acc.length=z:=⟨_,rfl⟩;rw[hna] at hor7 har;have Hna:=hide hna;clear hone hna;go_wp2_with (at_builtin;go_must (refine appE _ 28 3 _ 1 8 Tryz.underlying28 infoI rfl (by omega) (by omega) rfl (.tmp 31) (.tmp 33) rfl (h1+1) _ na (intsV acc) rfl hor7 _ _ 1 1 [.int .i64 (k:Int)] rfl hH h1c (by omega) hs7 ?_));intro v8 w8 hor8 hb8 _;have HO8:Hid (w8.ownsRow (h1+1) 3 1 v8 (acc++[k]).length (intsV (acc++[k]))):=hide (by
      rw[zIp,List.length_append,Hna.out]
      exact hor8)
     have hP8:Blk w8 h1 (boolsV b):=(hpb.out.grow Hba.out).below (Nat.lt_succ_self h1) hb8;have HP8:=hide hP8;have HB8:Hid (Below w3.heap.size w3 w8):=hide ((hbr.out.trans (Hba.out.mono hbr.out.size)).trans (hb8.mono (by rw[Hh1.out];exact Nat.le_succ _)));have hsz8:=hide (Nat.le_trans hs7 hb8.size);have z0:=hP8.cells k _ (zE0 hbb.out.2.2);have hfz:=hP8.fz;have hkz:(k:Int)<(n:Int):=by omega
     have x0:=(HX3.out.grow HB8.out).cells 0 _ rfl;have x1:=(HX3.out.grow HB8.out).cells 1 _ rfl;clear hor8 hb8 hor7 hH h1c hs7 Hba hP8 hor hpb hbr hsz;go_upto_region 10 with fail;have HB9:Hid (Below w3.heap.size w3 (w8.setCell ⟨h1,k,none⟩ (.bool true))):=hide (HB8.out.setCell (p:=⟨h1,k,none⟩) (by rw[Hh1.out];exact Nat.le_refl _) _);have HP9:Hid (Blk (w8.setCell ⟨h1,k,none⟩ (.bool true)) h1 (boolsV (b.set k true))):=hide (by
      rw[zIg]
      exact HP8.out.set k (.bool true) (by unfold boolsV;rw[List.length_map,hbb.out.1];exact hkn))
     have HO9:Hid ((w8.setCell ⟨h1,k,none⟩ (.bool true)).ownsRow (h1+1) 3 1 v8 (acc++[k]).length (intsV (acc++[k]))):=hide (HO8.out.kept (zAo w8 h1 k (.bool true)) (.inr fun e=>by have:=(HO8.out.lt _ e).1;omega));have Hsz9:Hid (h1+1<=(w8.setCell ⟨h1,k,none⟩ (.bool true)).heap.size):=hide (by rw[show (w8.setCell ⟨h1,k,none⟩ (.bool true)).heap.size=w8.heap.size by simp[World.setCell]];exact hsz8.out);obtain⟨w9,hw9⟩:∃z,w8.setCell ⟨h1,k,none⟩ (.bool true)=z:=⟨_,rfl⟩;rw[hw9] at HB9 HP9 HO9 Hsz9;(try rw[hw9]);clear hw9 z0 hfz x0 x1 HO8 HP8 HB8 hsz8;have x0:=(HX3.out.grow HB9.out).cells 0 _ rfl;have x1:=(HX3.out.grow HB9.out).cells 1 _ rfl;have HHk:=hide (HHe.out (k:Int) w9 (HR3.out.grow HB9.out) (HT3.out.below HB9.out));have HNXk:Hid (NX k=if (heldV L (k:Int) nm).2=true then (0,none) else if (nearV L Top (k:Int) nm).2=false then (32,none) else if thereB n (nearV L Top (k:Int) nm).1=false then (52,none) else (54,some (nearV L Top (k:Int) nm).1.toNat)):=hide (by rw[<-HNX.out,Hnl.out];rfl);obtain⟨⟨ha,hbv⟩,hhv⟩:∃R,heldV L (k:Int) nm=R:=⟨_,rfl⟩;rw[hhv] at HHk HNXk;clear hhv;go_wp2_with (go_at_call 13;fail);refine HHk.out.mono ?_;rintro e wa hpa;obtain⟨rfl,hba⟩:=hpa.out;have HBa:=hTz HB9 hba;have HPa:=hide (HP9.out.grow hba);have HOa:=hide (zAc HO9.out hba);have Hsza:=hide (Nat.le_trans Hsz9.out hba.size);clear hpa hba HB9 HP9 HO9 Hsz9 HHk x0 x1;cases hbv with
     | true=>
      have HE:Hid (PathI (pathV9 L Top nm ((k0:Nat):Int)) w (.returned (.tuple #[v8,.int .i64 0])) wa):=hide (zCm HB3.out HBa.out (by
       have h9:NX k=(0,none):=by rw[HNXk.out,if_pos rfl]
       rw[hpv.out,zAj h9]) HOa.out)
      clear HNXk hpv HBa HPa HOa Hsza HHe HNe HTh HX3 HR3 HT3 HB3 HNX hbb;go_wp2;go_ret2;exact HE
     | false=>
      have HNk:=hide (HNe.out (k:Int) wa (HR3.out.grow HBa.out) (HT3.out.below HBa.out));have x0:=(HX3.out.grow HBa.out).cells 0 _ rfl;have x1:=(HX3.out.grow HBa.out).cells 1 _ rfl;obtain⟨⟨tv,tb⟩,htv⟩:∃R,nearV L Top (k:Int) nm=R:=⟨_,rfl⟩;rw[htv] at HNk HNXk;clear htv;go_wp2_with (go_at_call 8;fail);refine HNk.out.mono ?_;rintro e wb hpb;obtain⟨rfl,hbb2⟩:=hpb.out;have HBb:=hTz HBa hbb2;have HPb:=hide (HPa.out.grow hbb2);have HOb:=hide (zAc HOa.out hbb2);have Hszb:=hide (Nat.le_trans Hsza.out hbb2.size);clear hpb hbb2 HBa HPa HOa Hsza HNk x0 x1;cases tb with
      | false=>
       have HE:Hid (PathI (pathV9 L Top nm ((k0:Nat):Int)) w (.returned (.tuple #[v8,.int .i64 32])) wb):=hide (zCm HB3.out HBb.out (by
        have h9:NX k=(32,none):=by rw[HNXk.out,if_neg (by simp),if_pos rfl]
        rw[hpv.out,zAj h9]) HOb.out)
       clear HNXk hpv HBb HPb HOb Hszb HHe HNe HTh HX3 HR3 HT3 HB3 HNX hbb;go_wp2;go_ret2;exact HE
      | true=>
       have x0:=(HX3.out.grow HBb.out).cells 0 _ rfl;have x1:=(HX3.out.grow HBb.out).cells 1 _ rfl;have HTk:=hide (HTh.out tv wb);obtain⟨th,hth⟩:∃z,thereB n tv=z:=⟨_,rfl⟩;rw[hth] at HTk HNXk;go_wp2_with (go_at_call 12;fail);refine HTk.out.mono ?_;rintro e wc ⟨rfl,hbc⟩;have HBc:=hTz HBb hbc;have HPc:=hide (HPb.out.grow hbc);have HOc:=hide (zAc HOb.out hbc);have Hszc:=hide (Nat.le_trans Hszb.out hbc.size);clear hbc HBb HPb HOb Hszb HTk x0 x1;cases th with
       | false=>
        have HE:Hid (PathI (pathV9 L Top nm ((k0:Nat):Int)) w (.returned (.tuple #[v8,.int .i64 52])) wc):=hide (zCm HB3.out HBc.out (by
         have h9:NX k=(52,none):=by rw[HNXk.out,if_neg (by simp),if_neg (by simp),if_pos rfl]
         rw[hpv.out,zAj h9]) HOc.out)
        clear HNXk hpv HBc HPc HOc Hszc HHe HNe HTh HX3 HR3 HT3 HB3 HNX hbb hth;go_wp2;go_ret2;exact HE
       | true=>
        have hs:0<=tv/\tv<(n:Int):=of_decide_eq_true hth;obtain⟨tn,rfl⟩:=Int.eq_ofNat_of_zero_le hs.1;have htn:tn<n:=by omega
        have htz:(tn:Int)<(n:Int):=hs.2;have h9:NX k=(54,some tn):=by rw[HNXk.out,if_neg (by simp),if_neg (by simp),if_neg (by simp)];rfl
        obtain⟨pt,hpt⟩:∃z,(b.set k true)[tn]?=some z:=⟨_,List.getElem?_eq_getElem (by rw[List.length_set,hbb.out.1];exact htn)⟩;have z0:=HPc.out.cells tn _ (zE0 hpt);have hgd:(b.set k true).getD tn false=pt:=by rw[List.getD_eq_getElem?_getD,hpt];rfl
        have H9:=hide (And.intro h9 hgd);cases pt with
        | true=>
         have HE:Hid (PathI (pathV9 L Top nm ((k0:Nat):Int)) w (.returned (.tuple #[v8,.int .i64 54])) wc):=hide (zCm HB3.out HBc.out (by
          rw[hpv.out,zAw H9.out.1 H9.out.2]) HOc.out)
         clear HNXk hpv HBc HPc HOc Hszc HHe HNe HTh HX3 HR3 HT3 HB3 HNX hbb hth hs h9 hgd H9 hpt;go_wp2;go_ret2;exact HE
        | false=>
         have HQ:Hid (pathV9 L Top nm ((k0:Nat):Int)=((acc++[k])++(pathG NX r (b.set k true) tn).1,(pathG NX r (b.set k true) tn).2)):=hide (by
          rw[hpv.out,zA3 H9.out.1 H9.out.2]
          simp)
         have HQb:Hid ((b.set k true).length=n/\cntF (b.set k true)=r/\(b.set k true)[tn]?=some false):=hide ⟨by rw[List.length_set];exact hbb.out.1,by have:=zGd b k hbb.out.2.2;have:=hbb.out.2.1;omega,hpt⟩;have hnar:(acc++[k]).length+r=n:=by rw[List.length_append,Hna.out];simp only[List.length_singleton];omega
         clear HNXk hpv hbb hth hs h9 hgd H9 hpt;go_wp2
         go_roundg r
         case measure=>omega
         case rel=>exact⟨tn,acc++[k],b.set k true,rfl,htn,hnar,HQb,HOc,HPc,HBc,Hszc,HQ⟩
 ·have q1:(y==0)=false:=beq_false_of_ne hy0;have HE:Hid (PathI (pathV9 L Top nm s) w (.returned (.tuple #[.slice none 0 0,.int .i64 34])) w2):=hide (by
   rw[HV.out,if_neg hy0]
   exact⟨⟨none,0,rfl,Nat.le_refl _,by unfold maxLen;omega,⟨rfl,.inl rfl⟩,HB2.out⟩⟩)
  clear HV HR2 HT2 HB2 HX2 Hh HTh HHe HNe Hnl;go_wp2;go_ret2;exact HE
end Go.Proofs.YtlfglibcggphjaaGreatDoor
