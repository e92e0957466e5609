/- What layer 10's statements ask of a script first: whether it is few, told exactly of a script of one call. By an AI agent. -/
import Derived.Test.YtajkmiialgiikaaGreatDoorDU
import Derived.Test.YtajkmiialgiikaaGreatDoorEX
set_option linter.unusedSimpArgs false
set_option linter.unusedVariables false
set_option maxRecDepth 100000
set_option maxHeartbeats 64000000
namespace Go.Proofs.YtajkmiialgiikaaGreatDoor
open Go Go.RowKit
def cgE (c:CH):EN:=([],[c.2])
theorem cg_bulk {a:CH} (h:a.2.2.length<=1048576/\∀u∈a.2.2,u.length<=1048576):BulkN (cgE a):=
 ⟨by simp[cgE],by simp[cgE],fun b hb=>by
  obtain rfl:=List.mem_singleton.1 hb
  exact h⟩
theorem FewR.old {w wr wb w5:World} {v v':Value} {zs:List Value} {M:List EN} (h:FewR w wr v zs M) {S:ByteArray} {s:List UInt8} (hS:txt s=S) {L:List EA} {A:Option Addr} {c n:Nat} {xs:List Value} (hn:L.length=n) (hA:Has w w.heap.size 2 A n xs) (hL:EAs w w.heap.size xs L) (hc:L.length<=c) (hm:c<=maxLen)
  (hb:Below wr.heap.size wr wb) (hown:w5.ownsRow w.heap.size 38 2 v' (M.length+1) (zs++[.string S,.slice A n c])) (hb5:Below w.heap.size wb w5) (hg:wb.grownBy w5 v.ownBlock) (ht:v'.ownBlock=v.ownBlock\/v'.ownBlock=some wb.heap.size):
  FewR w w5 v' (zs++[.string S,.slice A n c]) (M++[(s,L)]):=by
 subst hS hn;have hg1:=h.grow hb;have hV:HasP wb (fun b=>b<wb.heap.size/\some b≠v.ownBlock) 2 A L.length xs:=by
  have h1:HasP w (fun b=>b<w.heap.size) 2 A L.length xs:=hA;exact h1.move (fun p hp=>hg1.base.cell hp) fun b hb2=>⟨Nat.lt_of_lt_of_le hb2 hg1.base.size,zK2 h.own hb2⟩
 have hE:EAsP wb (fun b=>b<wb.heap.size/\some b≠v.ownBlock) xs L:=
  hL.easP.move (fun p hp=>hg1.base.cell hp) fun b hb2=>⟨Nat.lt_of_lt_of_le hb2 hg1.base.size,zK2 h.own hb2⟩
 have h2:=hg1.ents.snoc (a:=(s,L)) (A:=A) (c:=c) hc hm hV hE;refine⟨by rw[List.length_append];exact hown,?_,hg1.base.trans hb5⟩;refine h2.move (fun p hp=>World.cell?_of_block (hg.block _ hp.1 hp.2)) fun b hb2=>⟨Nat.lt_of_lt_of_le hb2.1 hg.size,?_⟩
 rcases ht with ht | ht
 ·rw [ht];exact hb2.2
 ·rw [ht];intro q;injection q with q
  have:=hb2.1;omega
theorem zP2 (k:Int) (s1:List UInt8) (S2 S3:ByteArray) (b1 b2:Bool) (L:List EA) (cs:List CH) (w:World) (b:Nat) (A:Option Addr) (n c:Nat) (xs:List Value) (C:Option Addr) (m cc:Nat) (ys:List Value)
  (hB:Blk w b [.int .i64 k,.string (txt s1),.string S2,.string S3,.bool b1,.bool b2,.slice A n c,.slice C m cc]) (hA:Has w w.heap.size 2 A n xs) (hL:EAs w w.heap.size xs L) (hc:L.length<=c) (hmx:c<=maxLen) (hC:Has w w.heap.size 3 C m ys) (hCs:CHs w w.heap.size ys cs)
  (hbk:BulkN (s1,L)) (hm:m<=1048575) (hcv:∀a∈cs,a.2.2.length<=1048576/\∀u∈a.2.2,u.length<=1048576) (h2:S2.size<=1048576) (h3:S3.size<=1048576):
  Calls Tryz.prog 19 #[.slice (some ⟨b,0,none⟩) 1 1] w fun e w'=>e=.returned (.bool (decide (S2.size+S3.size<=3000)&&decide (nW ((s1,L)::cs.map cgE)<=3000)))/\Below w.heap.size w w':=by
 suffices H:Calls Tryz.prog 19 #[.slice (some ⟨b,0,none⟩) 1 1] w fun e w'=>Hid (e=.returned (.bool (decide (S2.size+S3.size<=3000)&&decide (nW ((s1,L)::cs.map cgE)<=3000)))/\Below w.heap.size w w') from H.mono fun e w' h=>h.out
 have hnl:=hA.eas_n hL;have hml:=hC.chs_n hCs;obtain⟨S1,hS1⟩:∃x,txt s1=x:=⟨_,rfl⟩;rw[hS1] at hB;have HS1:=hide hS1;clear hS1;have hb1:=below1 w (.cells #[.int .i64 k,.string S1,.string S2,.string S3,.bool b1,.bool b2,.slice A n c,.slice C m cc] 48);have hX:Blk (w.alloc (.cells #[.int .i64 k,.string S1,.string S2,.string S3,.bool b1,.bool b2,.slice A n c,.slice C m cc] 48)) w.heap.size [.int .i64 k,.string S1,.string S2,.string S3,.bool b1,.bool b2,.slice A n c,.slice C m cc]:=Blk.new w [.int .i64 k,.string S1,.string S2,.string S3,.bool b1,.bool b2,.slice A n c,.slice C m cc] 48;obtain⟨w1,hw1⟩:∃w1,w.alloc (.cells #[.int .i64 k,.string S1,.string S2,.string S3,.bool b1,.bool b2,.slice A n c,.slice C m cc] 48)=w1:=⟨_,rfl⟩;rw[hw1] at hb1 hX;have HA:=hide ((hA.below hb1).upto hb1.size);have HL:=hide (hL.grow hb1);have HC:=hide ((hC.below hb1).upto hb1.size);have HCs:Hid (CHs w1 w1.heap.size ys cs):=hide (hCs.grow hb1);have Hcc:=hide (And.intro hc hmx);have Hnl:=hide hnl;have Hml:=hide hml;have Hbk:=hide hbk;have Hcv:=hide hcv;have HX:=hide hX;have HB1:=hide hb1;have Hw1:=hide hw1;have o0:=hB.cells 0 _ rfl;have o1:=hB.cells 1 _ rfl;have o2:=hB.cells 2 _ rfl;have o3:=hB.cells 3 _ rfl;have o4:=hB.cells 4 _ rfl;have o5:=hB.cells 5 _ rfl;have o6:=hB.cells 6 _ rfl;have o7:=hB.cells 7 _ rfl;clear hB hA hL hC hCs hnl hml hcv hbk hb1 hX hw1 hc hmx;go_enter Tryz.func19,Tryz.ntmps19;go_wp2
 go_loopg [3,9] 1 (fun r s3 s9 wx=>(r=1/\s9=.int .i64 0/\s3=.slice none 0 0/\wx=w)\/(r=0/\s9=.int .i64 1/\S2.size+S3.size<=3000/\∃(zs:List Value),Hid (FewR w1 wx s3 zs ((s1,L)::cs.map cgE))))
 case atStart=>exact .inl ⟨rfl,rfl,rfl,rfl⟩
 case round=>
  rcases hrel with⟨rfl,rfl,rfl,hw⟩ | ⟨rfl,rfl,hle,zs,hR⟩
  ·obtain rfl:=hw.symm;clear hw;go_upto_region 6 with fail;rw[Hw1.out];clear o0 o1 o2 o3 o4 o5 o6 o7 Hw1;obtain⟨h,hh⟩:∃h,w.heap.size=h:=⟨_,rfl⟩;rw[hh] at HX;(try rw[hh]);have Hh:=hide hh;clear hh;have x1:=HX.out.cells 1 _ rfl;have x2:=HX.out.cells 2 _ rfl;have x3:=HX.out.cells 3 _ rfl;have x6:=HX.out.cells 6 _ rfl;by_cases hle:S2.size+S3.size<=3000
   ·have z1:¬((3000:Int)<(S2.size:Int)+(S3.size:Int)):=by omega
    have hbB:=below1 w1 (.cells #[.string S1,.slice A n c] 38);have hH:=Has.own (litY w1 (.string S1) (.slice A n c) 38 rfl rfl);have HbB:=hide hbB;have hs4:w1.heap.size<=(w1.alloc (.cells #[.string S1,.slice A n c] 38)).heap.size:=hbB.size;have h1c:∀u∈[Value.string S1,Value.slice A n c],u.oneCell'=true:=by simp[Value.oneCell']
    clear hbB h2 h3;go_wp2_with (at_builtin;go_must (refine appN _ 22 38 _ 2 40 Tryz.underlying22 infoEN rfl (by omega) (by omega) rfl (.tmp 28) (.tmp 34) rfl w1.heap.size _ 0 [] rfl (nil_own _ _ _ _) _ _ 1 1 [.string S1,.slice A n c] rfl hH h1c (by omega) hs4 ?_));intro v5 w5 hown5 hb5 hg5 ht5;have HR5:Hid (FewR w1 w5 v5 [.string S1,.slice A n c] [(s1,L)]):=hide (FewR.old (M:=[]) ⟨nil_own _ _ _ _,ENsP.nil,Below.refl _ _⟩ HS1.out Hnl.out.symm HA.out HL.out Hcc.out.1 Hcc.out.2 HbB.out (by simpa using hown5) hb5 hg5 (by simpa using ht5));clear hown5 hb5 hg5 ht5 HbB hH hs4 h1c x1 x2 x3 x6;have x7:=(HX.out.grow HR5.out.base).cells 7 _ rfl;go_wp2
    go_loopg [3,39] m (fun r s3 s39 wx=>∃(i:Nat) (zs:List Value) (M:List EN),i+r=m/\s39=.int .i64 (i:Int)/\Hid (FewR w1 wx s3 zs M)/\Hid (M=(s1,L)::(cs.take i).map cgE))
    case atStart=>exact⟨0,_,_,by omega,rfl,HR5,hide rfl⟩
    case round=>
     clear HR5 x7;obtain⟨i,zs,M,hig,rfl,hR,hM⟩:=hrel;obtain⟨A3,cc3,rfl,_,hA3⟩:=zAh hR.out.own;cases gk with
     | zero=>
      obtain rfl:i=m:=by omega
      have hiz:¬((i:Int)<(i:Int)):=(by omega);have hMe:M=(s1,L)::cs.map cgE:=(by rw[hM.out,List.take_of_length_le (by rw[Hml.out];exact Nat.le_refl _)]);obtain⟨lm,hlm⟩:∃x,M.length=x:=⟨_,rfl⟩;have HR9:Hid (FewR w1 wr (.slice A3 lm cc3) zs ((s1,L)::cs.map cgE)):=hide (by rw[<-hlm,<-hMe];exact hR.out);rw[hlm];clear hM HX hA3 hR hMe hlm;go_wp2
      go_roundg 0
      case measure=>omega
      case rel=>exact .inr ⟨rfl,by go_num,hle,_,HR9⟩
     | succ r=>
      have hi:i<m:=(by omega);have hiz:(i:Int)<(m:Int):=(by omega);obtain⟨a,ha⟩:∃a,cs[i]?=some a:=⟨_,List.getElem?_eq_getElem (by rw[<-Hml.out];exact hi)⟩;have ham:=List.mem_of_getElem? ha;obtain⟨g,o,hCe,hg,hat⟩:=HC.out.ch HCs.out (fun h=>by rw[h] at ha;simp at ha);obtain⟨V,cv,hat⟩:=hat i a ha;have x7:=(HX.out.grow hR.out.base).cells 7 _ rfl;rw[hCe] at x7;have hat2:=hat.below hg hR.out.base;have e1:=hat2.e1;have e2:=hat2.e2;have e3:wr.cell? ⟨g,o+i*3+1+1,none⟩=some (.slice V a.2.2.length cv):=hat2.e2;obtain⟨TA,hTA⟩:∃S,txt a.2.1=S:=⟨_,rfl⟩;rw[hTA] at e1;have Hat:=hide hat;have Hch:=hide (show (cs.take (i+1)).map cgE=(cs.take i).map cgE++[([],[a.2])] by rw[List.take_add_one,ha,List.map_append];rfl);obtain⟨kv,hkv⟩:∃kv,a.2.2.length=kv:=⟨_,rfl⟩;rw[hkv] at e2 e3;have hbA:=below1 wr (.cells #[.string TA,.slice V kv cv] 60);have hXA:=BoxE.new wr TA V kv cv 60;obtain⟨wa,hwa⟩:∃wa,wr.alloc (.cells #[.string TA,.slice V kv cv] 60)=wa:=⟨_,rfl⟩;rw[hwa] at hbA hXA;have hbB:=below1 wa (.cells #[.string ⟨#[]⟩,.slice (some ⟨wr.heap.size,0,none⟩) 1 1] 38);have hlit:=litY wa (.string ⟨#[]⟩) (.slice (some ⟨wr.heap.size,0,none⟩) 1 1) 38 rfl rfl;have hH:=Has.own hlit;have hsz:wa.heap.size=wr.heap.size+1:=by rw[<-hwa];simp
      rw[hsz] at hH;have hbb:=hbA.trans (hbB.mono hbA.size);have hown:=zAe hR.out.own hbb;have hs4:w1.heap.size<=_:=Nat.le_trans hR.out.base.size hbb.size;have h1c:∀u∈[Value.string ⟨#[]⟩,Value.slice (some ⟨wr.heap.size,0,none⟩) 1 1],u.oneCell'=true:=by simp[Value.oneCell']
      have hai:M.length+1<=2000000:=(by rw[hM.out,List.length_cons,List.length_map,List.length_take];omega);have hcB:=hXA.grow hbB;have HF:=hide (And.intro hbb (And.intro (show wr.heap.size<(wa.alloc (.cells #[.string ⟨#[]⟩,.slice (some ⟨wr.heap.size,0,none⟩) 1 1] 38)).heap.size from hcB.lt) (And.intro hcB.c0 hcB.c1)));have HTA:=hide hTA;have Hkv:=hide hkv;have HCe:=hide hCe;subst hwa;clear hsz hat hat2 hbA hXA hbB hlit hbb hcB ha ham hA3 hTA hkv hCe;go_wp2_with (at_builtin;go_must (refine appN _ 22 38 _ 2 40 Tryz.underlying22 infoEN rfl (by omega) (by omega) rfl (.tmp 42) (.tmp 51) rfl w1.heap.size _ M.length zs rfl hown _ _ 1 1 [.string ⟨#[]⟩,.slice (some ⟨wr.heap.size,0,none⟩) 1 1] rfl hH h1c hai hs4 ?_));intro v5 w5 hown5 hb5 hg5 ht5;obtain⟨hbb,hlt,hc0,hc1⟩:=HF.out;have hc0:=hc0.trans (show some (Value.string TA)=some (.string (txt a.2.1)) by rw[HTA.out]);have hc1:=hc1.trans (show some (Value.slice V kv cv)=some (.slice V a.2.2.length cv) by rw[Hkv.out]);have HR5:=hide (hR.out.snoc Hat.out.has Hat.out.cap Hat.out.most hbb hlt hc0 hc1 hown5 hb5 hg5 (by simpa using ht5));have HM5:Hid (M++[(([],[a.2]):EN)]=(s1,L)::(cs.take (i+1)).map cgE):=hide (by rw[Hch.out,hM.out];rfl);clear hbb hlt hc0 hc1 hown5 hb5 hg5 ht5 hown hH h1c hs4 hR hM e1 e2 e3 HF x7;go_wp2
      go_roundg r
      case measure=>omega
      case rel=>exact⟨i+1,_,_,by omega,by go_num,HR5,HM5⟩
   ·have z1:((3000:Int)<(S2.size:Int)+(S3.size:Int)):=by omega
    clear HX HA HL HC HCs Hcv Hbk x1 x6;go_wp2;go_ret;exact hide ⟨by rw[decide_eq_false hle];rfl,HB1.out⟩
  ·clear o0 o1 o2 o3 o4 o5 o6 o7;obtain⟨A3,cc3,rfl,_,hA3⟩:=zAh hR.out.own;have hln:((s1,L)::cs.map cgE).length<=1048576:=by rw[List.length_cons,List.length_map,<-Hml.out];omega
   have hS:=zKp ((s1,L)::cs.map cgE) wr A3 _ cc3 zs hA3 (hR.out.ents.ens fun b hb=>hb.1) (by omega) (fun e he=>by
    rcases List.mem_cons.1 he with rfl | he
    ·exact Hbk.out
    ·obtain ⟨a,ha,rfl⟩:=List.mem_map.1 he
     exact cg_bulk (Hcv.out a ha))
   obtain⟨bb,hbb⟩:∃x,decide (nW ((s1,L)::cs.map cgE)<=3000)=x:=⟨_,rfl⟩;rw[hbb] at hS;have HS:=hide hS;have Hbb:=hide hbb;have HB:=hide (HB1.out.trans (hR.out.base.mono HB1.out.size));obtain⟨ml,hml⟩:∃x,((s1,L)::cs.map cgE).length=x:=⟨_,rfl⟩;rw[hml] at HS ⊢;clear hS hA3 hR hbb hml HX HA HL HC HCs Hcv Hbk;go_wp2_with (go_at_call 7;fail);refine HS.out.mono ?_;rintro e w2 ⟨rfl,hw2⟩;obtain rfl:=hw2.symm;clear hw2 HS;go_wp2;go_ret;exact hide ⟨by rw[Hbb.out,decide_eq_true hle];rfl,HB.out⟩
end Go.Proofs.YtajkmiialgiikaaGreatDoor
