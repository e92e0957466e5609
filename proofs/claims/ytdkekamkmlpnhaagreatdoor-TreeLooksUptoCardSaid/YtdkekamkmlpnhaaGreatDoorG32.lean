/- Both trees of entries that a statement begins with. By an AI agent. -/
import Derived.Test.YtdkekamkmlpnhaaGreatDoorG26
import Derived.Test.YtdkekamkmlpnhaaGreatDoorEY
import Derived.Test.YtdkekamkmlpnhaaGreatDoorG24
import Derived.Test.YtdkekamkmlpnhaaGreatDoorG25
import Derived.Test.YtdkekamkmlpnhaaGreatDoorG19
import Derived.Test.YtdkekamkmlpnhaaGreatDoorEN
set_option linter.unusedSimpArgs false
set_option linter.unusedVariables false
set_option maxRecDepth 100000
set_option maxHeartbeats 32000000
namespace Go.Proofs.YtdkekamkmlpnhaaGreatDoor
open Go Go.RowKit
def WeeL (L:List EN):Prop:=∀e∈L,e.1.length<=900000/\e.2.length<=1000000/\∀a∈e.2,a.1.length<=1048576/\a.2.length<=1000000/\∀u∈a.2,u.length<=1000000
structure BeginPost (L:List EN) (w:World) (e:Ending) (w':World):Prop where
 out:Below w.heap.size w w'/\(e=.returned (.tuple #[.pointer none,.pointer none])\/∃q qr A c ys,e=.returned (.tuple #[.pointer (some ⟨q,0,none⟩),.pointer (some ⟨qr,0,none⟩)])/\(∀x∈sortN L,FormedE x.1 x.2)/\SortedP (sortN L)/\TreeR w' q (sortN L)/\qr<w'.heap.size/\w'.cell? ⟨qr,0,none⟩=some (.slice A (sortN L).length c)/\Has w' w'.heap.size 2 A (sortN L).length ys/\ENs w' w'.heap.size ys (sortN L))
theorem zOe (L:List EN) (w:World) (A:Option Addr) (n c:Nat) (xs:List Value) (hA:Has w w.heap.size 2 A n xs) (hL:ENs w w.heap.size xs L) (hn:n<=100000) (hwe:WeeL L) (hty:TypesN L) (hT:TM w):
  Calls Tryz.prog 12 #[.slice A n c] w (BeginPost L w):=by
 suffices H:Calls Tryz.prog 12 #[.slice A n c] w fun e w'=>Hid (BeginPost L w e w') from H.mono fun e w' h=>h.out
 have HOf:=hide (zRe L w A n c xs hA hL hn hwe hT);have HRf:Hid (∀w3,Below w.heap.size w w3->Calls Tryz.prog 9 #[.slice A n c] w3 (TreePostX L w3)):=hide (fun w3 hb=>zNt L w3 A n c xs ((hA.below hb).upto hb.size) (hL.grow hb) hn (fun e he=>⟨by have:=(hwe e he).1;omega,(hwe e he).2.1,fun a ha=>((hwe e he).2.2 a ha).2⟩) hty (hT.below hb));clear hA hL hn hwe hty hT;go_enter Tryz.func12,Tryz.ntmps12;go_wp2_with (go_at_call 8;fail);refine HOf.out.mono ?_;rintro e w3 hp3;obtain⟨hb3,hp3⟩:=hp3.out;have HB3:=hide hb3;clear HOf hb3;rcases hp3 with⟨rfl,hbad⟩ | ⟨q,M,rfl,hgood,htree⟩
 ·have hno:=hide (bad_no hbad);clear hbad;go_wp2_with (go_at_call 9;fail);refine (HRf.out w3 HB3.out).mono ?_;rintro e w4 hp4;obtain⟨p,y,rfl,hp4,hb4⟩:=hp4.out;rcases hp4 with⟨rfl,rfl,_⟩ | ⟨_,hok,_⟩
  ·have HE:=hTz HB3 hb4;clear hb4 hno HRf HB3;go_wp2;go_ret2;exact hide ⟨⟨HE.out,.inl rfl⟩⟩
  ·exact absurd hok hno.out
 ·obtain ⟨hok,rfl⟩:=zPl hgood;have Htree:=hide htree;have Hfm:Hid (∀e∈sortN L,FormedE e.1 e.2):=hide fun e he=>hok.formed e (zBm he)
  have Hok:=hide hok;have Hso:Hid (SortedP (sortN L)):=hide (zCg hgood.2.2.1 (fun e he=>⟨(hok.formed e he).loose.norm,(hok.formed e he).loose.ne⟩) (zGx hok));clear hgood htree hok;go_wp2_with (go_at_call 9;fail);refine (HRf.out w3 HB3.out).mono ?_;rintro e w4 hp4;obtain⟨p,y,rfl,hp4,hb4⟩:=hp4.out;rcases hp4 with⟨_,_,hno⟩ | ⟨rfl,_,qr,A4,c4,ys4,rfl,k1,k2,k3,k4,k5,k6⟩
  ·exact absurd Hok.out hno
  have HE:Hid (BeginPost L w (.returned (.tuple #[.pointer (some ⟨q,0,none⟩),.pointer (some ⟨qr,0,none⟩)])) w4):=hide ⟨⟨HB3.out.trans (hb4.mono HB3.out.size),.inr ⟨q,qr,A4,c4,ys4,rfl,Hfm.out,Hso.out,Htree.out.grow hb4,k1,k2,k5,k6⟩⟩⟩;clear hp4 hb4 k1 k2 k3 k4 k5 k6 HRf Htree Hok HB3 Hfm Hso;go_wp2;go_ret2;exact HE
end Go.Proofs.YtdkekamkmlpnhaaGreatDoor
namespace Go.Proofs.YtdkekamkmlpnhaaGreatDoor
open Go Go.RowKit
structure AtT (N:List EN) (nm:List UInt8) (w:World) (e:Ending) (w':World):Prop where
 out:Below w.heap.size w w'/\((∃(k:Nat) (x:EN),e=.returned (.tuple #[.int .i64 (k:Int),.int .i64 0])/\N[k]?=some x/\(normT nm).2=0/\x.1=(normT nm).1)\/∃y:Int,e=.returned (.tuple #[.int .i64 0,.int .i64 y])/\y≠0/\∀x∈N,¬((normT nm).2=0/\x.1=(normT nm).1))
theorem tat_any (N:List EN) (nm:List UInt8) (w:World) (q:Nat) (hR:TreeR w q N) (hs:SortedP N) (hf:FitN N) (hF:∀e∈N,FormedE e.1 e.2) (hnm:nm.length<=1000000) (hT:TM w):
  Calls Tryz.prog 39 #[.pointer (some ⟨q,0,none⟩),.string (txt nm)] w (AtT N nm w):=by
 suffices H:Calls Tryz.prog 39 #[.pointer (some ⟨q,0,none⟩),.string (txt nm)] w fun e w'=>Hid (AtT N nm w e w') from H.mono fun e w' h=>h.out
 have HN:=hide (zBk nm hnm w hT);obtain⟨T,hTt⟩:∃T,(normT nm).1=T:=⟨_,rfl⟩;obtain⟨y,hy⟩:∃y,(normT nm).2=y:=⟨_,rfl⟩;obtain⟨TS,hTS⟩:∃TS,txt T=TS:=⟨_,rfl⟩;rw[hTt,hy,hTS] at HN;obtain⟨S,hS⟩:∃S,txt nm=S:=⟨_,rfl⟩;rw[hS] at HN ⊢;have HR:=hide hR;have Hs:=hide hs;have Hf:=hide hf;have HF:=hide hF;have HT:=hide hT;have Ht:=hide (And.intro hTt hy);have HTS:=hide hTS;have Ha:Hid (y=0->normT T=(T,0)/\T.length<=1000):=hide (fun h=>by
  have:=zBt (l:=nm) (by rw[hy];exact h)
  rw[hTt] at this
  refine⟨?_,this.2⟩
  rw[this.1]
  exact Prod.ext hTt (hy.trans h))
 clear hR hs hf hF hT hTt hy hTS hS hnm;go_enter Tryz.func39,Tryz.ntmps39;go_wp2_with (go_at_call 42;fail);refine HN.out.mono ?_;rintro e w2 ⟨rfl,hb2⟩;have HB2:=hide hb2;clear hb2 HN;by_cases hy0:y=0
 ·subst hy0;by_cases hT0:T=[]
  ·have hq2:TS=⟨#[]⟩:=by rw[<-HTS.out,hT0];rfl
   have HE:Hid (AtT N nm w (.returned (.tuple #[.int .i64 0,.int .i64 34])) w2):=hide ⟨⟨HB2.out,.inr ⟨34,rfl,by decide,fun x hx hc=>(HF.out x hx).loose.ne (by rw[hc.2,Ht.out.1];exact hT0)⟩⟩⟩;subst hq2;clear HR Hs Hf HF HT Ht HTS Ha HB2 hT0;go_wp2;go_ret2;exact HE
  ·have hq:¬TS=⟨#[]⟩:=fun h=>hT0 (by
    rw[<-HTS.out] at h
    have:=congrArg (fun s:ByteArray=>s.toList) h
    simpa using this)
   obtain⟨hn,hl⟩:=Ha.out rfl;have hp:pathV T=(cuts 44 T).reverse:=by unfold pathV;rw[if_neg hT0]
   have hcl:=zDd 44 T (by decide);have hc0:cuts 44 T≠[]:=fun q=>zBx hn hT0 (by rw[hp,q];rfl)
   have HP:Hid (Calls Tryz.prog 43 #[.string TS] w2 (PathPost (pathV T) w2)):=hide (by
    have:=zF4 T hT0 (by omega) hc0 (by omega) w2
    rwa [<-hp,HTS.out] at this)
   have Hn:=hide (And.intro hn hT0);have e0:(TS.toList==([]:List UInt8))=false:=by rw[<-HTS.out];simpa using hT0
   have e1:(TS.toList.isEmpty)=false:=by rw[<-HTS.out];simpa using hT0
   have Hq:=hide hq;clear hn hl hp hcl hc0 hT0 Ha hq;go_wp2_with (go_at_call 43;fail);refine HP.out.mono ?_;rintro e w3 hp3;obtain⟨A,c,rfl,k1,k2,hP3,hb3⟩:=hp3.out;have hb:=HB2.out.trans (hb3.mono HB2.out.size);obtain⟨B,d,xs,hQ,hA,hN⟩:=(HR.out.grow hb).out;have HFi:=hide (zGy N (pathV T) w3 q B d xs A (pathV T).length c hQ hA hN Hs.out (by have:=Hf.out.len;omega) Hf.out.path (hP3.has fun b hb=>hb.2));have HB3:=hide hb;clear hp3 k1 k2 hP3 hb3 hb hQ hA hN HP HB2;generalize (pathV T).length=kp at *;go_wp2_with (go_at_call 55;fail);refine HFi.out.mono ?_;rintro e w4 hp4;obtain⟨k,b,rfl,_,hyes,hno,hb4⟩:=hp4.out;have HB4:=hTz HB3 hb4;cases b with
   | true=>
    obtain⟨x,hx,hpx⟩:=hyes rfl;have HE:Hid (AtT N nm w (.returned (.tuple #[.int .i64 (k:Int),.int .i64 0])) w4):=hide ⟨⟨HB4.out,.inl ⟨k,x,rfl,hx,Ht.out.2,by
     have hfx:=HF.out x (List.mem_of_getElem? hx)
     rw[Ht.out.1]
     exact zFk hfx.loose.norm hfx.loose.ne Hn.out.1 Hn.out.2 hpx⟩⟩⟩
    clear hp4 hyes hno hb4 HB4 HB3 hx hpx HR Hs Hf HF HT Ht HTS HFi Hn;go_wp2;go_ret2;exact HE
   | false=>
    have hno:=hno rfl;have HE:Hid (AtT N nm w (.returned (.tuple #[.int .i64 0,.int .i64 32])) w4):=hide ⟨⟨HB4.out,.inr ⟨32,rfl,by decide,fun x hx hc=>hno x hx (by rw[hc.2,Ht.out.1])⟩⟩⟩;clear hp4 hyes hno hb4 HB4 HB3 HR Hs Hf HF HT Ht HTS HFi Hn;go_wp2;go_ret2;exact HE
 ·have HE:Hid (AtT N nm w (.returned (.tuple #[.int .i64 0,.int .i64 34])) w2):=hide ⟨⟨HB2.out,.inr ⟨34,rfl,by decide,fun x hx hc=>hy0 (by rw[<-Ht.out.2];exact hc.1)⟩⟩⟩;clear HR Hs Hf HF HT Ht HTS Ha HB2;go_wp2;go_ret2;exact HE
end Go.Proofs.YtdkekamkmlpnhaaGreatDoor
namespace Go.Proofs.YtdkekamkmlpnhaaGreatDoor
open Go Go.RowKit
structure GetT (N:List EN) (nm:List UInt8) (w:World) (e:Ending) (w':World):Prop where
 out:Below w.heap.size w w'/\((∃(x:EN) (A:Option Addr) (c:Nat) (ys:List Value),x∈N/\(normT nm).2=0/\x.1=(normT nm).1/\e=.returned (.tuple #[.agg #[.string (txt x.1),.slice A x.2.length c],.bool true])/\x.2.length<=c/\c<=maxLen/\HasP w' (NewB w.heap.size w'.heap.size) 2 A x.2.length ys/\EAsP w' (NewB w.heap.size w'.heap.size) ys x.2)\/(e=.returned (.tuple #[.agg #[.string ⟨#[]⟩,.slice none 0 0],.bool false])/\∀x∈N,¬((normT nm).2=0/\x.1=(normT nm).1)))
theorem tget_any (N:List EN) (nm:List UInt8) (w:World) (q:Nat) (hR:TreeR w q N) (hs:SortedP N) (hf:FitN N) (hF:∀e∈N,FormedE e.1 e.2) (hW:WideN N) (hnm:nm.length<=1000000) (hT:TM w):
  Calls Tryz.prog 13 #[.pointer (some ⟨q,0,none⟩),.string (txt nm)] w (GetT N nm w):=by
 suffices H:Calls Tryz.prog 13 #[.pointer (some ⟨q,0,none⟩),.string (txt nm)] w fun e w'=>Hid (GetT N nm w e w') from H.mono fun e w' h=>h.out
 have hb1:Below w.heap.size w (w.alloc (.cells #[.string ⟨#[]⟩,.slice none 0 0] 38)):=below1 w _;have hX:Blk (w.alloc (.cells #[.string ⟨#[]⟩,.slice none 0 0] 38)) w.heap.size [.string ⟨#[]⟩,.slice none 0 0]:=Blk.new w [.string ⟨#[]⟩,.slice none 0 0] 38;obtain⟨w1,hw1⟩:∃w1,w.alloc (.cells #[.string ⟨#[]⟩,.slice none 0 0] 38)=w1:=⟨_,rfl⟩;have hs1:w1.heap.size=w.heap.size+1:=by rw[<-hw1];simp
 rw[hw1] at hb1 hX;have HA:=hide (tat_any N nm w1 q (hR.grow hb1) hs hf hF hnm (hT.below hb1));obtain⟨S,hS⟩:∃S,txt nm=S:=⟨_,rfl⟩;rw[hS] at HA ⊢;have HB:=hide hb1;have HX:=hide hX;have Hw1:=hide hw1;have Hs1:=hide hs1;have HR:=hide (hR.grow hb1);have HW:=hide hW;clear hb1 hX hw1 hs1 hR hs hf hF hW hnm hT hS;go_enter Tryz.func13,Tryz.ntmps13;go_upto_region 1 with fail;rw[Hw1.out];obtain⟨h,hh⟩:∃h,w.heap.size=h:=⟨_,rfl⟩;have Hh:=hide hh;rw[hh] at HX;(try rw[hh]);clear hh Hw1;go_wp2_with (go_at_call 39;fail);refine HA.out.mono ?_;rintro e w2 hp2;obtain⟨hb2,hp2⟩:=hp2.out;have HB2:=hide hb2;have HX2:=hide (HX.out.grow hb2);rcases hp2 with⟨k,x,rfl,hx,hy,hxe⟩ | ⟨y,rfl,hy,hno⟩
 ·have Hxx:=hide (And.intro hx (And.intro hy hxe));obtain⟨A,d,xs,hQ,hA,hN⟩:=(HR.out.grow hb2).out;have hB:=hA.has (B:=w2.heap.size) fun b hb=>hb
  have hlt:k<N.length:=(List.getElem?_eq_some_iff.1 hx).1;obtain⟨g,o,hAe,hg,hc⟩:=hB.lies (by have:=hB.1;omega);obtain⟨V,cv,ys,Q,dq,t0,t1,t2,q1,q2,q3,q4,h4,h5,h6⟩:=hN.each k x hx;subst hAe;have k0:=hQ.cells 0 _ rfl;have c0:=hc _ _ t0;have c1:w2.cell? ⟨g,o+k*3+1,none⟩=some (.slice V x.2.length cv):=by have:=hc _ _ t1;rwa [<-Nat.add_assoc] at this
  have hve:=HW.out.2 x (List.mem_of_getElem? hx);have HCo:Hid (Calls Tryz.prog 27 #[.agg #[.string (txt x.1),.slice V x.2.length cv]] w2 (EntPost x w2)):=hide (zCh x.1 x.2 w2 V _ cv ys (h4.has fun b hb=>hb) (h5.eas fun b hb=>hb) hve.2.1 hve.1 hve.2.2);have hkn:(k:Int)<(N.length:Int):=by omega
  have hkn2:k<N.length:=hlt;have hn6:N.length<=100000:=HW.out.1;obtain⟨n,hn⟩:∃n,N.length=n:=⟨_,rfl⟩;rw[hn] at k0 hkn hkn2 hn6;obtain⟨XS,hXS⟩:∃y,txt x.1=y:=⟨_,rfl⟩;obtain⟨kx,hkx⟩:∃y,x.2.length=y:=⟨_,rfl⟩;have HXS:=hide hXS;have Hkx:=hide hkx;rw[hXS] at c0 HCo;rw[hkx] at c1 HCo;clear hb2 hx hy hxe hQ hA hN hB hc t0 t1 t2 q1 q2 q3 q4 h4 h5 h6 hve hXS hkx hlt hn HA HR HW HX;go_wp2_with (go_at_call 27;fail);refine HCo.out.mono ?_;rintro e' w5 hp5;obtain⟨A5,c5,ys5,rfl,r1,r2,hH5,hE5,hb5⟩:=hp5.out;rw[HXS.out,Hkx.out];have HX5:=hide (HX2.out.grow hb5);have z0:=HX5.out.cells 0 _ rfl;have z1:=HX5.out.cells 1 _ rfl;have hfz:=HX5.out.fz;have HP5:=hide (And.intro r1 (And.intro r2 (And.intro hH5 (And.intro hE5 hb5))));clear hp5 r1 r2 hH5 hE5 hb5 HCo k0 c0 c1 HX2;go_wp2;have hfin:Blk ((w5.setCell ⟨h,0,none⟩ (.string XS)).setCell ⟨h,1,none⟩ (.slice A5 kx c5)) h [.string XS,.slice A5 kx c5]:=(HX5.out.set 0 (.string XS) (by simp)).set 1 (.slice A5 kx c5) (by simp)
  (try simp only[Exit.inBlock,Exit.then])
  refine bodyPost_ret (v:=.tuple #[.agg #[.string XS,.slice A5 kx c5],.bool true]) ?_ rfl ?_
  ·exact zBp rfl _ _ h [.string XS,.slice A5 kx c5] _ _ rfl rfl hfin.range Tryz.underlying38 rfl (by kernel_rfl)
  have hsz:((w5.setCell ⟨h,0,none⟩ (.string XS)).setCell ⟨h,1,none⟩ (.slice A5 kx c5)).heap.size=w5.heap.size:=by simp[World.setCell]
  obtain⟨p1,p2,p3,p4,p5⟩:=HP5.out;have hw1:=HB.out.size;have hw2:=HB2.out.size;have far:∀p:Addr,NewB w2.heap.size w5.heap.size p.block->((w5.setCell ⟨h,0,none⟩ (.string XS)).setCell ⟨h,1,none⟩ (.slice A5 kx c5)).cell? p=w5.cell? p:=fun p hp=>by
   have hne:h≠p.block:=by have:=hp.1;have:=Hs1.out;have:=Hh.out;omega
   rw[World.cell?_setCell_far _ _ _ _ hne,World.cell?_setCell_far _ _ _ _ hne]
  have hlow:w.heap.size<=h:=by rw[Hh.out];exact Nat.le_refl _
  have hbb:Below w.heap.size w w5:=HB.out.trans ((HB2.out.trans (p5.mono hw2)).mono hw1);refine hide ⟨⟨(hbb.setCell (p:=⟨h,0,none⟩) hlow _).setCell (p:=⟨h,1,none⟩) hlow _,.inl ⟨x,A5,c5,ys5,List.mem_of_getElem? Hxx.out.1,Hxx.out.2.1,Hxx.out.2.2,by rw[HXS.out,Hkx.out],p1,p2,?_,?_⟩⟩⟩
  ·rw [hsz];exact p3.move far fun b hb=>⟨Nat.le_trans (Nat.le_trans hw1 hw2) hb.1,hb.2⟩
  ·rw [hsz];exact p4.move far fun b hb=>⟨Nat.le_trans (Nat.le_trans hw1 hw2) hb.1,hb.2⟩
 ·have z0:=HX2.out.cells 0 _ rfl;have z1:=HX2.out.cells 1 _ rfl;have hfz:=HX2.out.fz;have Hno:=hide hno;clear hb2 HA HR HW HX hno;go_wp2;have hfin:Blk ((w2.setCell ⟨h,0,none⟩ (.string ⟨#[]⟩)).setCell ⟨h,1,none⟩ (.slice none 0 0)) h [.string ⟨#[]⟩,.slice none 0 0]:=(HX2.out.set 0 (.string ⟨#[]⟩) (by simp)).set 1 (.slice none 0 0) (by simp)
  (try simp only[Exit.inBlock,Exit.then])
  refine bodyPost_ret (v:=.tuple #[.agg #[.string ⟨#[]⟩,.slice none 0 0],.bool false]) ?_ rfl ?_
  ·exact zBp rfl _ _ h [.string ⟨#[]⟩,.slice none 0 0] _ _ rfl rfl hfin.range Tryz.underlying38 rfl (by kernel_rfl)
  have hlow:w.heap.size<=h:=by rw[Hh.out];exact Nat.le_refl _
  exact hide ⟨⟨((HB.out.trans (HB2.out.mono HB.out.size)).setCell (p:=⟨h,0,none⟩) hlow _).setCell (p:=⟨h,1,none⟩) hlow _,.inr ⟨rfl,Hno.out⟩⟩⟩
end Go.Proofs.YtdkekamkmlpnhaaGreatDoor
namespace Go.Proofs.YtdkekamkmlpnhaaGreatDoor
open Go Go.RowKit
theorem zRy {a b:List UInt8} (ha:normT a=(a,0)) (hb:normT b=(b,0)) (h:pathV a=pathV b):a=b:=by
 by_cases h0:a=[]
 ·by_cases h1:b=[]
  ·rw [h0,h1]
  ·rw [h0] at h;exact absurd (h.symm.trans rfl) (zBx hb h1)
 ·by_cases h1:b=[]
  ·rw [h1] at h;exact absurd (h.trans rfl) (zBx ha h0)
  ·exact zFk ha h0 hb h1 h
theorem zSu {a n:List UInt8} (ha:normT a=(a,0)) (hne:a≠[]) (hn:normT n=(n,0)):((pathV a).length=(pathV n).length+1/\(pathV a).take (pathV n).length=pathV n)↔(parentV a).1=n:=by
 obtain⟨h1,h2⟩:=zDj ha hne;have h3:=zBx ha hne;constructor
 ·rintro ⟨hl,ht⟩;refine zRy h1 hn ?_;rw[h2,List.dropLast_eq_take,hl,Nat.add_sub_cancel];exact ht
 ·rintro rfl;have h4:(pathV a).length≠0:=by simpa using h3
  rw[h2];refine⟨by rw[List.length_dropLast];omega,?_⟩;rw[List.length_dropLast,List.dropLast_eq_take]
noncomputable def kidsN (N:List EN) (n:List UInt8):List (List UInt8):=(N.filter fun e=>decide ((parentV e.1).1=n)).map (·.1)
theorem zMn {N:List EN} {i:Nat} {e:EN} {n:List UInt8} (h:N[i]?=some e) (hp:(parentV e.1).1=n):kidsN (N.take (i+1)) n=kidsN (N.take i) n++[e.1]:=by
 unfold kidsN;rw[List.take_add_one,h];simp[hp]
theorem zS3 {N:List EN} {i:Nat} {e:EN} {n:List UInt8} (h:N[i]?=some e) (hp:¬(parentV e.1).1=n):kidsN (N.take (i+1)) n=kidsN (N.take i) n:=by
 unfold kidsN;rw[List.take_add_one,h];simp[hp]
theorem zIj (N:List EN) (n:List UInt8) (i:Nat):(kidsN (N.take i) n).length<=i:=by
 unfold kidsN;rw[List.length_map];have h1:=List.length_filter_le (fun e:EN=>decide ((parentV e.1).1=n)) (N.take i);have h2:=List.length_take_le i N;omega
open Classical in
noncomputable def kidsQ (N:List EN) (nm:List UInt8):List (List UInt8):=if (normT nm).2=0 then kidsN N (normT nm).1 else []
theorem zRj {w:World} {B k j:Nat} {P:Option Addr} {K:List (List UInt8)} (h:Has w B 1 P k (strs K)) (hj:j<=k):Has w B 1 P j (strs (K.take j)):=by
 have hs:strs (K.take j)=(strs K).take j:=by unfold strs;rw[List.map_take]
 rw[hs];refine⟨by rw[List.length_take];have:=h.1;omega,?_⟩;rcases h.2 with h2 | ⟨ad,e,hb,hc⟩
 ·exact .inl (by rw[h2];simp)
 ·refine .inr ⟨ad,e,hb,fun j2 u hu=>hc j2 u ?_⟩;rw[List.getElem?_take] at hu;split at hu
  ·exact hu
  ·cases hu
theorem zFd {w:World} {base:Nat} {E:TypeId} {v:Value} {A B:List (List UInt8)} (h:w.ownsRow base E 1 v A.length (strs A)) (hAB:B=A):w.ownsRow base E 1 v B.length (strs B):=by rw[hAB];exact h
theorem zJ7 (L:List (List UInt8)) (x:List UInt8):strs (L++[x])=strs L++[.string (txt x)]:=by simp[strs]
end Go.Proofs.YtdkekamkmlpnhaaGreatDoor
set_option maxHeartbeats 64000000
namespace Go.Proofs.YtdkekamkmlpnhaaGreatDoor
open Go Go.RowKit
theorem zN8 (P B:List (List UInt8)) (w:World) (g o:Nat) (D:Option Addr) (n c m d:Nat) (hA:Has w w.heap.size 1 (some ⟨g,o,none⟩) n (strs P)) (hB:Has w w.heap.size 1 D m (strs B)) (hn:n<=1100000) (hm:m<=1000000) (hc:n<=c) (hcm:c<=maxLen) (b:Bool) (hb:b=true↔(m<=n/\P.take m=B)):
  Calls Tryz.prog 44 #[.slice (some ⟨g,o,none⟩) n c,.slice D m d] w fun e w'=>e=.returned (.bool b)/\Below w.heap.size w w':=by
 unfold maxLen at hcm;by_cases hmn:m<=n
 ·have HE:Hid (Calls Tryz.prog 77 #[.slice (some ⟨g,o,none⟩) m c,.slice D m d] w fun e w'=>e=.returned (.bool b)/\Below w.heap.size w w'):=hide (by
   refine (zSd w (some ⟨g,o,none⟩) D m c m d (P.take m) B (zRj hA hmn) hB hm hm).mono ?_
   rintro e w' ⟨rfl,h⟩
   refine⟨?_,h⟩
   congr 2
   cases b with
   | false=>exact decide_eq_false fun h=>by have:=hb.2 ⟨hmn,h⟩;cases this
   | true=>exact decide_eq_true (hb.1 rfl).2)
  have hz:((m:Int)<=(n:Int)):=by omega
  have hmc:m<=c:=by omega
  have hn9:n<=9223372036854775807:=by omega
  clear hA hB hb;go_enter Tryz.func44,Tryz.ntmps44;go_wp2_with (go_at_call 77;fail);refine HE.out.mono ?_;rintro e w2 ⟨rfl,hb2⟩;have HB:=hide hb2;clear hb2 HE;go_wp2;go_ret;exact⟨rfl,HB.out⟩
 ·have hz:¬((m:Int)<=(n:Int)):=by omega
  have hb0:b=false:=by
   cases b with
   | false=>rfl
   | true=>exact absurd (hb.1 rfl).1 hmn
  subst hb0;clear hA hB hb;go_enter Tryz.func44,Tryz.ntmps44;go_wp2;go_ret;exact⟨rfl,Below.refl _ _⟩
theorem zO3 (T:List UInt8) (hn:normT T=(T,0)) (hl:T.length<=1000) (w:World):
  Calls Tryz.prog 43 #[.string (txt T)] w (PathPost (pathV T) w):=by
 by_cases hT0:T=[]
 ·subst hT0;have q1:((txt ([]:List UInt8)).toList==[])=true:=by rw[toeq];rfl
  have HE:Hid (PathPost (pathV []) w (.returned (.slice none 0 0)) w):=hide ⟨⟨none,0,rfl,Nat.le_refl _,by unfold maxLen;omega,⟨rfl,.inl rfl⟩,Below.refl _ _⟩⟩;generalize txt []=S at *;clear hn hl;go_enter Tryz.func43,Tryz.ntmps43;go_wp2;go_ret;exact HE.out
 ·have hp:pathV T=(cuts 44 T).reverse:=by unfold pathV;rw[if_neg hT0]
  have hcl:=zDd 44 T (by decide);have hc0:cuts 44 T≠[]:=fun q=>zBx hn hT0 (by rw[hp,q];rfl)
  rw[hp];exact zF4 T hT0 (by omega) hc0 (by omega) w
theorem zF5 {T:List UInt8}:(pathV T).length<=T.length+1:=by
 unfold pathV;by_cases h:T=[]
 ·rw [if_pos h];simp
 ·rw [if_neg h,List.length_reverse];exact zDd 44 T (by decide)
theorem zQk (N:List EN) (nm:List UInt8) (w:World) (q:Nat) (hR:TreeR w q N) (hF:∀e∈N,FormedE e.1 e.2) (hW:WideN N) (hnm:nm.length<=1000000) (hT:TM w):
  Calls Tryz.prog 17 #[.pointer (some ⟨q,0,none⟩),.string (txt nm)] w (PathPost (kidsQ N nm) w):=by
 suffices H:Calls Tryz.prog 17 #[.pointer (some ⟨q,0,none⟩),.string (txt nm)] w fun e w'=>Hid (PathPost (kidsQ N nm) w e w') from H.mono fun e w' h=>h.out
 have HN:=hide (zBk nm hnm w hT);obtain⟨T,hTt⟩:∃T,(normT nm).1=T:=⟨_,rfl⟩;obtain⟨y,hy⟩:∃y,(normT nm).2=y:=⟨_,rfl⟩;obtain⟨TS,hTS⟩:∃TS,txt T=TS:=⟨_,rfl⟩;rw[hTt,hy,hTS] at HN;obtain⟨S,hS⟩:∃S,txt nm=S:=⟨_,rfl⟩;rw[hS] at HN ⊢;have HR:=hide hR;have HF:=hide hF;have HW:=hide hW;have HTS:=hide hTS;have Ha:Hid (y=0->normT T=(T,0)/\T.length<=1000):=hide (fun h=>by
  have:=zBt (l:=nm) (by rw[hy];exact h)
  rw[hTt] at this
  refine⟨?_,this.2⟩
  rw[this.1]
  exact Prod.ext hTt (hy.trans h))
 have HK:Hid (kidsQ N nm=if y=0 then kidsN N T else []):=hide (by unfold kidsQ;rw[hTt,hy]);clear hR hF hW hT hTt hy hTS hS hnm;go_enter Tryz.func17,Tryz.ntmps17;go_wp2_with (go_at_call 42;fail);refine HN.out.mono ?_;rintro e w2 ⟨rfl,hb2⟩;have HB2:=hide hb2;clear hb2 HN;by_cases hy0:y=0
 ·subst hy0;obtain⟨hn,hl⟩:=Ha.out rfl;have HP:Hid (Calls Tryz.prog 43 #[.string TS] w2 (PathPost (pathV T) w2)):=hide (by
   have:=zO3 T hn hl w2
   rwa [HTS.out] at this)
  have Hn:=hide (And.intro hn hl);have HK2:Hid (kidsQ N nm=kidsN N T):=hide (by rw[HK.out,if_pos rfl]);clear hn hl Ha HK;go_wp2_with (go_at_call 43;fail);refine HP.out.mono ?_;rintro e w3 hp3;obtain⟨PA,pc,rfl,k1,k2,hP3,hb3⟩:=hp3.out;have hb:=HB2.out.trans (hb3.mono HB2.out.size);have hka:(pathV T).length<=1001:=by have:=@zF5 T;have:=Hn.out.2;omega
  have HPa:=hide (hP3.has (B:=w3.heap.size) fun b hb=>hb.2);obtain⟨K,hK⟩:∃K,pathV T=K:=⟨_,rfl⟩;rw[hK] at HPa hka;obtain⟨ka,hkk⟩:∃k,(pathV T).length=k:=⟨_,rfl⟩;have hkk2:K.length=ka:=by rw[<-hK];exact hkk
  rw[hkk2] at HPa hka;rw[hkk];obtain⟨n,hn⟩:∃n,N.length=n:=⟨_,rfl⟩;have hn6:n<=100000:=by have:=HW.out.1;omega
  obtain⟨A,c,xs,hQ,hA,hN⟩:=(HR.out.grow hb).out;rw[hn] at hQ hA;have k0:=hQ.cells 0 _ rfl;have HA:=hide hA;have HNd:=hide hN;have Hnn:=hide hn;have HB3:=hide hb;have Hk:=hide (And.intro hK hkk2);have HR0:Hid (w3.ownsRow w3.heap.size 9 1 (.slice none 0 0) (kidsN (N.take 0) T).length (strs (kidsN (N.take 0) T))):=hide (World.ownsRow_nil _ _ _ _);have Hr0:Hid (Below w3.heap.size w3 w3):=hide (Below.refl _ _);clear hp3 k1 k2 hP3 hb3 hb hK hkk hkk2 hn hQ hA hN HP HB2 HR HTS;go_wp2;clear k0
  go_loopg [8,27] n (fun r s8 s27 wx=>∃i:Nat,i+r=n/\s27=.int .i64 (i:Int)/\Hid (wx.ownsRow w3.heap.size 9 1 s8 (kidsN (N.take i) T).length (strs (kidsN (N.take i) T)))/\Hid (Below w3.heap.size w3 wx))
  case atStart=>exact⟨0,by omega,rfl,HR0,Hr0⟩
  case round=>
   clear HR0 Hr0;obtain⟨i,hig,rfl,hor,hbr⟩:=hrel;cases gk with
   | zero=>
    obtain rfl:i=n:=by omega
    have hiz:¬((i:Int)<(i:Int)):=by omega
    have ho:=hor.out;rw[List.take_of_length_le (by rw[Hnn.out];exact Nat.le_refl _)] at ho;obtain⟨A8,c8,rfl,hc8,hP8⟩:=zAv ho;have hm8:=zAu ho;have HE:Hid (PathPost (kidsQ N nm) w (.returned (.slice A8 (kidsN N T).length c8)) wr):=hide (by
     rw[HK2.out]
     exact⟨⟨A8,c8,rfl,hc8,hm8,hP8.move (fun p _=>rfl) (fun b hb=>⟨Nat.le_trans HB3.out.size hb.1,hb.2⟩),HB3.out.trans (hbr.out.mono HB3.out.size)⟩⟩)
    generalize (kidsN N T).length=kk at *;clear ho hc8 hm8 hP8 hor hbr HA HNd Hnn HW HF HPa Hn Hk HB3;go_wp2;go_ret;exact HE
   | succ r=>
    obtain⟨wo,rfl⟩:∃wo,wo=wr:=⟨_,rfl⟩;have hi:i<n:=by omega
    have hiz:(i:Int)<(n:Int):=(by omega);obtain⟨e,he⟩:∃e,N[i]?=some e:=⟨_,List.getElem?_eq_getElem (by rw[Hnn.out];exact hi)⟩;have hem:=List.mem_of_getElem? he;have hfe:=HF.out e hem;have hve:=HW.out.2 e hem;have hB:=HA.out.has (B:=w3.heap.size) fun b hb=>hb
    obtain⟨g,o,hAe,hg,hc⟩:=hB.lies (by have:=hB.1;omega);obtain⟨V,cv,ys,Q,dq,t0,t1,t2,q1,q2,q3,q4,h4,h5,h6⟩:=HNd.out.each i e he;subst hAe;have c0:=(hbr.out.cell (p:=⟨g,o+i*3,none⟩) hg).trans (hc _ _ t0);have d1:w3.cell? ⟨g,o+i*3+1,none⟩=some (.slice V e.2.length cv):=by have:=hc _ _ t1;rwa [<-Nat.add_assoc] at this
    have c1:=(hbr.out.cell (p:=⟨g,o+i*3+1,none⟩) hg).trans d1;have d2:w3.cell? ⟨g,o+i*3+2,none⟩=some (.slice Q (pathV e.1).length dq):=by have:=hc _ _ t2;rwa [<-Nat.add_assoc] at this
    have c2:=(hbr.out.cell (p:=⟨g,o+i*3+2,none⟩) hg).trans d2;have hpn:=zBx hfe.loose.norm hfe.loose.ne;have h6b:=h6.has (B:=w3.heap.size) fun b hb=>hb
    have hpn0:(pathV e.1).length≠0:=by simpa using hpn
    obtain⟨gq,oq,hQe,hgq,_⟩:=h6b.lies (by unfold strs;rw[List.length_map];omega)
    subst hQe;have hci:=zSu (n:=T) hfe.loose.norm hfe.loose.ne Hn.out.1;rw[Hk.out.1,Hk.out.2] at hci;have hpl:=@zF5 e.1;obtain⟨SE,hSE⟩:∃S,txt e.1=S:=⟨_,rfl⟩;obtain⟨k,hk⟩:∃k,e.2.length=k:=⟨_,rfl⟩;obtain⟨kp,hkp⟩:∃k,(pathV e.1).length=k:=⟨_,rfl⟩;rw[hSE] at c0;rw[hk] at c1;rw[hkp] at c2 q3 hci h6b hpl;have HCl:Hid (∀w,Calls Tryz.prog 45 #[.string SE] w fun e w'=>e=.returned (.string SE)/\Below w.heap.size w w'):=hide (fun w=>by
     have:=zBy (txt e.1) (by rw[zAg];have:=hve.1;omega) w
     rwa [hSE] at this)
    have hbx:=below1 wo (.cells #[.string SE,.slice V k cv,.slice (some ⟨gq,oq,none⟩) kp dq] 64);have hBx:Blk (wo.alloc (.cells #[.string SE,.slice V k cv,.slice (some ⟨gq,oq,none⟩) kp dq] 64)) wo.heap.size [.string SE,.slice V k cv,.slice (some ⟨gq,oq,none⟩) kp dq]:=Blk.new wo [.string SE,.slice V k cv,.slice (some ⟨gq,oq,none⟩) kp dq] 64;obtain⟨w4,hw4⟩:∃x,wo.alloc (.cells #[.string SE,.slice V k cv,.slice (some ⟨gq,oq,none⟩) kp dq] 64)=x:=⟨_,rfl⟩;rw[hw4] at hbx hBx;have hb4:=hbr.out.trans (hbx.mono hbr.out.size);have Hor4:=hide (zAc hor.out hbx);have Hb4:=hide hb4;have HBx:=hide hBx;have Hw4:=hide hw4;have HUn:Hid (∀b:Bool,(b=true↔(ka<=kp/\(pathV e.1).take ka=K))->Calls Tryz.prog 44 #[.slice (some ⟨gq,oq,none⟩) kp dq,.slice PA ka pc] w4 fun e w'=>e=.returned (.bool b)/\Below w4.heap.size w4 w'):=hide (fun b hb=>zN8 (pathV e.1) K w4 gq oq PA kp dq ka pc ((h6b.below hb4).upto hb4.size) ((HPa.out.below hb4).upto hb4.size) (by have:=hve.1;omega) (by omega) q3 q4 b hb);have Hci:=hide hci;have Hkl:=hide (zIj N T i);have y0:=hBx.cells 0 _ rfl;have y1:=hBx.cells 1 _ rfl;have y2:=hBx.cells 2 _ rfl;have hkp6:kp<=2000000:=by have:=hve.1;omega
    have HSe:=hide hSE;have Hey:=hide (zMn (n:=T) he);have Hen:=hide (zS3 (n:=T) he);clear hc t0 t1 t2 q1 q2 q3 q4 h4 h5 h6 h6b d1 d2 hSE hk hkp hbx hBx hw4 hb4 hve he hem hfe hB HA HNd HW HF hpn hgq hci hpl hor hbr HPa Hn Hk Hnn HB3;go_upto_region 11 with fail;rw[Hw4.out];clear c0 c1 c2 Hw4;obtain⟨h5,hh5⟩:∃h,wo.heap.size=h:=⟨_,rfl⟩;rw[hh5] at y0 y1 y2 HBx;(try rw[hh5]);clear hh5;by_cases hlen:kp=ka+1
    ·have hz:((kp:Int)==(ka:Int)+1)=true:=by rw[hlen];simp
     have Hlen:=hide hlen;clear hlen;by_cases hpar:(parentV e.1).1=T
     ·have Hu:=hide (HUn.out true (by
       have:=Hci.out.2 hpar
       exact⟨fun _=>⟨by have:=Hlen.out;omega,this.2⟩,fun _=>rfl⟩))
      have Hk2:=hide (Hey.out hpar);clear HUn Hci hpar Hey Hen;go_wp2_with (go_at_call 44;fail);refine Hu.out.mono ?_;rintro e' w5 ⟨rfl,hb5⟩;have z0:=(HBx.out.grow hb5).cells 0 _ rfl;have Hb5:=hTz Hb4 hb5;have Hor5:=hide (zAc Hor4.out hb5);clear hb5 y0 y1 y2 HBx Hb4 Hor4 Hu;go_wp2_with (go_at_call 45;fail);refine (HCl.out _).mono ?_;rintro e' w6 ⟨rfl,hb6⟩;have hor6:=zAc Hor5.out hb6;have hB6:=Hb5.out.trans (hb6.mono Hb5.out.size);clear hb6 Hb5 Hor5 HCl z0;have hone:=litS w6 SE;have hH:=Has.own hone;have hor7:=hor6.alloc (.cells #[.string SE] 9);have hB7:=hide (hB6.alloc hB6.size (.cells #[.string SE] 9));have hs7:=hB7.out.size;have h1c:∀u∈[Value.string SE],u.oneCell'=true:=by simp[Value.oneCell']
      have hkl:=Hkl.out;obtain⟨kl,hklq⟩:∃z,(kidsN (N.take i) T).length=z:=⟨_,rfl⟩;rw[hklq] at hkl hor7;have Hkl2:=hide hklq;clear hone hor6 hB6 hklq;go_wp2_with (at_builtin;go_must (refine appE _ 43 9 _ 1 16 Tryz.underlying43 infoS rfl (by omega) (by omega) rfl (.tmp 44) (.tmp 49) rfl w3.heap.size _ kl (strs (kidsN (N.take i) T)) rfl hor7 _ _ 1 1 [.string SE] rfl hH h1c (by omega) hs7 ?_));intro v8 w8 hor8 hb8 _;have HB8:=hide (hB7.out.trans hb8);have HO8:Hid (w8.ownsRow w3.heap.size 9 1 v8 (kidsN (N.take (i+1)) T).length (strs (kidsN (N.take (i+1)) T))):=hide (by
       rw[Hk2.out,zJ7,List.length_append,Hkl2.out,HSe.out]
       exact hor8)
      clear hor8 hb8 hor7 hH h1c hs7 hB7 Hkl Hkl2 hkl HSe Hk2;go_wp2
      go_roundg r
      case measure=>omega
      case rel=>exact⟨i+1,by omega,by go_num,HO8,HB8⟩
     ·have Hu:=hide (HUn.out false (by
       refine⟨fun h=>(by cases h),fun h=>absurd (Hci.out.1 ⟨Hlen.out,h.2⟩) hpar⟩))
      have Hk2:=hide (Hen.out hpar);clear HUn Hci hpar Hey Hen;go_wp2_with (go_at_call 44;fail);refine Hu.out.mono ?_;rintro e' w5 ⟨rfl,hb5⟩;have Hb5:=hTz Hb4 hb5;have Hor5:=hide (zFd (zAc Hor4.out hb5) Hk2.out);clear hb5 y0 y1 y2 HBx Hb4 Hor4 Hu HCl Hk2 HSe Hkl;go_wp2
      go_roundg r
      case measure=>omega
      case rel=>exact⟨i+1,by omega,by go_num,Hor5,Hb5⟩
    ·have hz:((kp:Int)==(ka:Int)+1)=false:=beq_false_of_ne (by omega);have hz2:¬((kp:Int)=(ka:Int)+1):=by omega
     have hpar:¬(parentV e.1).1=T:=fun h=>hlen (Hci.out.2 h).1
     have Hor5:=hide (zFd Hor4.out (Hen.out hpar));clear HUn Hci hpar Hey Hen HBx Hor4 HCl HSe Hkl;go_wp2
     go_roundg r
     case measure=>omega
     case rel=>exact⟨i+1,by omega,by go_num,Hor5,Hb4⟩
 ·have HE:Hid (PathPost (kidsQ N nm) w (.returned (.slice none 0 0)) w2):=hide (by
   rw[HK.out,if_neg hy0]
   exact⟨⟨none,0,rfl,Nat.le_refl _,by unfold maxLen;omega,⟨rfl,.inl rfl⟩,HB2.out⟩⟩)
  have q1:(y==0)=false:=beq_false_of_ne hy0;clear HR HF HW HTS Ha HK HB2;go_wp2;go_ret;exact HE
end Go.Proofs.YtdkekamkmlpnhaaGreatDoor
namespace Go.Proofs.YtdkekamkmlpnhaaGreatDoor
open Go Go.RowKit
theorem zS2 (N:List EN) (nm:List UInt8) (w:World) (q:Nat) (A:Option Addr) (n c:Nat) (ys:List Value) (hn:N.length=n) (hn6:n<=100000) (hq:q<w.heap.size) (hc:w.cell? ⟨q,0,none⟩=some (.slice A n c)) (hA:Has w w.heap.size 2 A n ys) (hL:ENs w w.heap.size ys N) (hF:∀e∈N,FormedE e.1 e.2) (hnm:nm.length<=1000000) (hT:TM w):
  Calls Tryz.prog 18 #[.pointer (some ⟨q,0,none⟩),.string (txt nm)] w (PathPost (kidsQ N nm) w):=by
 suffices H:Calls Tryz.prog 18 #[.pointer (some ⟨q,0,none⟩),.string (txt nm)] w fun e w'=>Hid (PathPost (kidsQ N nm) w e w') from H.mono fun e w' h=>h.out
 have HN:=hide (zBl nm hnm w hT);obtain⟨T,hTt⟩:∃T,(normT nm).1=T:=⟨_,rfl⟩;obtain⟨y,hy⟩:∃y,(normT nm).2=y:=⟨_,rfl⟩;obtain⟨TS,hTS⟩:∃TS,txt T=TS:=⟨_,rfl⟩;rw[hTt,hy,hTS] at HN;obtain⟨S,hS⟩:∃S,txt nm=S:=⟨_,rfl⟩;rw[hS] at HN ⊢;have HF:=hide hF;have HTS:=hide hTS;have HT:=hide hT;have Hn:=hide hn;have HA:=hide hA;have HL:=hide hL;have HQ:=hide (And.intro hq hc);have HK:Hid (kidsQ N nm=if y=0 then kidsN N T else []):=hide (by unfold kidsQ;rw[hTt,hy]);clear hF hT hTt hy hTS hS hnm hn hA hL hq hc;go_enter Tryz.func18,Tryz.ntmps18;go_wp2_with (go_at_call 46;fail);refine HN.out.mono ?_;rintro e w2 ⟨rfl,hb2⟩;have HB2:=hide hb2;have HA2:=hide ((HA.out.below hb2).upto hb2.size);have HL2:=hide (HL.out.grow hb2);have HT2:=hide (HT.out.below hb2);have HQ2:Hid (q<w2.heap.size/\w2.cell? ⟨q,0,none⟩=some (.slice A n c)):=hide ⟨Nat.lt_of_lt_of_le HQ.out.1 hb2.size,(hb2.cell (p:=⟨q,0,none⟩) HQ.out.1).trans HQ.out.2⟩;have k0:=HQ2.out.2;obtain⟨K,hK⟩:∃K,(fun i:Nat=>if y=0 then kidsN (N.take i) T else [])=K:=⟨_,rfl⟩;have HK0:=hide hK;have HR0:Hid (w2.ownsRow w2.heap.size 9 1 (.slice none 0 0) (K 0).length (strs (K 0))):=hide (by
  have:K 0=[]:=by
   rw[<-hK]
   by_cases h:y=0
   ·simp only;rw[if_pos h];rfl
   ·simp only;rw[if_neg h]
  rw[this]
  exact World.ownsRow_nil _ _ _ _)
 have Hr0:Hid (Below w2.heap.size w2 w2):=hide (Below.refl _ _);clear hb2 HN HA HL HT HQ hK;go_wp2;clear k0
 go_loopg [7,21] n (fun r s7 s21 wx=>∃i:Nat,i+r=n/\s21=.int .i64 (i:Int)/\Hid (wx.ownsRow w2.heap.size 9 1 s7 (K i).length (strs (K i)))/\Hid (Below w2.heap.size w2 wx))
 case atStart=>exact⟨0,by omega,rfl,HR0,Hr0⟩
 case round=>
  clear HR0 Hr0;obtain⟨i,hig,rfl,hor,hbr⟩:=hrel;cases gk with
  | zero=>
   obtain rfl:i=n:=by omega
   have hiz:¬((i:Int)<(i:Int)):=by omega
   have ho:=hor.out;have hKn:K i=kidsQ N nm:=by rw[HK.out,<-HK0.out];simp only;rw[List.take_of_length_le (by rw[Hn.out];exact Nat.le_refl _)]
   rw[hKn] at ho;obtain⟨A8,c8,rfl,hc8,hP8⟩:=zAv ho;have hm8:=zAu ho;have HE:Hid (PathPost (kidsQ N nm) w (.returned (.slice A8 (kidsQ N nm).length c8)) wr):=hide ⟨⟨A8,c8,rfl,hc8,hm8,hP8.move (fun p _=>rfl) (fun b hb=>⟨Nat.le_trans HB2.out.size hb.1,hb.2⟩),HB2.out.trans (hbr.out.mono HB2.out.size)⟩⟩;generalize (kidsQ N nm).length=kk at *;clear ho hc8 hm8 hP8 hor hbr HA2 HL2 HT2 HF HTS HK HK0 hKn HB2 HQ2;go_wp2;go_ret;exact HE
  | succ r=>
   obtain⟨wo,rfl⟩:∃wo,wo=wr:=⟨_,rfl⟩;have hi:i<n:=by omega
   have hiz:(i:Int)<(n:Int):=by omega
   obtain⟨e,he⟩:∃e,N[i]?=some e:=⟨_,List.getElem?_eq_getElem (by rw[Hn.out];exact hi)⟩;have hem:=List.mem_of_getElem? he;have hfe:=HF.out e hem;have hl6:e.1.length<=1000:=by
    have h9:=(zBt (l:=e.1) (by rw[hfe.loose.norm])).2
    rwa [hfe.loose.norm] at h9
   obtain⟨g,o,hAe,hg,hat⟩:=HA2.out.en HL2.out (fun h=>by rw[h] at he;simp at he);subst hAe;obtain⟨U,cu,us,hat⟩:=hat i e he;have e0:=hat.e0;have x0:=(hbr.out.cell (p:=⟨g,o+i*2,none⟩) hg).trans e0;have k0:=(hbr.out.cell (p:=⟨q,0,none⟩) HQ2.out.1).trans HQ2.out.2;have HPa:=hide (zF7 e.1 (by omega) wo (HT2.out.below hbr.out));have Hey:=hide (zMn (n:=T) he);have Hen:=hide (zS3 (n:=T) he);have Hkl:Hid ((K i).length<=i):=hide (by
    rw[<-HK0.out]
    by_cases h:y=0
    ·simp only;rw[if_pos h];exact zIj N T i
    ·simp only;rw[if_neg h];simp)
   obtain⟨SE,hSE⟩:∃S,txt e.1=S:=⟨_,rfl⟩;obtain⟨PE,hPE⟩:∃S,txt (parentV e.1).1=S:=⟨_,rfl⟩;obtain⟨pb,hpb⟩:∃b,(parentV e.1).2=b:=⟨_,rfl⟩;rw[hSE] at x0 HPa;rw[hPE,hpb] at HPa;have HSe:=hide (And.intro hSE hPE);have Hg:=hide hg;clear e0 hat he hem hfe hl6 hSE hPE hpb hg;go_wp2_with (go_at_call 34;fail);refine HPa.out.mono ?_;rintro e' w5 ⟨rfl,hb5⟩;have Hor5:=hide (zAc hor.out hb5);have hB5:=hbr.out.trans (hb5.mono hbr.out.size);have Hb5:=hide hB5;have x5:=(hb5.cell (p:=⟨g,o+i*2,none⟩) (Nat.lt_of_lt_of_le Hg.out hbr.out.size)).trans x0;have k5:=(hb5.cell (p:=⟨q,0,none⟩) (Nat.lt_of_lt_of_le HQ2.out.1 hbr.out.size)).trans k0;clear hb5 hB5 hor hbr HPa x0 k0;by_cases hy0:y=0
   ·by_cases hpar:(parentV e.1).1=T
    ·have q1:(PE.toList==TS.toList)=true:=by rw[<-HSe.out.2,hpar,HTS.out];simp
     have HK2:Hid (K (i+1)=K i++[e.1]):=hide (by
      rw[<-HK0.out]
      simp only
      rw[if_pos hy0,if_pos hy0]
      exact Hey.out hpar)
     subst hy0;obtain⟨kl,hklq⟩:∃z,(K i).length=z:=⟨_,rfl⟩;have hkl:=Hkl.out;have hor6:=Hor5.out;rw[hklq] at hkl hor6;have Hkl2:=hide hklq;have hone:=litS w5 SE;have hH:=Has.own hone;have hor7:=hor6.alloc (.cells #[.string SE] 9);have hB7:=hide (Hb5.out.alloc Hb5.out.size (.cells #[.string SE] 9));have hs7:=hB7.out.size;have h1c:∀u∈[Value.string SE],u.oneCell'=true:=by simp[Value.oneCell']
     clear hone hor6 hklq Hor5 Hb5 hpar Hey Hen Hkl;go_wp2_with (at_builtin;go_must (refine appE _ 43 9 _ 1 16 Tryz.underlying43 infoS rfl (by omega) (by omega) rfl (.tmp 43) (.tmp 52) rfl w2.heap.size _ kl (strs (K i)) rfl hor7 _ _ 1 1 [.string SE] rfl hH h1c (by omega) hs7 ?_));intro v8 w8 hor8 hb8 _;have HB8:=hide (hB7.out.trans hb8);have HO8:Hid (w8.ownsRow w2.heap.size 9 1 v8 (K (i+1)).length (strs (K (i+1)))):=hide (by
      rw[HK2.out,zJ7,List.length_append,Hkl2.out,HSe.out.1]
      exact hor8)
     clear hor8 hb8 hor7 hH h1c hs7 hB7 Hkl2 hkl HSe HK2;go_wp2
     go_roundg r
     case measure=>omega
     case rel=>exact⟨i+1,by omega,by go_num,HO8,HB8⟩
    ·have q1:(PE.toList==TS.toList)=false:=by rw[<-HSe.out.2,<-HTS.out];exact zBn hpar
     have Hor6:=hide (zFd (B:=K (i+1)) Hor5.out (by
      rw[<-HK0.out]
      simp only
      rw[if_pos hy0,if_pos hy0]
      exact Hen.out hpar))
     subst hy0;clear Hor5 hpar Hey Hen Hkl HSe;go_wp2
     go_roundg r
     case measure=>omega
     case rel=>exact⟨i+1,by omega,by go_num,Hor6,Hb5⟩
   ·have q0:(y==0)=false:=beq_false_of_ne hy0;have Hor6:=hide (zFd (B:=K (i+1)) Hor5.out (by
     rw[<-HK0.out]
     simp only
     rw[if_neg hy0,if_neg hy0]))
    clear Hor5 Hey Hen Hkl HSe;go_wp2
    go_roundg r
    case measure=>omega
    case rel=>exact⟨i+1,by omega,by go_num,Hor6,Hb5⟩
theorem atN_no {L:List EN} {nm:List UInt8} (h:atN L nm<0):∀x∈L,¬((normT nm).2=0/\x.1=(normT nm).1):=by
 rintro x hx ⟨h1,h2⟩;unfold atN at h;rw[if_pos h1] at h;have:=zFv (n:=(normT nm).1) 0 hx h2;omega
theorem zPz {L:List EN} {nm:List UInt8} (h:0<=atN L nm):(normT nm).2=0/\∃(k:Nat) (e:EN),L[k]?=some e/\e.1=(normT nm).1/\atN L nm=(k:Int):=by
 unfold atN at h ⊢;by_cases h1:(normT nm).2=0
 ·rw [if_pos h1] at h ⊢;obtain⟨k,e,h2,h3,h4⟩:=zEm 0 h;exact⟨h1,k,e,h2,h3,by rw[h4];simp⟩
 ·rw [if_neg h1] at h;omega
theorem rget_any (N:List EN) (nm:List UInt8) (w:World) (q:Nat) (A:Option Addr) (n c:Nat) (ys:List Value) (hn:N.length=n) (hn6:n<=100000) (hq:q<w.heap.size) (hc:w.cell? ⟨q,0,none⟩=some (.slice A n c)) (hA:Has w w.heap.size 2 A n ys) (hL:ENs w w.heap.size ys N) (hwe:∀e∈N,e.2.length<=1000000/\∀a∈e.2,a.2.length<=1000000) (hnm:nm.length<=1000000) (hT:TM w):
  Calls Tryz.prog 14 #[.pointer (some ⟨q,0,none⟩),.string (txt nm)] w (GetT N nm w):=by
 suffices H:Calls Tryz.prog 14 #[.pointer (some ⟨q,0,none⟩),.string (txt nm)] w fun e w'=>Hid (GetT N nm w e w') from H.mono fun e w' h=>h.out
 have hb1:Below w.heap.size w (w.alloc (.cells #[.string ⟨#[]⟩,.slice none 0 0] 38)):=below1 w _;have hX:Blk (w.alloc (.cells #[.string ⟨#[]⟩,.slice none 0 0] 38)) w.heap.size [.string ⟨#[]⟩,.slice none 0 0]:=Blk.new w [.string ⟨#[]⟩,.slice none 0 0] 38;obtain⟨w1,hw1⟩:∃w1,w.alloc (.cells #[.string ⟨#[]⟩,.slice none 0 0] 38)=w1:=⟨_,rfl⟩;rw[hw1] at hb1 hX;have HAt:=hide (zP4 N nm w1 A n c ys ((hA.below hb1).upto hb1.size) (hL.grow hb1) (by omega) hnm (hT.below hb1));have hq1:=Nat.lt_of_lt_of_le hq hb1.size;have k0:=(hb1.cell (p:=⟨q,0,none⟩) hq).trans hc;have HQ:Hid (q<w1.heap.size/\w1.cell? ⟨q,0,none⟩=some (.slice A n c)):=hide ⟨hq1,k0⟩;have HA:=hide ((hA.below hb1).upto hb1.size);have HL:=hide (hL.grow hb1);have HB:=hide hb1;have HX:=hide hX;have Hw1:=hide hw1;have Hlt1:=hide hX.lt;have Hn:=hide hn;have Hwe:=hide hwe;obtain⟨R,hR⟩:∃R,atN N nm=R:=⟨_,rfl⟩;rw[hR] at HAt;have HRr:=hide hR;clear hb1 hX hw1 hT hnm hn hA hL hwe hq hc hq1 hR;generalize hS:txt nm=S at *;clear hS;go_enter Tryz.func14,Tryz.ntmps14;go_upto_region 1 with fail;rw[Hw1.out];obtain⟨h,hh⟩:∃h,w.heap.size=h:=⟨_,rfl⟩;have Hh:=hide hh;rw[hh] at HX Hlt1;(try rw[hh]);clear hh Hw1;go_wp2_with (go_at_call 33;fail);refine HAt.out.mono ?_;rintro e w2 ⟨rfl,hb2⟩;have HX2:=hide (HX.out.grow hb2);have HB2:=hide hb2;clear HAt HX k0;by_cases hneg:R<0
 ·have z0:=HX2.out.cells 0 _ rfl;have z1:=HX2.out.cells 1 _ rfl;have hfz:=HX2.out.fz;have Hno:=hide (atN_no (L:=N) (nm:=nm) (by rw[HRr.out];exact hneg));clear hb2 HRr HA HL HQ Hn Hwe;go_wp2;have hfin:Blk ((w2.setCell ⟨h,0,none⟩ (.string ⟨#[]⟩)).setCell ⟨h,1,none⟩ (.slice none 0 0)) h [.string ⟨#[]⟩,.slice none 0 0]:=(HX2.out.set 0 (.string ⟨#[]⟩) (by simp)).set 1 (.slice none 0 0) (by simp)
  (try simp only[Exit.inBlock,Exit.then])
  refine bodyPost_ret (v:=.tuple #[.agg #[.string ⟨#[]⟩,.slice none 0 0],.bool false]) ?_ rfl ?_
  ·exact zBp rfl _ _ h [.string ⟨#[]⟩,.slice none 0 0] _ _ rfl rfl hfin.range Tryz.underlying38 rfl (by kernel_rfl)
  have hlow:w.heap.size<=h:=by rw[Hh.out];exact Nat.le_refl _
  exact hide ⟨⟨((HB.out.trans (HB2.out.mono HB.out.size)).setCell (p:=⟨h,0,none⟩) hlow _).setCell (p:=⟨h,1,none⟩) hlow _,.inr ⟨rfl,Hno.out⟩⟩⟩
 ·obtain ⟨hy,k,x,hx,hxe,hkr⟩:=zPz (L:=N) (nm:=nm) (by rw[HRr.out];omega);rw[HRr.out] at hkr;have hlt:k<N.length:=(List.getElem?_eq_some_iff.1 hx).1;have hkn2:k<n:=by rw[<-Hn.out];exact hlt
  have hkn:(k:Int)<(n:Int):=by omega
  have hk0:¬((k:Int)<0):=by omega
  subst hkr;have HA2:=(HA.out.below hb2).upto hb2.size;have HL2:=HL.out.grow hb2;obtain⟨g,o,hAe,hg,hat⟩:=HA2.en HL2 (fun h=>by rw[h] at hx;simp at hx);subst hAe;obtain⟨U,cu,us,hat⟩:=hat k x hx;have hxm:=List.mem_of_getElem? hx;have k2:=(hb2.cell (p:=⟨q,0,none⟩) HQ.out.1).trans HQ.out.2;have e0:=hat.e0;have e1:=hat.e1;have HCo:Hid (Calls Tryz.prog 40 #[.agg #[.string (txt x.1),.slice U x.2.length cu]] w2 (EntPost x w2)):=hide (zHz x.1 x.2 w2 U _ cu us hat.has hat.attrs (Hwe.out x hxm).1 (Hwe.out x hxm).2);have Hxx:=hide (And.intro hxm (And.intro hy hxe));obtain⟨XS,hXS⟩:∃y,txt x.1=y:=⟨_,rfl⟩;obtain⟨kx,hkx⟩:∃y,x.2.length=y:=⟨_,rfl⟩;have HXS:=hide hXS;have Hkx:=hide hkx;rw[hXS] at e0 HCo;rw[hkx] at e1 HCo;clear hb2 hx hy hxe hxm hat hXS hkx hlt HA2 HL2 HRr HA HL HQ Hn Hwe;go_wp2_with (go_at_call 40;fail);refine HCo.out.mono ?_;rintro e' w5 hp5;obtain⟨A5,c5,ys5,rfl,r1,r2,hH5,hE5,hb5⟩:=hp5.out;rw[HXS.out,Hkx.out];have HX5:=hide (HX2.out.grow hb5);have z0:=HX5.out.cells 0 _ rfl;have z1:=HX5.out.cells 1 _ rfl;have hfz:=HX5.out.fz;have HP5:=hide (And.intro r1 (And.intro r2 (And.intro hH5 (And.intro hE5 hb5))));clear hp5 r1 r2 hH5 hE5 hb5 HCo k2 e0 e1 HX2;go_wp2;have hfin:Blk ((w5.setCell ⟨h,0,none⟩ (.string XS)).setCell ⟨h,1,none⟩ (.slice A5 kx c5)) h [.string XS,.slice A5 kx c5]:=(HX5.out.set 0 (.string XS) (by simp)).set 1 (.slice A5 kx c5) (by simp)
  (try simp only[Exit.inBlock,Exit.then])
  refine bodyPost_ret (v:=.tuple #[.agg #[.string XS,.slice A5 kx c5],.bool true]) ?_ rfl ?_
  ·exact zBp rfl _ _ h [.string XS,.slice A5 kx c5] _ _ rfl rfl hfin.range Tryz.underlying38 rfl (by kernel_rfl)
  have hsz:((w5.setCell ⟨h,0,none⟩ (.string XS)).setCell ⟨h,1,none⟩ (.slice A5 kx c5)).heap.size=w5.heap.size:=by simp[World.setCell]
  obtain⟨p1,p2,p3,p4,p5⟩:=HP5.out;have hw1:=HB.out.size;have hw2:=HB2.out.size;have far:∀p:Addr,NewB w2.heap.size w5.heap.size p.block->((w5.setCell ⟨h,0,none⟩ (.string XS)).setCell ⟨h,1,none⟩ (.slice A5 kx c5)).cell? p=w5.cell? p:=fun p hp=>by
   have hne:h≠p.block:=by have:=hp.1;have:=HX5.out.lt;have:=Hh.out;have:=HB2.out.size;have:=Hlt1.out;omega
   rw[World.cell?_setCell_far _ _ _ _ hne,World.cell?_setCell_far _ _ _ _ hne]
  have hlow:w.heap.size<=h:=by rw[Hh.out];exact Nat.le_refl _
  have hbb:Below w.heap.size w w5:=HB.out.trans ((HB2.out.trans (p5.mono hw2)).mono hw1);refine hide ⟨⟨(hbb.setCell (p:=⟨h,0,none⟩) hlow _).setCell (p:=⟨h,1,none⟩) hlow _,.inl ⟨x,A5,c5,ys5,Hxx.out.1,Hxx.out.2.1,Hxx.out.2.2,by rw[HXS.out,Hkx.out],p1,p2,?_,?_⟩⟩⟩
  ·rw [hsz];exact p3.move far fun b hb=>⟨Nat.le_trans (Nat.le_trans hw1 hw2) hb.1,hb.2⟩
  ·rw [hsz];exact p4.move far fun b hb=>⟨Nat.le_trans (Nat.le_trans hw1 hw2) hb.1,hb.2⟩
end Go.Proofs.YtdkekamkmlpnhaaGreatDoor
