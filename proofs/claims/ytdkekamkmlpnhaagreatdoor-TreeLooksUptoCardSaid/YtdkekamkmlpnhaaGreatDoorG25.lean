/- The program's Of: nodes of all entries, in order, one after the other if there is room. By an AI agent. -/
import Derived.Test.YtdkekamkmlpnhaaGreatDoorG17
import Derived.Test.YtdkekamkmlpnhaaGreatDoorG18
import Derived.Test.YtdkekamkmlpnhaaGreatDoorG19
import Derived.Test.YtdkekamkmlpnhaaGreatDoorG24
import Derived.Test.YtdkekamkmlpnhaaGreatDoorGrow
set_option linter.unusedSimpArgs false
set_option linter.unusedVariables false
set_option maxHeartbeats 64000000
set_option maxRecDepth 100000
namespace Go.Proofs.YtdkekamkmlpnhaaGreatDoor
open Go Go.RowKit
def OfSort (L M:List EN):Prop:=M.Perm L/\M.Pairwise fun a b=>cmpL (pathV a.1) (pathV b.1)<=0
def OfBad (L:List EN):Prop:=400<L.length\/(∃e∈L,¬FormedE e.1 e.2)\/∃M i e,OfSort L M/\M[i]?=some e/\¬RoomP (M.take i) (pathV e.1)
def OfGood (L M:List EN):Prop:=L.length<=400/\(∀e∈L,FormedE e.1 e.2)/\OfSort L M/\∀i x,M[i]?=some x->RoomP (M.take i) (pathV x.1)
structure OfPost (L:List EN) (w:World) (e:Ending) (w':World):Prop where
 out:Below w.heap.size w w'/\((e=.returned (.tuple #[.pointer none,.int .i64 2])/\OfBad L)\/∃q M,e=.returned (.tuple #[.pointer (some ⟨q,0,none⟩),.int .i64 0])/\OfGood L M/\TreeR w' q M)
theorem zLy {L M:List EN} {i:Nat} (h:OfSort L M) (hr:∀j x,j<i->M[j]?=some x->RoomP (M.take j) (pathV x.1)):SortedP (M.take i):=by
 unfold SortedP;rw[List.pairwise_iff_getElem];intro a b ha hb hab;rw[List.length_take] at ha hb;have hp:=List.pairwise_iff_getElem.1 h.2 a b (by omega) (by omega) hab;rw[List.getElem_take,List.getElem_take];have hne:cmpL (pathV (M[a]'(by omega)).1) (pathV (M[b]'(by omega)).1)≠0:=fun h0=>by
  have hq:=zD3 h0;refine (hr b (M[b]'(by omega)) (by omega) (List.getElem?_eq_getElem (by omega))).1 ⟨M[a]'(by omega),?_,hq⟩;exact List.mem_take_iff_getElem.2 ⟨a,by omega,rfl⟩
 omega
structure SortE (L:List EN) (A:Option Addr) (base:Nat) (w:World) (e:Ending) (w':World):Prop where
 out:∃M xs,OfSort L M/\e=.returned (.tuple #[])/\HasP w' (fun b=>b<w'.heap.size) 3 A L.length xs/\NDsP w' (fun b=>b<w'.heap.size) xs M/\Below base w w'
open Go.Sort Go.Shelf in
theorem zQ8 (w:World) (base g cap:Nat) (hg:g<w.heap.size) (hbg:base<=g):
  Calls Tryz.prog 28 #[.slice (some ⟨g,0,none⟩) 0 cap,.func (.func 29) #[] #[]] w (SortE [] (some ⟨g,0,none⟩) base w):=by
 have eg:∀args w,(callFunc 29 args).run Tryz.prog w=.ok (.enter 29 args) w:=enters_of Tryz.func29 (by kernel_rfl) rfl;have hH:HoldsK (fun _:Unit=>[.string ⟨#[]⟩,.slice none 0 0,.slice none 0 0]) 3 w g 0 #[]:=by intro j hj;rw[size_flatK] at hj;simp at hj
 have hcmp:CmpLays Tryz.prog 29 #[] (fun _:Unit=>[.string ⟨#[]⟩,.slice none 0 0,.slice none 0 0]) 3 (fun x y=>cmpL ((fun _:Unit=>[]) x) ((fun _:Unit=>[]) y)) g 0 (#[]:Array Unit).size w:=by intro m os dk hdk x y;exact zJh _ ⟨#[]⟩ ⟨#[]⟩ none none 0 0 0 0 none none [] [] 0 0 0 0 Has.nil Has.nil (by omega)
 have hcon:=AnyQ.slices_SortFunc Tryz.sortNode 3 (fun w=>by kernel_rfl) (fun w=>by kernel_rfl) (fun _:Unit=>[.string ⟨#[]⟩,.slice none 0 0,.slice none 0 0]) (fun _=>rfl) (fun x v hv=>by
  simp only[List.mem_cons,List.not_mem_nil,or_false] at hv
  rcases hv with rfl | rfl | rfl<;>rfl) (fun x y=>cmpL ((fun _:Unit=>[]) x) ((fun _:Unit=>[]) y)) (zQz fun _:Unit=>[]) 29 #[] g 0 cap (#[]:Array Unit) w eg hcmp hH hg (by simp)
 refine Calls.mono hcon ?_;rintro e w' ⟨rfl,d',m,os,hperm,hsorted,rfl⟩;exact⟨⟨[],[],⟨List.Perm.refl _,List.Pairwise.nil⟩,rfl,⟨rfl,.inl rfl⟩,NDsP.nil,zF8 _ 3 w g m d' os hbg hg (by omega)⟩⟩
theorem zRg (w:World) (base:Nat) (v:Value) (N:List EN) (xs:List Value) (h:RowT w base v xs N) (hb:base<=w.heap.size) (h0:N.length=0->∃g cap,v=.slice (some ⟨g,0,none⟩) 0 cap/\base<=g/\g<w.heap.size) (hn:N.length<=1000000) (hpl:∀e∈N,(pathV e.1).length<=1000000):
  ∃A c,v=.slice A N.length c/\Calls Tryz.prog 28 #[.slice A N.length c,.func (.func 29) #[] #[]] w (SortE N A base w):=by
 by_cases hN:N=[]
 ·subst hN;obtain⟨g,cap,rfl,h1,h2⟩:=h0 rfl;exact⟨_,_,rfl,zQ8 w base g cap h2 h1⟩
 have hp:=List.length_pos_iff.2 hN;have ho:=h.own;rcases ho.2 with⟨rfl,q⟩ | ⟨g,cap,cur,rfl,hg,_,_,_,_⟩
 ·have h1:=ho.1;rw[q] at h1;simp at h1;omega
 have hl:=ho.lt g rfl;refine⟨_,_,rfl,(zRc w base g cap N xs ho (h.nds.move (fun p _=>rfl) fun b hb=>⟨hb.2.1,fun e=>hb.2.2 (by rw[e];rfl)⟩) hN hn hpl hb hl.2 hl.1).mono ?_⟩;rintro e w' hp;obtain⟨M,xs2,k1,k2,k3,k4,k5,k6⟩:=hp.out;exact⟨⟨M,xs2,⟨k1,k2⟩,k3,k4,k5.move (fun p _=>rfl) fun b hb=>hb.1,k6⟩⟩
theorem zQn {w:World} {size n base:Nat} {xs:List Value} {e:TypeId} {A:Option Addr} {c:Nat} (h:w.ownsRow base e size (.slice A n c) n xs):HasP w (fun b=>base<=b/\b<w.heap.size) size A n xs:=by
 obtain⟨A2,c2,e2,_,h2⟩:=zAv h;injection e2 with e3 _ _
 rw[e3];exact h2
theorem makeND (w:World) (n:Nat) (hn:n<=1000000):
  ∃w',(Instr.makeSlice 61 (.int .i64 0) (.int .i64 (n:Int))).run Tryz.prog w=.ok (.slice (some ⟨w.heap.size,0,none⟩) 0 n) w'/\
   w'.ownsRow w.heap.size 64 3 (.slice (some ⟨w.heap.size,0,none⟩) 0 n) 0 []/\Below w.heap.size w w'/\w.heap.size<w'.heap.size:=by
 obtain⟨i0,hi,hz0,hz1,hz2⟩:=info_parts infoND;obtain⟨w',h1,h2,h3⟩:=run_make_own (P:=Tryz.prog) w w.heap.size 61 64 i0 (.agg #[.string .empty,.slice none 0 0,.slice none 0 0]) 3 Tryz.underlying61 hi hz0 hz1 .i64 .i64 n (by rw[hz2];omega) (by unfold maxLen;omega) (Nat.le_refl _);refine⟨w',h1,h2,(Below.refl _ _).grown h3 (Nat.le_refl _) (fun g hg=>by cases hg),?_⟩;exact (h2.lt w.heap.size rfl).2
theorem litND (w:World) (a b c:Value) (ha:a.oneCell'=true) (hb:b.oneCell'=true) (hc:c.oneCell'=true):(w.alloc (.cells #[a,b,c] 64)).ownsRow w.heap.size 64 3 (.slice (some ⟨w.heap.size,0,none⟩) 1 1) 1 [a,b,c]:=
 World.ownsRow_lit w #[a,b,c] 1 (Nat.le_refl _) (by unfold maxLen;omega) rfl
theorem zDo {e:EN} (h:FormedE e.1 e.2):pathV e.1=(cuts 44 e.1).reverse/\cuts 44 e.1≠[]:=by
 have h1:pathV e.1=(cuts 44 e.1).reverse:=by unfold pathV;rw[if_neg h.loose.ne]
 refine⟨h1,fun q=>?_⟩;have:=zBx h.loose.norm h.loose.ne;rw[h1,q] at this;exact this rfl
theorem zRe (L:List EN) (w:World) (A:Option Addr) (n c:Nat) (xs:List Value) (hA:Has w w.heap.size 2 A n xs) (hL:ENs w w.heap.size xs L) (hn:n<=100000) (hwe:∀e∈L,e.1.length<=900000/\e.2.length<=1000000/\∀a∈e.2,a.1.length<=1048576/\a.2.length<=1000000/\∀u∈a.2,u.length<=1000000) (hT:TM w):
  Calls Tryz.prog 8 #[.slice A n c] w (OfPost L w):=by
 suffices H:Calls Tryz.prog 8 #[.slice A n c] w fun e w'=>Hid (OfPost L w e w') from H.mono fun e w' h=>h.out
 have hnl:=hA.ens_n hL;have HA:=hide hA;have HL:=hide hL;have Hwe:=hide hwe;have HT:=hide hT;have HT0:=HT;have Hnl:=hide hnl;obtain⟨wm,hmake,hom,hbm,hsm⟩:=makeND w n (by omega);have HR0:Hid (RowT wm w.heap.size (.slice (some ⟨w.heap.size,0,none⟩) 0 n) [] []):=hide (RowT.start hom);have Hbm:=hide hbm;have H00:Hid (∃g cap,(Value.slice (some ⟨w.heap.size,0,none⟩) 0 n:Value)=.slice (some ⟨g,0,none⟩) 0 cap/\w.heap.size<=g/\g<wm.heap.size):=hide ⟨_,_,rfl,Nat.le_refl _,hsm⟩;by_cases h4:400<n
 ·have hgt:(400:Int)<(n:Int):=by omega
  have HE:Hid (OfPost L w (.returned (.tuple #[.pointer none,.int .i64 2])) w):=hide ⟨⟨Below.refl _ _,.inl ⟨rfl,.inl (by omega)⟩⟩⟩;clear hA hL hwe hT hnl HA HL Hwe HT HT0 Hnl hmake hom hbm hsm HR0 Hbm H00;go_enter Tryz.func8,Tryz.ntmps8;go_wp2;go_ret2;exact HE
 have hgt:¬(400:Int)<(n:Int):=by omega
 have H4:Hid (n<=400):=hide (by omega);clear hA hL hwe hT hnl hom hbm hsm;go_enter Tryz.func8,Tryz.ntmps8;go_wp2
 go_loopg [4,18] n (fun r s4 s18 wx=>∃(i:Nat) (zs:List Value),i+r=n/\s18=.int .i64 (i:Int)/\Hid (RowT wx w.heap.size s4 zs (L.take i))/\Hid (Below w.heap.size w wx)/\Hid (∀e∈L.take i,FormedE e.1 e.2)/\Hid (i=0->∃g cap,s4=.slice (some ⟨g,0,none⟩) 0 cap/\w.heap.size<=g/\g<wx.heap.size))
 case atStart=>exact⟨0,[],by omega,rfl,HR0,Hbm,hide (by simp),hide fun _=>H00.out⟩
 case round=>
  clear HR0 Hbm hmake H00;obtain⟨i,zs,hig,rfl,hR,hBr,hF,h00⟩:=hrel;cases gk with
  | zero=>
   obtain rfl:i=n:=by omega
   have hiz:¬((i:Int)<(i:Int)):=by omega
   have hLn:L.take i=L:=List.take_of_length_le (by rw[<-Hnl.out];exact Nat.le_refl _);have hT4:=hR.out;rw[hLn] at hT4;have hall:=hF.out;rw[hLn] at hall;have hpl:∀e∈L,(pathV e.1).length<=1000000:=fun e he=>by
    have h1:=(Hwe.out e he).1;rw[(zDo (hall e he)).1,List.length_reverse];have:=zDd 44 e.1 (by decide);omega
   have hso:=zRg wr w.heap.size _ L zs hT4 hBr.out.size (fun h=>h00.out (by rw[Hnl.out];exact h)) (by have:=Hnl.out;have:=H4.out;omega) hpl;rw[<-Hnl.out] at hso;obtain⟨A4,c4,rfl,hcal⟩:=hso;have HCal:=hide hcal;have Hall:=hide hall;have Hpl:=hide hpl;have HTr:=hide (HT.out.below hBr.out);clear hLn hT4 hall hpl hcal hR hF h00 HT HA HL;go_wp2_with (go_at_call 28;fail);refine HCal.out.mono ?_;rintro e' ws hps;obtain⟨M,xs2,hso,rfl,hM1,hM2,hbs⟩:=hps.out;have hbw:=hBr.out.trans hbs;have hsw:wr.heap.size<=ws.heap.size:=hbs.size;have Hso:=hide hso;have hMl:M.length=i:=by rw[hso.1.length_eq];exact Hnl.out.symm
   have HMl:=hide hMl;rw[<-Hnl.out] at hM1;have HM1:=hide hM1;have HM2:=hide hM2;have Hbw:=hide hbw;have HTs:=hide (HT0.out.below hbw);clear hps hso hM1 hM2 hbs hbw hsw hMl HCal HTr hBr;go_wp2_with (go_at_call 23;fail);refine (zNx ws).mono ?_;rintro e' wn hpn;obtain⟨rfl,hQ,hbn,hsz⟩:=hpn.out;obtain⟨q,hq⟩:∃q,ws.heap.size=q:=⟨_,rfl⟩;have Hq:=hide hq;rw[hq] at hQ hsz;rw[hq];have HQ:=hide hQ;have Hbn:=hide hbn;have Hqn:Hid (q<wn.heap.size):=hide (by omega);have HRow:Hid (wn.ownsRow wn.heap.size 64 3 (.slice none 0 0) 0 []):=hide ⟨rfl,.inl ⟨rfl,rfl⟩⟩;clear hpn hq hQ hbn hsz;go_wp2
   go_loopg [37] i (fun r s37 wx=>∃(j:Nat) (v:Value) (ys:List Value),j+r=i/\s37=.int .i64 (j:Int)/\Hid (wx.ownsRow wn.heap.size 64 3 v j ys)/\Hid (Blk wx q [v])/\Hid (Below ws.heap.size ws wx)/\Hid (wn.heap.size<=wx.heap.size)/\Hid (ys=xs2.take (j*3))/\Hid (∀k x,k<j->M[k]?=some x->RoomP (M.take k) (pathV x.1)))
   case atStart=>exact⟨0,_,[],by omega,rfl,HRow,HQ,Hbn,hide (Nat.le_refl _),hide (by simp),hide (fun k x h=>by omega)⟩
   case round=>
    clear HRow HQ Hbn;obtain⟨j,v0,zz,hjg,rfl,HRo,HQx,HBx0,Hnw,Hzz,Hrm⟩:=hrel;obtain⟨Av,cv0,rfl,hv1,hv2⟩:=zAh HRo.out;have htree:TreeR wr q (M.take j):=by
     have hjl:(M.take j).length=j:=(by rw[List.length_take,HMl.out];omega);refine⟨⟨Av,cv0,zz,by rw[hjl];exact HQx.out,by rw[hjl];exact (zQn HRo.out).move (fun p _=>rfl) fun b hb=>hb.2,?_⟩⟩;rw[Hzz.out];exact (HM2.out.take j).move (fun p hp=>HBx0.out.cell hp) fun b hb=>Nat.lt_of_lt_of_le hb HBx0.out.size
    cases gk with
    | zero=>
     obtain rfl:j=i:=by omega
     have hjz:¬((j:Int)<(j:Int)):=by omega
     have HE:Hid (OfPost L w (.returned (.tuple #[.pointer (some ⟨q,0,none⟩),.int .i64 0])) wr):=hide (by
      rw[List.take_of_length_le (by rw[HMl.out];exact Nat.le_refl _)] at htree
      exact⟨⟨Hbw.out.trans (HBx0.out.mono Hbw.out.size),.inr ⟨q,M,rfl,⟨by have:=Hnl.out;have:=H4.out;omega,Hall.out,Hso.out,fun k x hk=>Hrm.out k x (by have:=(List.getElem?_eq_some_iff.1 hk).1;have:=HMl.out;omega) hk⟩,htree⟩⟩⟩)
     clear htree hv1 hv2 HRo HQx HBx0 Hnw Hzz Hrm Hall Hso HM1 HM2 Hbw HTs;go_wp2;go_ret2;exact HE
    | succ r=>
     have hj:j<i:=(by omega);have hjz:(j:Int)<(i:Int):=(by omega);obtain⟨x,hx⟩:∃x,M[j]?=some x:=⟨_,List.getElem?_eq_getElem (by rw[HMl.out];exact hj)⟩;have hne:M≠[]:=fun h=>by rw[h] at hx;simp at hx
     have hB:=HM1.out.has (B:=ws.heap.size) fun b hb=>hb
     obtain⟨g,o,hAe,hg,hc⟩:=hB.lies (by have:=hB.1;omega);obtain⟨V,cv,ys5,Q,dq,t0,t1,t2,q1,q2,q3,q4,_,_,h6⟩:=HM2.out.each j x hx;subst hAe;have hxL:x∈L:=Hso.out.1.subset (List.mem_of_getElem? hx);have hfx:=Hall.out x hxL;have c0:=(HBx0.out.cell (p:=⟨g,o+j*3,none⟩) hg).trans (hc _ _ t0);have d1:ws.cell? ⟨g,o+j*3+1,none⟩=some (.slice V x.2.length cv):=by have:=hc _ _ t1;rwa [<-Nat.add_assoc] at this
     have c1:=(HBx0.out.cell (p:=⟨g,o+j*3+1,none⟩) hg).trans d1;have d2:ws.cell? ⟨g,o+j*3+2,none⟩=some (.slice Q (pathV x.1).length dq):=by have:=hc _ _ t2;rwa [<-Nat.add_assoc] at this
     have c2:=(HBx0.out.cell (p:=⟨g,o+j*3+2,none⟩) hg).trans d2;clear d1 d2;obtain⟨S,hS⟩:∃S,txt x.1=S:=⟨_,rfl⟩;obtain⟨k,hk⟩:∃k,x.2.length=k:=⟨_,rfl⟩;obtain⟨m,hm⟩:∃m,(pathV x.1).length=m+1:=⟨(pathV x.1).length-1,by have:=List.length_pos_iff.2 (zBx hfx.loose.norm hfx.loose.ne);omega⟩;have hm6:m<=1000000:=by have:=Hpl.out x hxL;omega
     have hpa:=((h6.has (B:=ws.heap.size) fun b hb=>hb).below HBx0.out).upto HBx0.out.size;rw[hS] at c0;rw[hk] at c1;rw[hm] at c2 hpa q3;have hbx:=below1 wr (.cells #[.string S,.slice V k cv,.slice Q (m+1) dq] 64);have hBx:Blk (wr.alloc (.cells #[.string S,.slice V k cv,.slice Q (m+1) dq] 64)) wr.heap.size [.string S,.slice V k cv,.slice Q (m+1) dq]:=Blk.new wr [.string S,.slice V k cv,.slice Q (m+1) dq] 64;obtain⟨w3,hw3⟩:∃x,wr.alloc (.cells #[.string S,.slice V k cv,.slice Q (m+1) dq] 64)=x:=⟨_,rfl⟩;rw[hw3] at hbx hBx;have hsp:=zLy Hso.out Hrm.out;have hfit:FitN (M.take j):=⟨by rw[List.length_take];have:=HMl.out;have:=H4.out;omega,fun e he=>Hpl.out e (Hso.out.1.subset (List.mem_of_mem_take he)),fun e he=>by
      have:=Hwe.out e (Hso.out.1.subset (List.mem_of_mem_take he))
      exact⟨this.2.1,fun a ha=>(this.2.2 a ha).2⟩⟩
     have hro:=zJ9 (M.take j) (pathV x.1) w3 q Q m dq (htree.grow hbx) hsp hfit hm hm6 q3 q4 ((hpa.below hbx).upto hbx.size) (HT0.out.below (Hbw.out.trans ((HBx0.out.trans (hbx.mono HBx0.out.size)).mono Hbw.out.size)));obtain⟨R,hR⟩:∃R,Tr (RoomP (M.take j) (pathV x.1))=R:=⟨_,rfl⟩;rw[hR] at hro;obtain⟨kp,hkp⟩:∃kp,m+1=kp:=⟨_,rfl⟩;rw[hkp] at hro hw3 hBx c2;have HRo5:=hide hro;have HR:=hide hR;have Hw3:=hide hw3;have Hbx:=hide hbx;have HBx:=hide hBx;have Hx:=hide hx;have hnx:Hid (xs2.take ((j+1)*3)=xs2.take (j*3)++[.string S,.slice V k cv,.slice Q kp dq]):=hide (by
      have t2:xs2[j*3+1+1]?=_:=t2
      rw[show (j+1)*3=j*3+1+1+1 by omega,List.take_add_one,List.take_add_one,List.take_add_one,t0,t1,t2,hS,hk,hm,hkp]
      simp)
     have y2:=hBx.cells 2 _ rfl;have Hsn:Hid (ws.heap.size<=wr.heap.size):=hide HBx0.out.size;have hno:∀b,wr.heap.size=b->some b≠(Value.slice Av j cv0).ownBlock:=fun b e q=>by have:=(HRo.out.lt _ q.symm).2;omega
     clear htree hc t0 t1 t2 q1 q2 q3 q4 h6 hxL hfx hS hk hm hm6 hpa hbx hBx hw3 hsp hfit hro hR hkp hx hv1 hv2 hB hne;go_upto_region 16 with fail;rw[Hw3.out];clear c0 c1 c2 Hw3;obtain⟨h5,hh5⟩:∃h,wr.heap.size=h:=⟨_,rfl⟩;have Hn5:=hide (hno h5 hh5);rw[hh5] at HBx y2;(try rw[hh5]);clear hh5 hno;go_wp2_with (go_at_call 31;fail);refine HRo5.out.mono ?_;rintro e' w4 ⟨rfl,hb4⟩;have HBs5:=hide (HBx0.out.trans ((Hbx.out.trans (hb4.mono Hbx.out.size)).mono HBx0.out.size));cases R with
     | false=>
      have HE:Hid (OfPost L w (.returned (.tuple #[.pointer none,.int .i64 2])) w4):=hide ⟨⟨Hbw.out.trans (HBs5.out.mono Hbw.out.size),.inl ⟨rfl,.inr (.inr ⟨M,j,x,Hso.out,Hx.out,fun hf=>by have:=HR.out;rw[zAm hf] at this;cases this⟩)⟩⟩⟩;clear hb4 HBs5 HRo5 HR Hbx HBx Hx hnx y2 HRo HQx HBx0 Hnw Hzz Hrm Hall Hso HM1 HM2 Hbw HTs;go_wp2;go_ret2;exact HE
     | true=>
      have hrm:RoomP (M.take j) (pathV x.1):=Classical.byContradiction fun hf=>by have:=HR.out;rw[zAp hf] at this;cases this
      have HM9:Hid (∀k' y,k'<j+1->M[k']?=some y->RoomP (M.take k') (pathV y.1)):=hide (by
       intro k' y hk' hy
       by_cases hlt:k'<j
       ·exact Hrm.out k' y hlt hy
       ·obtain rfl:k'=j:=by omega
        rw[Hx.out] at hy
        rw[<-Option.some.inj hy]
        exact hrm)
      have hbb:=Hbx.out.trans (hb4.mono Hbx.out.size);have HQ5:=hide (HQx.out.grow hbb);have HRw5:=hide (zAc HRo.out hbb);have Hnw4:=hide (Nat.le_trans Hnw.out hbb.size);have HBx4:=hide (HBx.out.grow hb4);have hji:j+1<=2000000:=by have:=H4.out;omega
      clear hrm hbb hb4 HRo5 HR Hbx HBx Hx y2 HRo HQx HBx0 Hnw Hrm Hall Hso HM1 HM2 Hbw HTs;go_upto_region 18 with fail;refine zDe w4.drew.heap.size (Value.slice Av j cv0).ownBlock 10 (by kernel_rfl) ?_;have hdr:Below w4.heap.size w4 w4.drew:=(Below.refl _ _).drew;have HQd:=hide (HQ5.out.grow hdr);have HOwn:=hide (zAc HRw5.out hdr);have Hsz:Hid (wn.heap.size<=w4.drew.heap.size):=hide (Nat.le_trans Hnw4.out hdr.size);have HBd:=hTz HBs5 hdr;have X0:Hid (∀W,upBB w4.drew.heap.size (Value.slice Av j cv0).ownBlock w4.drew W->W.cell? ⟨q,0,none⟩=some (.slice Av j cv0)/\W.cell? ⟨h5,0,none⟩=some (.string S)/\W.cell? ⟨h5,1,none⟩=some (.slice V k cv)/\W.cell? ⟨h5,2,none⟩=some (.slice Q kp dq)):=hide fun W hW=>by
       have b5:=HBx4.out.grow hdr;have n1:some q≠(Value.slice Av j cv0).ownBlock:=fun e=>by have:=(HRw5.out.lt _ e.symm).1;have:=Hqn.out;omega
       have n2:some h5≠(Value.slice Av j cv0).ownBlock:=Hn5.out;exact⟨(hW.cell (p:=⟨q,0,none⟩) HQd.out.lt n1).trans (HQd.out.cells 0 _ rfl),(hW.cell (p:=⟨h5,0,none⟩) b5.lt n2).trans (b5.cells 0 _ rfl),(hW.cell (p:=⟨h5,1,none⟩) b5.lt n2).trans (b5.cells 1 _ rfl),(hW.cell (p:=⟨h5,2,none⟩) b5.lt n2).trans (b5.cells 2 _ rfl)⟩
      clear hdr HQ5 HRw5 HBx4;generalize w4.drew=wd at *;refine zAd 0 (some 46) rfl rfl (by kernel_rfl) rfl (by kernel_rfl) (by rfl) (fun W hW=>by go_simp<;>with_reducible rfl) ?_;(try simp only[pUz]);refine zAd 1 (some 47) rfl rfl (by kernel_rfl) rfl (by kernel_rfl) (by rfl) (fun W hW=>by go_simp<;>with_reducible rfl) ?_;(try simp only[pUz]);refine zAd 2 (some 48) rfl rfl (by kernel_rfl) rfl (by kernel_rfl) (by rfl) (fun W hW=>by go_simp<;>with_reducible rfl) ?_;(try simp only[pUz]);refine zAd 3 (some 49) rfl rfl (by kernel_rfl) rfl (by kernel_rfl) (by rfl) (fun W hW=>by go_simp<;>with_reducible rfl) ?_;(try simp only[pUz]);refine zAd 4 (some 50) (v:=?va4) rfl rfl (by kernel_rfl) rfl (by kernel_rfl) (by rfl) (fun W hW=>?ya4) ?_
      case ya4=>have k0:=(X0.out W hW).1;go_simp<;>with_reducible rfl
      (try simp only[pUz]);refine zAd 5 (some 51) (v:=?va5) rfl rfl (by kernel_rfl) rfl (by kernel_rfl) (by rfl) (fun W hW=>?ya5) ?_
      case ya5=>obtain⟨_,k0,k1,k2⟩:=X0.out W hW;go_simp<;>with_reducible rfl
      (try simp only[pUz]);refine zAo 6 rfl (by kernel_rfl) (fun K hK=>?_);go_simp;have hbc:=below1 wd (.cells #[.string S,.slice V k cv,.slice Q kp dq] 64);refine hK.out _ _ (fun _=>zDn _ (Nat.le_refl _) hbc) ?_;have hlit:=litND wd (.string S) (.slice V k cv) (.slice Q kp dq) rfl rfl rfl;have hown6:=zAc HOwn.out hbc;have hs6:wn.heap.size<=(wd.alloc (.cells #[.string S,.slice V k cv,.slice Q kp dq] 64)).heap.size:=Nat.le_trans Hsz.out hbc.size;have h1c:∀u∈([.string S,.slice V k cv,.slice Q kp dq]:List Value),u.oneCell'=true:=by simp[Value.oneCell']
      clear hK K;(try simp only[pUz]);refine zAo 7 rfl (by kernel_rfl) (fun K hK=>?_);refine stepE _ 61 64 _ 3 64 Tryz.underlying61 infoND rfl (by omega) (by omega) (some 53) rfl rfl (.tmp 50) (.tmp 52) rfl wn.heap.size _ _ _ rfl hown6 _ _ 1 1 [.string S,.slice V k cv,.slice Q kp dq] rfl (Has.own hlit) h1c (by omega) hs6 ?_;intro v7 w7 hown7 hb7 hg7 ht7;refine hK.out _ _ (fun _=>zFy hbc.size hg7) ?_;have HB7:=hide ((hbc.mono Hsz.out).trans hb7);obtain⟨A7,c7,rfl,_,_⟩:=zAh hown7;have HR7:=hide hown7;have HQ7:=hide (HQd.out.below Hqn.out HB7.out);clear hK K hown7 hb7 hg7 ht7 hown6 hs6 h1c hlit hbc;(try simp only[pUz]);refine zAo 8 rfl (by kernel_rfl) (fun K hK=>?_);go_simp;refine hK.out _ _ (fun _=>zEx _ (Below.refl _ _)) ?_;clear hK K;(try simp only[pUz]);refine zAd 9 (some 55) rfl rfl (by kernel_rfl) rfl (by kernel_rfl) (by rfl) (fun W hW=>by go_simp<;>with_reducible rfl) ?_;(try simp only[pUz]);refine zAo 10 rfl (by kernel_rfl) (fun K hK=>?_);have cm:=HQ7.out.cells 0 _ rfl;have fm:=HQ7.out.fz;go_simp;refine hK.out _ _ (fun h=>absurd rfl h) ?_;clear hK K cm fm;(try simp only[pUz]);refine zC6 (by kernel_rfl) ?_ _;have HQ9:Hid (Blk (w7.setCell ⟨q,0,none⟩ (.slice A7 (j+1) c7)) q [.slice A7 (j+1) c7]):=hide (HQ7.out.set 0 (.slice A7 (j+1) c7) (by simp));have HR9:=hide (ownsRow_setCell_below HR7.out (a:=⟨q,0,none⟩) Hqn.out (.slice A7 (j+1) c7));have HB9:=hide ((HBd.out.trans (HB7.out.mono (by rw[Hq.out];exact Nat.le_of_lt Hqn.out))).setCell (p:=⟨q,0,none⟩) (by rw[Hq.out];exact Nat.le_refl _) (.slice A7 (j+1) c7));have HN9:Hid (wn.heap.size<=(w7.setCell ⟨q,0,none⟩ (.slice A7 (j+1) c7)).heap.size):=hide (by rw[show (w7.setCell ⟨q,0,none⟩ (.slice A7 (j+1) c7)).heap.size=w7.heap.size by simp[World.setCell]];exact Nat.le_trans Hsz.out HB7.out.size);have HZ9:Hid (zz++[.string S,.slice V k cv,.slice Q kp dq]=xs2.take ((j+1)*3)):=hide (by rw[hnx.out,Hzz.out]);clear HQ7 HR7 HB7 HQd HOwn Hsz HBd Hzz;go_wp2
      go_roundg r
      case measure=>omega
      case rel=>exact⟨j+1,_,_,by omega,by go_num,HR9,HQ9,HB9,HN9,HZ9,HM9⟩
  | succ r=>
   obtain⟨wo,rfl⟩:∃wo,wo=wr:=⟨_,rfl⟩;have hi:i<n:=by omega
   have hiz:(i:Int)<(n:Int):=by omega
   obtain⟨e,he⟩:∃e,L[i]?=some e:=⟨_,List.getElem?_eq_getElem (by rw[<-Hnl.out];exact hi)⟩;have hve:=Hwe.out e (List.mem_of_getElem? he);obtain⟨g,o,hAe,hg,hat⟩:=HA.out.en HL.out (fun h=>by rw[h] at he;simp at he);obtain⟨V,cv,ys,hat⟩:=hat i e he;subst hAe;have e0:=(hBr.out.cell hg).trans hat.e0;have e1:=(hBr.out.cell hg).trans hat.e1;have hT2:=HT.out.below hBr.out;have hVh:=(hat.has.below hBr.out).upto hBr.out.size;have hVe:=hat.attrs.grow hBr.out;obtain⟨S,hS⟩:∃x,txt e.1=x:=⟨_,rfl⟩;obtain⟨k,hk⟩:∃x,e.2.length=x:=⟨_,rfl⟩;rw[hk] at e1 hVh;rw[hS] at e0;have hbx:=below1 wo (.cells #[.string S,.slice V k cv] 38);have hBx:Blk (wo.alloc (.cells #[.string S,.slice V k cv] 38)) wo.heap.size [.string S,.slice V k cv]:=Blk.new wo [.string S,.slice V k cv] 38;obtain⟨w3,hw3⟩:∃x,wo.alloc (.cells #[.string S,.slice V k cv] 38)=x:=⟨_,rfl⟩;rw[hw3] at hbx hBx;have hk6:k<=1000000:=by have:=hve.2.1;omega
   have HFo:=hide (zJg e.1 e.2 w3 V k cv ys ((hVh.below hbx).upto hbx.size) (hVe.grow hbx) hk6 (by have:=hve.1;omega) (fun a ha=>(hve.2.2 a ha).2) (hT2.below hbx));have HCo:Hid (∀w4,Below w3.heap.size w3 w4->Calls Tryz.prog 27 #[.agg #[.string S,.slice V k cv]] w4 (EntPost e w4)):=hide (fun w4 hb4=>by
    have:=zCh e.1 e.2 w4 V k cv ys ((((hVh.below hbx).upto hbx.size).below hb4).upto hb4.size) ((hVe.grow hbx).grow hb4) hk6 (by have:=hve.1;omega) (fun a ha=>⟨by have:=(hve.2.2 a ha).1;omega,(hve.2.2 a ha).2.1,fun u hu=>by have:=(hve.2.2 a ha).2.2 u hu;omega⟩)
    rwa [hS] at this)
   obtain⟨F,hFF⟩:∃F,Tr (FormedE e.1 e.2)=F:=⟨_,rfl⟩;rw[hFF,hS] at HFo;have HFF:=hide hFF;have HS:=hide hS;have Hk:=hide hk;have Hw3:=hide hw3;have Hbx:=hide hbx;have HBx:=hide hBx;have He:=hide he;have Hve:=hide hve.1;have Htk:Hid (L.take (i+1)=L.take i++[e]):=hide (by rw[List.take_add_one,he];rfl);have Hli:Hid (i=(L.take i).length):=hide (by rw[List.length_take];have:=Hnl.out;omega);have y0:=hBx.cells 0 _ rfl;have y1:=hBx.cells 1 _ rfl;clear hat hT2 hVh hVe hS hk hbx hBx hve he hw3 hFF HA HL Hwe HT HT0 Hnl h00;go_upto_region 7 with fail;rw[Hw3.out];clear e0 e1 Hw3;obtain⟨h5,hh5⟩:∃h,wo.heap.size=h:=⟨_,rfl⟩;have Hh5:=hide hh5;rw[hh5] at HBx y0 y1;(try rw[hh5]);clear hh5;go_wp2_with (go_at_call 25;fail);refine HFo.out.mono ?_;rintro e' w4 ⟨rfl,hb4⟩;have HB4:=hide hb4;have HCo4:=hide (HCo.out w4 hb4);have y0:=(HBx.out.grow hb4).cells 0 _ rfl;have y1:=(HBx.out.grow hb4).cells 1 _ rfl;clear hb4 HCo HFo HBx;cases F with
   | false=>
    have HE:Hid (OfPost L w (.returned (.tuple #[.pointer none,.int .i64 2])) w4):=hide ⟨⟨hBr.out.trans ((Hbx.out.trans (HB4.out.mono Hbx.out.size)).mono hBr.out.size),.inl ⟨rfl,.inr (.inl ⟨e,List.mem_of_getElem? He.out,fun hf=>by have:=HFF.out;rw[zAm hf] at this;cases this⟩)⟩⟩⟩;clear y0 y1 HB4 hR hBr hF Hbx He HFF Htk Hli Hve HCo4;go_wp2;go_ret2;exact HE
   | true=>
    have hfe:FormedE e.1 e.2:=Classical.byContradiction fun hf=>by have:=HFF.out;rw[zAp hf] at this;cases this
    have Hfe:=hide hfe;have HN:Hid (∀w5 A5 n5 c5,Calls Tryz.prog 26 #[.agg #[.string S,.slice A5 n5 c5]] w5 (NodePost S A5 n5 c5 (pathV e.1) w5)):=hide (fun w5 A5 n5 c5=>by
     have hp:=zDo hfe
     have hl:=zDd 44 e.1 (by decide)
     have:=zGd e.1 hfe.loose.ne (by have:=Hve.out;omega) hp.2 (by have:=Hve.out;omega) w5 A5 n5 c5
     rwa [<-hp.1,HS.out] at this)
    clear hfe HFF;go_wp2_with (go_at_call 27;fail);refine HCo4.out.mono ?_;rintro e' w5 hp5;obtain⟨A5,c5,ys5,rfl,k1,k2,hH5,hE5,hb5⟩:=hp5.out;rw[HS.out,Hk.out];rw[Hk.out] at k1 hH5;have HP5:=hide (And.intro k1 (And.intro k2 (And.intro hH5 (And.intro hE5 hb5))));clear hp5 k1 k2 hH5 hE5 hb5 HCo4 y0 y1;go_wp2_with (go_at_call 26;fail);refine (HN.out _ _ _ _).mono ?_;rintro e' w6 hp6;obtain⟨P6,c6,rfl,k3,k4,hH6,hb6⟩:=hp6.out;obtain⟨kp,hkp⟩:∃x,(pathV e.1).length=x:=⟨_,rfl⟩;have Hkp:=hide hkp;rw[hkp];have hbw:Below wo.heap.size wo w6:=(Hbx.out.trans (HB4.out.mono Hbx.out.size)).trans ((HP5.out.2.2.2.2.trans (hb6.mono HP5.out.2.2.2.2.size)).mono (Nat.le_trans Hbx.out.size HB4.out.size));have Hbw:=hide hbw;have hlow:wo.heap.size<=w4.heap.size:=Nat.le_trans Hbx.out.size HB4.out.size;have HP6:Hid (HasP w6 (NewB wo.heap.size w6.heap.size) 2 A5 k ys5/\EAsP w6 (NewB wo.heap.size w6.heap.size) ys5 e.2/\HasP w6 (NewB wo.heap.size w6.heap.size) 1 P6 (pathV e.1).length (strs (pathV e.1))/\k<=c5/\c5<=maxLen/\(pathV e.1).length<=c6/\c6<=maxLen):=hide (by
     obtain⟨p1,p2,p3,p4,p5⟩:=HP5.out
     have mv:∀b,NewB w4.heap.size w5.heap.size b->NewB wo.heap.size w6.heap.size b:=fun b hb=>⟨Nat.le_trans hlow hb.1,Nat.lt_of_lt_of_le hb.2 hb6.size⟩
     exact⟨p3.move (fun p hp=>hb6.cell hp.2) mv,p4.move (fun p hp=>hb6.cell hp.2) mv,hH6.move (fun p hp=>rfl) (fun b hb=>⟨Nat.le_trans hlow (Nat.le_trans p5.size hb.1),hb.2⟩),p1,p2,k3,k4⟩)
    have hown:=zAc hR.out.own (hbw.trans ((below1 w6 (.cells #[.string S,.slice A5 k c5,.slice P6 kp c6] 64)).mono hbw.size));rw[<-Hli.out] at hown;have hlit:=litND w6 (.string S) (.slice A5 k c5) (.slice P6 kp c6) rfl rfl rfl;have hH:=Has.own hlit;have hs4:w.heap.size<=(w6.alloc (.cells #[.string S,.slice A5 k c5,.slice P6 kp c6] 64)).heap.size:=Nat.le_trans hBr.out.size (Nat.le_trans hbw.size (below1 w6 _).size);have h1c:∀u∈[Value.string S,Value.slice A5 k c5,Value.slice P6 kp c6],u.oneCell'=true:=by simp[Value.oneCell']
    have hai:i+1<=2000000:=by omega
    clear hp6 k3 k4 hH6 hb6 hkp hbw hlow hlit HP5 HN;go_wp2_with (at_builtin;go_must (refine appN _ 61 64 _ 3 64 Tryz.underlying61 infoND rfl (by omega) (by omega) rfl (.tmp 25) (.tmp 29) rfl w.heap.size _ i zs rfl hown _ _ 1 1 [.string S,.slice A5 k c5,.slice P6 kp c6] rfl hH h1c hai hs4 ?_));intro v7 w7 hown7 hb7 hg7 ht7;have HR7:Hid (RowT w7 w.heap.size v7 (zs++[.string S,.slice A5 k c5,.slice P6 kp c6]) (L.take (i+1))):=hide (by
     rw[Htk.out]
     have hq:=RowT.more hR.out hBr.out.size Hbw.out (e:=e) (A:=A5) (c:=c5) (ys:=ys5) (Q:=P6) (d:=c6) (w6:=w6.alloc (.cells #[.string S,.slice A5 k c5,.slice P6 kp c6] 64)) (v':=v7) (w7:=w7) (by rw[Hk.out];exact HP6.out.2.2.2.1) HP6.out.2.2.2.2.1 HP6.out.2.2.2.2.2.1 HP6.out.2.2.2.2.2.2 (below1 w6 _) (by rw[Hk.out];exact HP6.out.1) HP6.out.2.1 HP6.out.2.2.1 (by rw[<-Hli.out,HS.out,Hk.out,Hkp.out];exact hown7) hg7 (by simpa using ht7)
     rw[HS.out,Hk.out,Hkp.out] at hq
     exact hq)
    have HB7:=hide (hBr.out.trans ((Hbw.out.trans ((below1 w6 (.cells #[.string S,.slice A5 k c5,.slice P6 kp c6] 64)).mono Hbw.out.size)).mono hBr.out.size |>.trans hb7));have HF7:Hid (∀e∈L.take (i+1),FormedE e.1 e.2):=hide (by
     rw[Htk.out]
     intro x hx
     rcases List.mem_append.1 hx with hx | hx
     ·exact hF.out x hx
     ·rw [List.mem_singleton.1 hx];exact Hfe.out)
    clear hown7 hb7 hg7 ht7 hown hH hs4 h1c hai HP6 Hbw hR hBr hF Hbx Hfe HB4 He Hve Htk;go_wp2
    go_roundg r
    case measure=>omega
    case rel=>exact⟨i+1,_,by omega,by go_num,HR7,HB7,HF7,hide (fun h=>by omega)⟩
end Go.Proofs.YtdkekamkmlpnhaaGreatDoor
namespace Go.Proofs.YtdkekamkmlpnhaaGreatDoor
open Go Go.RowKit
theorem tlen_any (N:List EN) (w:World) (q:Nat) (hR:TreeR w q N):Calls Tryz.prog 21 #[.pointer (some ⟨q,0,none⟩)] w fun e w'=>e=.returned (.int .i64 (N.length:Int))/\w'=w:=by
 obtain⟨A,c,xs,hQ,_,_⟩:=hR.out;have k0:=hQ.cells 0 _ rfl;clear hQ hR;generalize N.length=n at *;go_enter Tryz.func21,Tryz.ntmps21;go_wp2;go_ret;exact⟨rfl,rfl⟩
theorem makeEN (w:World) (n:Nat) (hn:n<=1000000):
  ∃w',(Instr.makeSlice 22 (.int .i64 0) (.int .i64 (n:Int))).run Tryz.prog w=.ok (.slice (some ⟨w.heap.size,0,none⟩) 0 n) w'/\
   w'.ownsRow w.heap.size 38 2 (.slice (some ⟨w.heap.size,0,none⟩) 0 n) 0 []/\Below w.heap.size w w':=by
 obtain⟨i0,hi,hz0,hz1,hz2⟩:=info_parts infoEN;obtain⟨w',h1,h2,h3⟩:=run_make_own (P:=Tryz.prog) w w.heap.size 22 38 i0 (.agg #[.string .empty,.slice none 0 0]) 2 Tryz.underlying22 hi hz0 hz1 .i64 .i64 n (by rw[hz2];omega) (by unfold maxLen;omega) (Nat.le_refl _);exact⟨w',h1,h2,(Below.refl _ _).grown h3 (Nat.le_refl _) (fun g hg=>by cases hg)⟩
def WideN (N:List EN):Prop:=N.length<=100000/\∀e∈N,e.1.length<=1048576/\e.2.length<=1000000/\∀a∈e.2,a.1.length<=1048576/\a.2.length<=1000000/\∀u∈a.2,u.length<=1048576
theorem tall_any (N:List EN) (w:World) (q:Nat) (hR:TreeR w q N) (hW:WideN N):
  Calls Tryz.prog 22 #[.pointer (some ⟨q,0,none⟩)] w (EntsPost N w):=by
 suffices H:Calls Tryz.prog 22 #[.pointer (some ⟨q,0,none⟩)] w fun e w'=>Hid (EntsPost N w e w') from H.mono fun e w' h=>h.out
 obtain⟨n,hn⟩:∃n,N.length=n:=⟨_,rfl⟩;have hn6:n<=100000:=by have:=hW.1;omega
 obtain⟨A,c,xs,hQ,hA,hN⟩:=hR.out;rw[hn] at hQ hA;have k0:=hQ.cells 0 _ rfl;obtain⟨wm,hmake,hom,hbm⟩:=makeEN w n (by omega);have k0m:=(hQ.grow hbm).cells 0 _ rfl;have HR0:Hid (RowN wm w.heap.size 38 (.slice (some ⟨w.heap.size,0,none⟩) 0 n) [] []):=hide (RowN.start hom);have Hbm:=hide hbm;have HA:=hide hA;have HN:=hide hN;have Hn:=hide hn;have HW:=hide hW;clear hR hW hQ hA hN hom hbm hn;go_enter Tryz.func22,Tryz.ntmps22;go_wp2;clear k0 k0m
 go_loopg [3,19] n (fun r s3 s19 wx=>∃(i:Nat) (zs:List Value),i+r=n/\s19=.int .i64 (i:Int)/\Hid (RowN wx w.heap.size 38 s3 zs (N.take i))/\Hid (Below w.heap.size w wx))
 case atStart=>exact⟨0,[],by omega,rfl,HR0,Hbm⟩
 case round=>
  clear HR0 Hbm hmake;obtain⟨i,zs,hig,rfl,hR,hBr⟩:=hrel;cases gk with
  | zero=>
   obtain rfl:i=n:=by omega
   have hiz:¬((i:Int)<(i:Int)):=by omega
   have hT:=hR.out;rw[List.take_of_length_le (by rw[Hn.out];exact Nat.le_refl _)] at hT;obtain⟨A3,c3,rfl,hc3,hP3⟩:=zAv hT.own;have hm3:=zAu hT.own;have HE:Hid (EntsPost N w (.returned (.slice A3 N.length c3)) wr):=hide ⟨⟨A3,c3,zs,rfl,hc3,hm3,hP3,hT.ents.move (fun p _=>rfl) (fun b hb=>⟨hb.1,hb.2.1⟩),hBr.out⟩⟩;rw[Hn.out] at HE ⊢;clear hT hc3 hP3 hm3 hR hBr HA HN HW;go_wp2;go_ret;exact HE
  | succ r=>
   obtain⟨wo,rfl⟩:∃wo,wo=wr:=⟨_,rfl⟩;have hi:i<n:=by omega
   have hiz:(i:Int)<(n:Int):=by omega
   obtain⟨e,he⟩:∃e,N[i]?=some e:=⟨_,List.getElem?_eq_getElem (by rw[Hn.out];exact hi)⟩;have hve:=HW.out.2 e (List.mem_of_getElem? he);have hB:=HA.out.has (B:=w.heap.size) fun b hb=>hb
   obtain⟨g,o,hAe,hg,hc⟩:=hB.lies (by have:=hB.1;omega);obtain⟨V,cv,ys,Q,dq,t0,t1,t2,q1,q2,q3,q4,h4,h5,h6⟩:=HN.out.each i e he;subst hAe;have c0:=(hBr.out.cell (p:=⟨g,o+i*3,none⟩) hg).trans (hc _ _ t0);have d1:w.cell? ⟨g,o+i*3+1,none⟩=some (.slice V e.2.length cv):=by have:=hc _ _ t1;rwa [<-Nat.add_assoc] at this
   have c1:=(hBr.out.cell (p:=⟨g,o+i*3+1,none⟩) hg).trans d1;have d2:w.cell? ⟨g,o+i*3+2,none⟩=some (.slice Q (pathV e.1).length dq):=by have:=hc _ _ t2;rwa [<-Nat.add_assoc] at this
   have c2:=(hBr.out.cell (p:=⟨g,o+i*3+2,none⟩) hg).trans d2;obtain⟨S,hS⟩:∃S,txt e.1=S:=⟨_,rfl⟩;obtain⟨k,hk⟩:∃k,e.2.length=k:=⟨_,rfl⟩;obtain⟨kp,hkp⟩:∃k,(pathV e.1).length=k:=⟨_,rfl⟩;rw[hS] at c0;rw[hk] at c1;rw[hkp] at c2;have hbx:=below1 wo (.cells #[.string S,.slice V k cv,.slice Q kp dq] 64);have hBx:Blk (wo.alloc (.cells #[.string S,.slice V k cv,.slice Q kp dq] 64)) wo.heap.size [.string S,.slice V k cv,.slice Q kp dq]:=Blk.new wo [.string S,.slice V k cv,.slice Q kp dq] 64;obtain⟨w3,hw3⟩:∃x,wo.alloc (.cells #[.string S,.slice V k cv,.slice Q kp dq] 64)=x:=⟨_,rfl⟩;rw[hw3] at hbx hBx;have hb3:=hBr.out.trans (hbx.mono hBr.out.size);have HCo:Hid (Calls Tryz.prog 27 #[.agg #[.string S,.slice V k cv]] w3 (EntPost e w3)):=hide (by
    have:=zCh e.1 e.2 w3 V k cv ys (by have:=((h4.has (B:=w.heap.size) fun b hb=>hb).below hb3).upto hb3.size;rwa [hk] at this) ((h5.eas (B:=w.heap.size) fun b hb=>hb).grow hb3) (by have:=hve.2.1;omega) hve.1 hve.2.2
    rwa [hS] at this)
   have HS:=hide hS;have Hk:=hide hk;have Hw3:=hide hw3;have Hbx:=hide hbx;have Htk:Hid (N.take (i+1)=N.take i++[e]):=hide (by rw[List.take_add_one,he];rfl);have Hli:Hid (i=(N.take i).length):=hide (by rw[List.length_take];have:=Hn.out;omega);have y0:=hBx.cells 0 _ rfl;have y1:=hBx.cells 1 _ rfl;clear hc t0 t1 t2 q1 q2 q3 q4 h4 h5 h6 d1 d2 hS hk hkp hbx hBx hw3 hb3 hve he hB HA HN HW;go_upto_region 7 with fail;rw[Hw3.out];clear c0 c1 c2 Hw3;obtain⟨h5,hh5⟩:∃h,wo.heap.size=h:=⟨_,rfl⟩;have Hh5:=hide hh5;rw[hh5] at y0 y1;(try rw[hh5]);clear hh5;go_wp2_with (go_at_call 27;fail);refine HCo.out.mono ?_;rintro e' w5 hp5;obtain⟨A5,c5,ys5,rfl,k1,k2,hH5,hE5,hb5⟩:=hp5.out;rw[HS.out,Hk.out];rw[Hk.out] at k1 hH5;have hbw:Below wo.heap.size wo w5:=Hbx.out.trans (hb5.mono Hbx.out.size);have Hbw:=hide hbw;have HP5:Hid (HasP w5 (NewB wo.heap.size w5.heap.size) 2 A5 k ys5/\EAsP w5 (NewB wo.heap.size w5.heap.size) ys5 e.2/\k<=c5/\c5<=maxLen):=hide ⟨hH5.move (fun p _=>rfl) (fun b hb=>⟨Nat.le_trans Hbx.out.size hb.1,hb.2⟩),hE5.move (fun p _=>rfl) (fun b hb=>⟨Nat.le_trans Hbx.out.size hb.1,hb.2⟩),k1,k2⟩;have hown:=zAc hR.out.own (hbw.trans ((below1 w5 (.cells #[.string S,.slice A5 k c5] 38)).mono hbw.size));rw[<-Hli.out] at hown;have hlit:=litY w5 (.string S) (.slice A5 k c5) 38 rfl rfl;have hH:=Has.own hlit;have hs4:w.heap.size<=(w5.alloc (.cells #[.string S,.slice A5 k c5] 38)).heap.size:=Nat.le_trans hBr.out.size (Nat.le_trans hbw.size (below1 w5 _).size);have h1c:∀u∈[Value.string S,Value.slice A5 k c5],u.oneCell'=true:=by simp[Value.oneCell']
   have hai:i+1<=2000000:=by omega
   clear hp5 k1 k2 hH5 hE5 hb5 hbw hlit HCo y0 y1;go_wp2_with (at_builtin;go_must (refine appN _ 22 38 _ 2 40 Tryz.underlying22 infoEN rfl (by omega) (by omega) rfl (.tmp 23) (.tmp 27) rfl w.heap.size _ i zs rfl hown _ _ 1 1 [.string S,.slice A5 k c5] rfl hH h1c hai hs4 ?_));intro v7 w7 hown7 hb7 hg7 ht7;have HR7:Hid (RowN w7 w.heap.size 38 v7 (zs++[.string S,.slice A5 k c5]) (N.take (i+1))):=hide (by
    rw[Htk.out]
    have hq:=RowN.more hR.out hBr.out.size Hbw.out (a:=e) (A:=A5) (c:=c5) (ys:=ys5) (w6:=w5.alloc (.cells #[.string S,.slice A5 k c5] 38)) (v':=v7) (w7:=w7) (by rw[Hk.out];exact HP5.out.2.2.1) HP5.out.2.2.2 (below1 w5 _) (by rw[Hk.out];exact HP5.out.1) HP5.out.2.1 (by rw[<-Hli.out,HS.out,Hk.out];exact hown7) hg7 (by simpa using ht7)
    rw[HS.out,Hk.out] at hq
    exact hq)
   have HB7:=hide (hBr.out.trans ((Hbw.out.trans ((below1 w5 (.cells #[.string S,.slice A5 k c5] 38)).mono Hbw.out.size)).mono hBr.out.size |>.trans hb7));clear hown7 hb7 hg7 ht7 hown hH hs4 h1c hai HP5 Hbw hR hBr Hbx Htk;go_wp2
   go_roundg r
   case measure=>omega
   case rel=>exact⟨i+1,_,by omega,by go_num,HR7,HB7⟩
end Go.Proofs.YtdkekamkmlpnhaaGreatDoor
namespace Go.Proofs.YtdkekamkmlpnhaaGreatDoor
open Go Go.RowKit
theorem TreeM.read {w:World} {P:Nat->Prop} {q:Nat} {N:List EN} (h:TreeM w P q N) (hP:∀b,P b->b<w.heap.size):TreeR w q N:=by
 obtain⟨A,c,xs,h1,_,_,h4,h5⟩:=h.out;exact⟨⟨A,c,xs,h1,h4.move (fun p _=>rfl) hP,h5.move (fun p _=>rfl) hP⟩⟩
structure CopyT (N:List EN) (w:World) (e:Ending) (w':World):Prop where
 out:∃q,e=.returned (.pointer (some ⟨q,0,none⟩))/\TreeM w' (NewB w.heap.size w'.heap.size) q N/\w.heap.size<=q/\Below w.heap.size w w'
theorem zPj (N:List EN) (w:World) (q:Nat) (hR:TreeR w q N) (hW:WideN N) (hF:∀e∈N,FormedE e.1 e.2) (hL9:∀e∈N,e.1.length<=900000):
  Calls Tryz.prog 11 #[.pointer (some ⟨q,0,none⟩)] w (CopyT N w):=by
 suffices H:Calls Tryz.prog 11 #[.pointer (some ⟨q,0,none⟩)] w fun e w'=>Hid (CopyT N w e w') from H.mono fun e w' h=>h.out
 obtain⟨n,hn⟩:∃n,N.length=n:=⟨_,rfl⟩;have hn6:n<=100000:=by have:=hW.1;omega
 obtain⟨A,c,xs,hQ,hA,hN⟩:=hR.out;rw[hn] at hQ hA;have k0:=hQ.cells 0 _ rfl;obtain⟨wm,hmake,hom,hbm,_⟩:=makeND w n (by omega);have k0m:=(hQ.grow hbm).cells 0 _ rfl;have HR0:Hid (RowT wm w.heap.size (.slice (some ⟨w.heap.size,0,none⟩) 0 n) [] []):=hide (RowT.start hom);have Hbm:=hide hbm;have HA:=hide hA;have HN:=hide hN;have Hn:=hide hn;have HW:=hide hW;have HF:=hide hF;have HL9:=hide hL9;clear hR hW hF hL9 hQ hA hN hom hbm hn;go_enter Tryz.func11,Tryz.ntmps11;go_wp2;clear k0 k0m
 go_loopg [3,19] n (fun r s3 s19 wx=>∃(i:Nat) (zs:List Value),i+r=n/\s19=.int .i64 (i:Int)/\Hid (RowT wx w.heap.size s3 zs (N.take i))/\Hid (Below w.heap.size w wx))
 case atStart=>exact⟨0,[],by omega,rfl,HR0,Hbm⟩
 case round=>
  clear HR0 Hbm hmake;obtain⟨i,zs,hig,rfl,hR,hBr⟩:=hrel;cases gk with
  | zero=>
   obtain rfl:i=n:=by omega
   have hiz:¬((i:Int)<(i:Int)):=by omega
   have hT:=hR.out;rw[List.take_of_length_le (by rw[Hn.out];exact Nat.le_refl _)] at hT;obtain⟨A3,c3,rfl,hc3,hP3⟩:=zAv hT.own;have hm3:=zAu hT.own;have hba:=below1 wr (.cells #[.slice A3 N.length c3] 72);have mv:∀b,(w.heap.size<=b/\b<wr.heap.size)->NewB w.heap.size (wr.alloc (.cells #[.slice A3 N.length c3] 72)).heap.size b:=fun b hb=>⟨hb.1,Nat.lt_of_lt_of_le hb.2 hba.size⟩
   have HE:Hid (CopyT N w (.returned (.pointer (some ⟨wr.heap.size,0,none⟩))) (wr.alloc (.cells #[.slice A3 N.length c3] 72))):=hide ⟨⟨_,rfl,⟨⟨A3,c3,zs,Blk.new wr [.slice A3 N.length c3] 72,hc3,hm3,hP3.move (fun p hp=>hba.cell hp.2) mv,hT.nds.move (fun p hp=>hba.cell hp.2.1) (fun b hb=>mv b ⟨hb.1,hb.2.1⟩)⟩⟩,hBr.out.size,hBr.out.trans (hba.mono hBr.out.size)⟩⟩;rw[Hn.out] at HE ⊢;clear hT hc3 hP3 hm3 hR hBr HA HN HW HF HL9 hba mv;go_wp2;go_ret;exact HE
  | succ r=>
   obtain⟨wo,rfl⟩:∃wo,wo=wr:=⟨_,rfl⟩;have hi:i<n:=by omega
   have hiz:(i:Int)<(n:Int):=by omega
   obtain⟨e,he⟩:∃e,N[i]?=some e:=⟨_,List.getElem?_eq_getElem (by rw[Hn.out];exact hi)⟩;have hfe:=HF.out e (List.mem_of_getElem? he);have hve:=HW.out.2 e (List.mem_of_getElem? he);have hB:=HA.out.has (B:=w.heap.size) fun b hb=>hb
   obtain⟨g,o,hAe,hg,hc⟩:=hB.lies (by have:=hB.1;omega);obtain⟨V,cv,ys,Q,dq,t0,t1,t2,q1,q2,q3,q4,h4,h5,h6⟩:=HN.out.each i e he;subst hAe;have c0:=(hBr.out.cell (p:=⟨g,o+i*3,none⟩) hg).trans (hc _ _ t0);have d1:w.cell? ⟨g,o+i*3+1,none⟩=some (.slice V e.2.length cv):=by have:=hc _ _ t1;rwa [<-Nat.add_assoc] at this
   have c1:=(hBr.out.cell (p:=⟨g,o+i*3+1,none⟩) hg).trans d1;have d2:w.cell? ⟨g,o+i*3+2,none⟩=some (.slice Q (pathV e.1).length dq):=by have:=hc _ _ t2;rwa [<-Nat.add_assoc] at this
   have c2:=(hBr.out.cell (p:=⟨g,o+i*3+2,none⟩) hg).trans d2;obtain⟨S,hS⟩:∃S,txt e.1=S:=⟨_,rfl⟩;obtain⟨k,hk⟩:∃k,e.2.length=k:=⟨_,rfl⟩;obtain⟨kp,hkp⟩:∃k,(pathV e.1).length=k:=⟨_,rfl⟩;rw[hS] at c0;rw[hk] at c1;rw[hkp] at c2;have hbx:=below1 wo (.cells #[.string S,.slice V k cv,.slice Q kp dq] 64);have hBx:Blk (wo.alloc (.cells #[.string S,.slice V k cv,.slice Q kp dq] 64)) wo.heap.size [.string S,.slice V k cv,.slice Q kp dq]:=Blk.new wo [.string S,.slice V k cv,.slice Q kp dq] 64;obtain⟨w3,hw3⟩:∃x,wo.alloc (.cells #[.string S,.slice V k cv,.slice Q kp dq] 64)=x:=⟨_,rfl⟩;rw[hw3] at hbx hBx;have hb3:=hBr.out.trans (hbx.mono hBr.out.size);have HCo:Hid (Calls Tryz.prog 27 #[.agg #[.string S,.slice V k cv]] w3 (EntPost e w3)):=hide (by
    have:=zCh e.1 e.2 w3 V k cv ys (by have:=((h4.has (B:=w.heap.size) fun b hb=>hb).below hb3).upto hb3.size;rwa [hk] at this) ((h5.eas (B:=w.heap.size) fun b hb=>hb).grow hb3) (by have:=hve.2.1;omega) hve.1 hve.2.2
    rwa [hS] at this)
   have HNo:Hid (∀w5 A5 n5 c5,Calls Tryz.prog 26 #[.agg #[.string S,.slice A5 n5 c5]] w5 (NodePost S A5 n5 c5 (pathV e.1) w5)):=hide (fun w5 A5 n5 c5=>by
    have hp:=zDo hfe
    have hl:=zDd 44 e.1 (by decide)
    have hl1:=HL9.out e (List.mem_of_getElem? he)
    have:=zGd e.1 hfe.loose.ne (by omega) hp.2 (by omega) w5 A5 n5 c5
    rwa [<-hp.1,hS] at this)
   have HS:=hide hS;have Hk:=hide hk;have Hw3:=hide hw3;have Hbx:=hide hbx;have Htk:Hid (N.take (i+1)=N.take i++[e]):=hide (by rw[List.take_add_one,he];rfl);have Hli:Hid (i=(N.take i).length):=hide (by rw[List.length_take];have:=Hn.out;omega);have y0:=hBx.cells 0 _ rfl;have y1:=hBx.cells 1 _ rfl;clear hc t0 t1 t2 q1 q2 q3 q4 h4 h5 h6 d1 d2 hS hk hkp hbx hBx hw3 hb3 hve he hB hfe HA HN HW HF HL9;go_upto_region 7 with fail;rw[Hw3.out];clear c0 c1 c2 Hw3;obtain⟨h5,hh5⟩:∃h,wo.heap.size=h:=⟨_,rfl⟩;have Hh5:=hide hh5;rw[hh5] at y0 y1;(try rw[hh5]);clear hh5;go_wp2_with (go_at_call 27;fail);refine HCo.out.mono ?_;rintro e' w5 hp5;obtain⟨A5,c5,ys5,rfl,k1,k2,hH5,hE5,hb5⟩:=hp5.out;rw[HS.out,Hk.out];rw[Hk.out] at k1 hH5;have HP5:=hide (And.intro k1 (And.intro k2 (And.intro hH5 (And.intro hE5 hb5))));clear hp5 k1 k2 hH5 hE5 hb5 HCo y0 y1;go_wp2_with (go_at_call 26;fail);refine (HNo.out _ _ _ _).mono ?_;rintro e' w6 hp6;obtain⟨P6,c6,rfl,k3,k4,hH6,hb6⟩:=hp6.out;obtain⟨kp,hkp⟩:∃x,(pathV e.1).length=x:=⟨_,rfl⟩;have Hkp:=hide hkp;rw[hkp];have hbw:Below wo.heap.size wo w6:=Hbx.out.trans ((HP5.out.2.2.2.2.trans (hb6.mono HP5.out.2.2.2.2.size)).mono Hbx.out.size);have Hbw:=hide hbw;have hlow:wo.heap.size<=w3.heap.size:=Hbx.out.size;have HP6:Hid (HasP w6 (NewB wo.heap.size w6.heap.size) 2 A5 k ys5/\EAsP w6 (NewB wo.heap.size w6.heap.size) ys5 e.2/\HasP w6 (NewB wo.heap.size w6.heap.size) 1 P6 (pathV e.1).length (strs (pathV e.1))/\k<=c5/\c5<=maxLen/\(pathV e.1).length<=c6/\c6<=maxLen):=hide (by
    obtain⟨p1,p2,p3,p4,p5⟩:=HP5.out
    have mv:∀b,NewB w3.heap.size w5.heap.size b->NewB wo.heap.size w6.heap.size b:=fun b hb=>⟨Nat.le_trans hlow hb.1,Nat.lt_of_lt_of_le hb.2 hb6.size⟩
    exact⟨p3.move (fun p hp=>hb6.cell hp.2) mv,p4.move (fun p hp=>hb6.cell hp.2) mv,hH6.move (fun p hp=>rfl) (fun b hb=>⟨Nat.le_trans hlow (Nat.le_trans p5.size hb.1),hb.2⟩),p1,p2,k3,k4⟩)
   have hown:=zAc hR.out.own (hbw.trans ((below1 w6 (.cells #[.string S,.slice A5 k c5,.slice P6 kp c6] 64)).mono hbw.size));rw[<-Hli.out] at hown;have hlit:=litND w6 (.string S) (.slice A5 k c5) (.slice P6 kp c6) rfl rfl rfl;have hH:=Has.own hlit;have hs4:w.heap.size<=(w6.alloc (.cells #[.string S,.slice A5 k c5,.slice P6 kp c6] 64)).heap.size:=Nat.le_trans hBr.out.size (Nat.le_trans hbw.size (below1 w6 _).size);have h1c:∀u∈[Value.string S,Value.slice A5 k c5,Value.slice P6 kp c6],u.oneCell'=true:=by simp[Value.oneCell']
   have hai:i+1<=2000000:=by omega
   clear hp6 k3 k4 hH6 hb6 hkp hbw hlow hlit HP5 HNo;go_wp2_with (at_builtin;go_must (refine appN _ 61 64 _ 3 64 Tryz.underlying61 infoND rfl (by omega) (by omega) rfl (.tmp 23) (.tmp 28) rfl w.heap.size _ i zs rfl hown _ _ 1 1 [.string S,.slice A5 k c5,.slice P6 kp c6] rfl hH h1c hai hs4 ?_));intro v7 w7 hown7 hb7 hg7 ht7;have HR7:Hid (RowT w7 w.heap.size v7 (zs++[.string S,.slice A5 k c5,.slice P6 kp c6]) (N.take (i+1))):=hide (by
    rw[Htk.out]
    have hq:=RowT.more hR.out hBr.out.size Hbw.out (e:=e) (A:=A5) (c:=c5) (ys:=ys5) (Q:=P6) (d:=c6) (w6:=w6.alloc (.cells #[.string S,.slice A5 k c5,.slice P6 kp c6] 64)) (v':=v7) (w7:=w7) (by rw[Hk.out];exact HP6.out.2.2.2.1) HP6.out.2.2.2.2.1 HP6.out.2.2.2.2.2.1 HP6.out.2.2.2.2.2.2 (below1 w6 _) (by rw[Hk.out];exact HP6.out.1) HP6.out.2.1 HP6.out.2.2.1 (by rw[<-Hli.out,HS.out,Hk.out,Hkp.out];exact hown7) hg7 (by simpa using ht7)
    rw[HS.out,Hk.out,Hkp.out] at hq
    exact hq)
   have HB7:=hide (hBr.out.trans ((Hbw.out.trans ((below1 w6 (.cells #[.string S,.slice A5 k c5,.slice P6 kp c6] 64)).mono Hbw.out.size)).mono hBr.out.size |>.trans hb7));clear hown7 hb7 hg7 ht7 hown hH hs4 h1c hai HP6 Hbw hR hBr Hbx Htk;go_wp2
   go_roundg r
   case measure=>omega
   case rel=>exact⟨i+1,_,by omega,by go_num,HR7,HB7⟩
end Go.Proofs.YtdkekamkmlpnhaaGreatDoor
