/- Several texts in one: DRWithout, DRaised, DRChange0, DRChange1, DRChange2. By an AI agent. -/
import Derived.Test.YtadlmhclpaifoaaGreatDoorEX
import Derived.Laws.MakeOwn
import Derived.Test.YtadlmhclpaifoaaGreatDoorDZ
import Derived.Test.YtadlmhclpaifoaaGreatDoorDV
set_option linter.unusedSimpArgs false
set_option linter.unusedVariables false
set_option maxRecDepth 100000
set_option maxHeartbeats 32000000
namespace Go.Proofs.YtadlmhclpaifoaaGreatDoor
open Go Go.RowKit
open Classical in
noncomputable def woV (t v:List UInt8):List (List UInt8)->Bool->List (List UInt8) × Bool
 | [],g=>([],g)
 | x::r,g=>if g=false/\AlikeV t x v then woV t v r true else (x::(woV t v r g).1,(woV t v r g).2)
theorem within_one {t x v:List UInt8}:WithinV t [x] v↔AlikeV t x v:=by
 unfold WithinV;simp
structure LessPost (R:List (List UInt8) × Bool) (w:World) (e:Ending) (w':World):Prop where
 out:∃v,e=.returned (.tuple #[v,.bool R.2])/\w'.ownsRow w.heap.size 9 1 v R.1.length (strs R.1)/\Below w.heap.size w w'
theorem zKp (t v:List UInt8) (L:List (List UInt8)) (w:World) (A:Option Addr) (n c:Nat) (hA:Has w w.heap.size 1 A n (strs L)) (hn:n<=1000000) (hnc:n<=c) (hcm:c<=maxLen) (ht:t.length<=1000000) (hv:v.length<=1000000) (hL:∀u∈L,u.length<=1000000) (hT:TM w):
  Calls Tryz.prog 49 #[.string (txt t),.slice A n c,.string (txt v)] w (LessPost (woV t v L false) w):=by
 suffices H:Calls Tryz.prog 49 #[.string (txt t),.slice A n c,.string (txt v)] w (fun e w'=>∃k val,e=.returned (.tuple #[val,.bool (woV t v L false).2])/\Hid (k=(woV t v L false).1.length)/\w'.ownsRow w.heap.size 9 1 val k (strs (woV t v L false).1)/\Below w.heap.size w w') from
  H.mono fun e w' ⟨k,val,h1,h2,h3,h4⟩=>⟨val,h1,by rw[<-h2.out];exact h3,h4⟩
 have hnl:=hA.strs_n;unfold maxLen at hcm;obtain⟨RR,hRR⟩:∃R,woV t v L false=R:=⟨_,rfl⟩;rw[hRR];obtain⟨R1,R2⟩:=RR;have HR:=hide hRR;have HA:=hide hA;have HN:=hide hnl;have HLn:=hide hL;have HT:=hide hT;have Htv:=hide (And.intro ht hv);clear hRR hA hnl hL hT ht hv;obtain⟨TN,hTN⟩:∃S,txt t=S:=⟨_,rfl⟩;obtain⟨VN,hVN⟩:∃S,txt v=S:=⟨_,rfl⟩;have HTN:=hide (And.intro hTN hVN);rw[hTN,hVN];clear hTN hVN;go_enter Tryz.func49,Tryz.ntmps49;go_wp2
 go_loopg [8,9,13] n (fun r s8 s9 s13 wx=>∃(i:Nat) (gone:Bool) (acc:List (List UInt8)),i+r=n/\s13=.int .i64 (i:Int)/\s9=.bool gone/\Hid (acc++(woV t v (L.drop i) gone).1=R1/\(woV t v (L.drop i) gone).2=R2/\acc.length<=i)/\wx.ownsRow w.heap.size 9 1 s8 acc.length (strs acc)/\Below w.heap.size w wx)
 case atStart=>exact⟨0,false,[],by omega,rfl,rfl,hide ⟨by rw[List.drop_zero,HR.out];rfl,by rw[List.drop_zero,HR.out],by simp⟩,nil_own _ _ _ _,Below.refl _ _⟩
 case round=>
  obtain⟨i,gone,acc,hig,rfl,rfl,hacc,hor,hbr⟩:=hrel;clear HR;cases gk with
  | zero=>
   obtain rfl:i=n:=by omega
   have hiz:¬((i:Int)<(i:Int)):=by omega
   have he:=hacc.out;rw[List.drop_eq_nil_of_le (by rw[<-HN.out];exact Nat.le_refl _)] at he;unfold woV at he;simp only[List.append_nil] at he;obtain⟨rfl,rfl,_⟩:=he;have Hor:=hide hor;have Hbr:=hide hbr;obtain⟨k,hk⟩:∃k,acc.length=k:=⟨_,rfl⟩;rw[hk] at Hor;have Hk:=hide hk;clear hor hbr hacc hk HA;go_wp2;go_ret2;exact⟨k,_,rfl,hide Hk.out.symm,Hor.out,Hbr.out⟩
  | succ r=>
   have hi:i<n:=by omega
   have hiz:(i:Int)<(n:Int):=by omega
   obtain⟨x,hx⟩:∃x,L[i]?=some x:=⟨_,List.getElem?_eq_getElem (by rw[<-HN.out];exact hi)⟩;have hxm:=List.mem_of_getElem? hx;obtain⟨g,o,hAe,hg,hat⟩:=HA.out.texts (fun h=>by rw[h] at hx;simp at hx);have HAe:=hide hAe;subst hAe;have y0:=(hbr.cell (p:=⟨g,o+i,none⟩) hg).trans (hat i x hx);have hdrop:L.drop i=x::L.drop (i+1):=by obtain⟨h1,h2⟩:=List.getElem?_eq_some_iff.1 hx;rw[List.drop_eq_getElem_cons h1,h2]
   have he:=hacc.out;rw[hdrop] at he;unfold woV at he;have hx1:Has wr wr.heap.size 1 (some ⟨g,o+i,none⟩) 1 (strs [x]):=⟨rfl,.inr ⟨_,rfl,Nat.lt_of_lt_of_le hg hbr.size,fun j u hu=>by
    cases j with
    | zero=>
     simp only[strs,List.map_cons,List.getElem?_cons_zero,Option.some.injEq] at hu
     rw[<-hu]
     exact y0
    | succ j=>simp[strs] at hu⟩⟩
   have HW:=hide (fun cc=>zC4 t v [x] wr (some ⟨g,o+i,none⟩) 1 cc hx1 (by omega) Htv.out.1 Htv.out.2 (fun u hu=>by simp only[List.mem_singleton] at hu;rw[hu];exact HLn.out x hxm) (HT.out.below hbr));obtain⟨XN,hXN⟩:∃S,txt x=S:=⟨_,rfl⟩;have HXN:=hide hXN;rw[hXN] at y0;rw[HTN.out.1,HTN.out.2] at HW;have hai:acc.length+1<=10000000:=by have:=hacc.out.2.2;omega
   have hal:=hacc.out.2.2;have hstep:strs (acc++[x])=strs acc++[.string XN]:=by rw[zAy,<-hXN];rfl
   have Hstep:=hide hstep;have Hal:=hide hal;have Hor:=hide hor;have Hbr:=hide hbr;have hic:(i:Int)+1<=(c:Int):=by omega
   have hic':i+1<=c:=by omega
   have hi0:(0:Int)<=(i:Int):=by omega
   clear hstep hal hXN hx1 hdrop hx hat hacc hor hxm;cases gone with
   | true=>
    rw[if_neg (by simp)] at he;have He:=hide he;have hone:=litS wr XN;have hH:=Has.own hone;have hor4:=Hor.out.alloc (.cells #[.string XN] 9);have hbr4:=hbr.alloc hbr.size (.cells #[.string XN] 9);have hs4:=hbr4.size;have h1c:∀u∈[Value.string XN],u.oneCell'=true:=by simp[Value.oneCell']
    clear he hone HW hbr;go_wp2_with (at_builtin;go_must (refine appE _ 39 9 _ 1 16 Tryz.underlying39 infoS rfl (by omega) (by omega) rfl (.tmp 28) (.tmp 33) rfl w.heap.size _ acc.length _ rfl hor4 _ _ 1 1 [.string XN] rfl hH h1c hai hs4 ?_));intro v' w5 hor5 hb5 _;have hbr5:=hbr4.trans hb5;rw[<-Hstep.out] at hor5;clear hor4 hbr4 hs4 hH hb5 h1c;go_wp2
    go_roundg r
    case measure=>omega
    case rel=>exact⟨i+1,true,acc++[x],by omega,by go_num,rfl,hide ⟨by rw[List.append_assoc];exact He.out.1,He.out.2.1,by rw[List.length_append];have:=Hal.out;simp only[List.length_cons,List.length_nil];omega⟩,by rw[List.length_append];exact hor5,hbr5⟩
   | false=>
    by_cases hal:AlikeV t x v
    ·rw [if_pos ⟨rfl,hal⟩] at he;have He:=hide he;rw[zAn (within_one.2 hal)] at HW;clear he hal;go_wp2_with (go_at_call 33;fail);refine (HW.out _).mono ?_;rintro e w2 ⟨rfl,hb2⟩;have HO2:=hide (zAd Hor.out hb2);have HB2:=hide (hbr.trans (hb2.mono hbr.size));clear hb2 HW hbr y0 Hor Hbr;go_wp2
     go_roundg r
     case measure=>omega
     case rel=>exact⟨i+1,true,acc,by omega,by go_num,rfl,hide ⟨He.out.1,He.out.2.1,by have:=Hal.out;omega⟩,HO2.out,HB2.out⟩
    ·rw [if_neg (fun q=>hal q.2)] at he;have He:=hide he;rw[zAq (fun q=>hal (within_one.1 q))] at HW;clear he hal;go_wp2_with (go_at_call 33;fail);refine (HW.out _).mono ?_;rintro e w2 ⟨rfl,hb2⟩;have hor2:=zAd Hor.out hb2;have hbr2:=hbr.trans (hb2.mono hbr.size);have y2:=(hb2.cell (p:=⟨g,o+i,none⟩) (Nat.lt_of_lt_of_le hg hbr.size)).trans y0;have hone:=litS w2 XN;have hH:=Has.own hone;have hor4:=hor2.alloc (.cells #[.string XN] 9);have hbr4:=hbr2.alloc hbr2.size (.cells #[.string XN] 9);have hs4:=hbr4.size;have h1c:∀u∈[Value.string XN],u.oneCell'=true:=by simp[Value.oneCell']
     clear hone HW hbr hb2 y0 Hor Hbr hor2 hbr2;go_wp2_with (at_builtin;go_must (refine appE _ 39 9 _ 1 16 Tryz.underlying39 infoS rfl (by omega) (by omega) rfl (.tmp 28) (.tmp 33) rfl w.heap.size _ acc.length _ rfl hor4 _ _ 1 1 [.string XN] rfl hH h1c hai hs4 ?_));intro v' w5 hor5 hb5 _;have hbr5:=hbr4.trans hb5;rw[<-Hstep.out] at hor5;clear hor4 hbr4 hs4 hH hb5 h1c;go_wp2
     go_roundg r
     case measure=>omega
     case rel=>exact⟨i+1,false,acc++[x],by omega,by go_num,rfl,hide ⟨by rw[List.append_assoc];exact He.out.1,He.out.2.1,by rw[List.length_append];have:=Hal.out;simp only[List.length_cons,List.length_nil];omega⟩,by rw[List.length_append];exact hor5,hbr5⟩
structure BoxI (w:World) (q:Nat) (a b:Int):Prop where
 lt:q<w.heap.size
 c0:w.cell? ⟨q,0,none⟩=some (.int .i64 a)
 c1:w.cell? ⟨q,1,none⟩=some (.int .i64 b)
theorem BoxI.new (w:World) (a b:Int) (t:TypeId):BoxI (w.alloc (.cells #[.int .i64 a,.int .i64 b] t)) w.heap.size a b:=by
 refine⟨by simp,?_,?_⟩<;>(rw[World.cell?_alloc_at (hn:=by simp)];rfl)
theorem BoxI.grow {w w':World} {q:Nat} {a b:Int} (h:BoxI w q a b) (hb:Below w.heap.size w w'):BoxI w' q a b:=
 ⟨Nat.lt_of_lt_of_le h.lt hb.size,(hb.cell (p:=⟨q,0,none⟩) h.lt).trans h.c0,(hb.cell (p:=⟨q,1,none⟩) h.lt).trans h.c1⟩
theorem zUt (a b c d:Int) (ha:a.natAbs<=1000000) (hb:b.natAbs<=1000000) (hc:c.natAbs<=1000000) (hd:d.natAbs<=1000000) (w:World):
  Calls Tryz.prog 98 #[pairV a b,pairV c d] w fun e w'=>∃v,e=.returned v/\rres (a+c) (b+d) v/\Below w.heap.size w w':=by
 by_cases h:InB (a+c) (b+d)
 ·have hW:=fun w=>zAw (a+c) (b+d) h w
  have hres:rres (a+c) (b+d) (.tuple #[.agg #[.int .i64 (a+c),.int .i64 (b+d)],.int .i64 0]):=Or.inl ⟨h,rfl⟩;replace hres:=hide hres;clear h;unfold pairV at hW ⊢;go_enter Tryz.func98,Tryz.ntmps98;go_wp2_with (go_at_call 119;refine (hW _).mono ?_;rintro e w1 ⟨rfl,rfl⟩)
  (try simp only[Exit.inBlock,Exit.then])
  refine bodyPost_ret (v:=.tuple #[.agg #[.int .i64 (a+c),.int .i64 (b+d)],.int .i64 0]) ?_ rfl ⟨_,rfl,hres.out,below5 _ _ _ _ _ _⟩;rw[results_cell_tmp rfl];go_simp
 ·have hW:=fun w=>zAz (a+c) (b+d) h w
  have hres:rres (a+c) (b+d) (.tuple #[.agg #[.int .i64 0,.int .i64 0],.int .i64 3]):=Or.inr ⟨h,rfl⟩;replace hres:=hide hres;clear h;unfold pairV at hW ⊢;go_enter Tryz.func98,Tryz.ntmps98;go_wp2_with (go_at_call 119;refine (hW _).mono ?_;rintro e w1 ⟨rfl,rfl⟩)
  (try simp only[Exit.inBlock,Exit.then])
  refine bodyPost_ret (v:=.tuple #[.agg #[.int .i64 0,.int .i64 0],.int .i64 3]) ?_ rfl ⟨_,rfl,hres.out,below5 _ _ _ _ _ _⟩;rw[results_cell_tmp rfl];go_simp
theorem zN6 (v u:List UInt8) (a b:Int) (ia:IsInt v a) (ib:IsInt u b) (w:World) (hT:TT w):
  Calls Tryz.prog 75 #[.int .i64 3,.string (txt v),.string (txt u)] w (PlusPost 3 v u w):=by
 have hP1:=fun w=>zCn (txt v) a (by rw[zAc];exact ia) w
 have hP2:=fun w=>zCn (txt u) b (by rw[zAc];exact ib) w
 have hF:=fun w hT=>zB8 (a+b) (by have:=ia.1;have:=ib.1;omega) (by have:=ia.1;have:=ib.1;omega) w hT
 obtain⟨s,hs⟩:∃s,Lib.itoa (a+b)=s:=⟨_,rfl⟩;rw[hs] at hF;have hab: -9223372036854775808<=a+b/\a+b<=9223372036854775807:=by have:=ia.1;have:=ib.1;omega
 have hcase:∃(m:Int) (ok:Bool),(∀w,Calls Tryz.prog 92 #[.string (txt s)] w fun e w'=>e=.returned (.tuple #[.int .i64 m,.bool ok])/\Below w.heap.size w w')/\(ok=true->RaiseR 3 v u s)/\(ok=false->¬∃r,RaiseR 3 v u r):=by
  rcases int_or s with⟨m,hm⟩ | hno
  ·refine ⟨m,true,fun w=>zCn (txt s) m (by rw[zAc];exact hm) w,fun _=>.inl ⟨rfl,a,b,ia,ib,?_⟩,fun q=>by cases q⟩;have e:a+b=m:=by
    have h1:=hm.2;rw[<-hs] at h1;exact zLk h1
   rw[e];exact hm
  ·refine ⟨0,false,fun w=>zHu (txt s) (by rw[zAc];exact hno) w,fun q=>(by cases q),fun _=>?_⟩;rintro ⟨r,⟨_,a',b',k1,k2,k3⟩ | ⟨h,_⟩⟩
   ·rw [<-zBq ia k1,<-zBq ib k2] at k3;have e:r=s:=by rw[k3.2,hs]
    rw[e] at k3;exact hno _ k3
   ·omega
 obtain⟨m,ok,hI,hyes,hno⟩:=hcase;have HY:=hide (And.intro hyes hno);have H1:=hide hP1;have H2:=hide hP2;have HF:=hide hF;have HI:=hide hI;have HT:=hide hT;clear hP1 hP2 hF hs ia ib hI hyes hno hT;obtain⟨SV,hSV⟩:∃S,txt v=S:=⟨_,rfl⟩;obtain⟨SU,hSU⟩:∃S,txt u=S:=⟨_,rfl⟩;obtain⟨SS,hSS⟩:∃S,txt s=S:=⟨_,rfl⟩;have HSS:=hide hSS;rw[hSV] at H1 ⊢;rw[hSU] at H2 ⊢;rw[hSS] at HF HI;clear hSV hSU hSS;go_enter Tryz.func75,Tryz.ntmps75;go_wp2_with (go_at_call 92;fail);refine (H1.out _).mono ?_;rintro e w1 ⟨rfl,hb1⟩;have HB1:=hide hb1;clear hb1 H1;go_wp2_with (go_at_call 92;fail);refine (H2.out _).mono ?_;rintro e w2 ⟨rfl,hb2⟩;have HB2:=hTz HB1 hb2;clear hb2 H2 HB1;go_wp2_with (go_at_call 97;fail);refine (HF.out _ ((HT.out.below HB2.out).tabs)).mono ?_;rintro e w3 ⟨rfl,hb3⟩;have HB3:=hTz HB2 hb3;clear hb3 HF HB2;go_wp2_with (go_at_call 92;fail);refine (HI.out _).mono ?_;rintro e w4 ⟨rfl,hb4⟩;have HB4:=hTz HB3 hb4;clear hb4 HI HB3;go_wp2;go_ret2;cases ok with
 | true=>exact zFi (HY.out.1 rfl) (by rw[HSS.out];rfl) HB4.out
 | false=>exact zGy (HY.out.2 rfl) rfl HB4.out
theorem zNu (a b c d:Int) (ha:Small a) (hb:Small b) (hc:Small c) (hd:Small d) (w:World) (hT:Tabs w):
  Calls Tryz.prog 75 #[.int .i64 4,.string (txt (text a b)),.string (txt (text c d))] w (PlusPost 4 (text a b) (text c d) w):=by
 have hP1:=fun w hT=>zFv (txt (text a b)) (by rw[zAg];have:=zDu ha hb;omega) a b ha hb (by rw[zAc]) w hT
 have hP2:=fun w hT=>zFv (txt (text c d)) (by rw[zAg];have:=zDu hc hd;omega) c d hc hd (by rw[zAc]) w hT
 have hA:=fun w=>zUt a b c d (by have:=ha.lo;have:=ha.hi;omega) (by have:=hb.lo;have:=hb.hi;omega) (by have:=hc.lo;have:=hc.hi;omega) (by have:=hd.lo;have:=hd.hi;omega) w
 have hcase:∃(p q f:Int) (ok:Bool),(∀v,rres (a+c) (b+d) v->v=.tuple #[.agg #[.int .i64 p,.int .i64 q],.int .i64 f])/\Small p/\Small q/\(f==0)=ok/\(ok=true->RaiseR 4 (text a b) (text c d) (text p q))/\(ok=false->¬∃s,RaiseR 4 (text a b) (text c d) s):=by
  by_cases hin:InB (a+c) (b+d)
  ·have hs:=zBa hin;refine⟨a+c,b+d,0,true,fun v hv=>?_,hs.1,hs.2,rfl,fun _=>.inr ⟨rfl,a,b,c,d,ha,hb,hc,hd,rfl,rfl,hs.1,hs.2,rfl⟩,fun q=>by cases q⟩;rcases hv with⟨_,rfl⟩ | ⟨h,_⟩
   ·rfl
   ·exact absurd hin h
  ·refine ⟨0,0,3,false,fun v hv=>?_,⟨by omega,by omega⟩,⟨by omega,by omega⟩,rfl,fun q=>(by cases q),fun _=>?_⟩
   ·rcases hv with⟨h,_⟩ | ⟨_,rfl⟩
    ·exact absurd h hin
    ·rfl
   ·rintro ⟨s,⟨h,_⟩ | ⟨_,a',b',c',d',k1,k2,k3,k4,k5,k6,k7,k8,k9⟩⟩
    ·omega
    ·obtain ⟨rfl,rfl⟩:=zB6 ha hb k1 k2 k5;obtain⟨rfl,rfl⟩:=zB6 hc hd k3 k4 k6;exact hin ⟨⟨k7.lo,k7.hi⟩,⟨k8.lo,k8.hi⟩⟩
 obtain⟨p,q,f,ok,hv,sp,sq,hf,hyes,hno⟩:=hcase;have hX:=fun w hT=>zBt p q sp sq w hT
 unfold pairV at hA;have HY:=hide (And.intro hyes hno);have HX:=hide hX;have H1:=hide hP1;have H2:=hide hP2;have HA:=hide hA;have HV:=hide hv;have HT:=hide hT;clear hP1 hP2 hA hv sp sq hyes hno hX ha hb hc hd hT;generalize text p q=TP at *;generalize text a b=TA at *;generalize text c d=TC at *;obtain⟨SA,hSA⟩:∃S,txt TA=S:=⟨_,rfl⟩;obtain⟨SC,hSC⟩:∃S,txt TC=S:=⟨_,rfl⟩;obtain⟨SP,hSP⟩:∃S,txt TP=S:=⟨_,rfl⟩;have HSP:=hide hSP;rw[hSA] at H1 ⊢;rw[hSC] at H2 ⊢;rw[hSP] at HX;clear hSA hSC hSP;go_enter Tryz.func75,Tryz.ntmps75;go_wp2_with (go_at_call 93;fail);refine (H1.out _ HT.out).mono ?_;rintro e w1 ⟨rfl,hb1⟩;have hba:=below1 w1 (.cells #[.int .i64 a,.int .i64 b] 136);have HXa:=hide (BoxI.new w1 a b 136);have HBa:=hide (hb1.trans (hba.mono hb1.size));obtain⟨q1,hq1⟩:∃q,w1.heap.size=q:=⟨_,rfl⟩;clear hb1 H1 hba;go_wp2_with (go_at_call 93;fail);refine (H2.out _ (HT.out.below HBa.out)).mono ?_;rintro e w2 ⟨rfl,hb2⟩;have hbc:=below1 w2 (.cells #[.int .i64 c,.int .i64 d] 136);have hXa2:=(HXa.out.grow hb2).grow hbc;have hXc:=BoxI.new w2 c d 136;have x0:=hXa2.c0;have x1:=hXa2.c1;have y0:=hXc.c0;have y1:=hXc.c1;have HB2:=hide ((HBa.out.trans (hb2.mono HBa.out.size)).trans (hbc.mono (Nat.le_trans HBa.out.size hb2.size)));clear hb2 H2 HBa hbc hXa2 hXc HXa;rw[hq1] at x0 x1;(try rw[hq1]);go_wp2_with (go_at_call 98;fail);refine (HA.out _).mono ?_;rintro e w3 ⟨v,rfl,hv,hb3⟩;obtain rfl:=HV.out v hv;have hbd:=below1 w3 (.cells #[.int .i64 p,.int .i64 q] 136);have hXd:=BoxI.new w3 p q 136;have z0:=hXd.c0;have z1:=hXd.c1;have HB3:=hide ((HB2.out.trans (hb3.mono HB2.out.size)).trans (hbd.mono (Nat.le_trans HB2.out.size hb3.size)));clear hb3 HA HB2 hv hXd hbd x0 x1 y0 y1 HV;go_wp2_with (go_at_call 99;fail);refine (HX.out _ (HT.out.below HB3.out)).mono ?_;rintro e w4 ⟨rfl,hb4⟩;have HB4:=hTz HB3 hb4;clear hb4 HX HB3 z0 z1;go_wp2;go_ret2;cases ok with
 | true=>exact zFi (HY.out.1 rfl) (by rw[HSP.out];rfl) HB4.out
 | false=>exact zGy (HY.out.2 rfl) rfl HB4.out
theorem zEb (t v u:List UInt8) (x:Int) (hx:(typ t).2=x) (h34:x=3\/x=4) (hv:(valV t v).2=0) (hu:(valV t u).2=0) (w:World) (hT:TT w):
  Calls Tryz.prog 75 #[.int .i64 x,.string (txt v),.string (txt u)] w (PlusPost x v u w):=by
 obtain⟨_,fv,_⟩:=zCr hx h34 hv;obtain⟨_,fu,_⟩:=zCr hx h34 hu;rcases h34 with rfl | rfl
 ·obtain ⟨a,ia⟩:=fv.nu rfl;obtain⟨b,ib⟩:=fu.nu rfl;exact zN6 v u a b ia ib w hT
 ·obtain ⟨a,b,ha,hb,rfl⟩:=fv.pl rfl;obtain⟨c,d,hc,hd,rfl⟩:=fu.pl rfl;exact zNu a b c d ha hb hc hd w hT.tabs
structure RChgPost (R:List (List UInt8) × Int) (base:Nat) (w:World) (e:Ending) (w':World):Prop where
 out:∃v,e=.returned (.tuple #[v,.int .i64 R.2])/\w'.ownsRow base 9 1 v R.1.length (strs R.1)/\Below base w w'
theorem zA0 {base:Nat} {w w':World} {g:Int} {e:Ending} (he:e=.returned (.tuple #[.slice none 0 0,.int .i64 g])) (hb:Below base w w'):RChgPost ([],g) base w e w':=
 ⟨_,he,nil_own _ _ _ _,hb⟩
noncomputable def addV (t:List UInt8) (l vs:List (List UInt8)):List (List UInt8) × Int:=if vs=[] then ([],19) else gatherV t l vs
noncomputable def replaceV (t:List UInt8) (vs:List (List UInt8)):List (List UInt8) × Int:=@ite _ (AloneV t vs) (Classical.propDecidable _) (vs,0) ([],20)
theorem zFr {t:List UInt8}:∀{vs l:List (List UInt8)},(∀v∈vs,(valV t v).2=0)->(gatherV t l vs).2≠0->gatherV t l vs=([],20)
 | [],l,_,h=>by unfold gatherV at h;exact absurd rfl h
 | v::vs,l,hv,h=>by
  unfold gatherV at h ⊢;rw[if_neg (by simp[hv v (by simp)])] at h ⊢;split at h
  ·rename_i hw;rw[if_pos hw]
  ·rename_i hw;rw[if_neg hw];exact zFr (fun u hu=>hv u (by simp[hu])) h
theorem zKt (ty t:List UInt8) (x:Int) (l vs:List (List UInt8)) (w:World) (base:Nat) (hbw:base<=w.heap.size) (V:Option Addr) (n cv:Nat) (hV:Has w base 1 V n (strs vs)) (lv:Value) (hl:w.ownsRow base 9 1 lv l.length (strs l))
  (hok:∀v∈vs,(valV t v).2=0) (hsz:l.length+vs.length<=1000000) (ht:t.length<=1000000) (hvs:∀v∈vs,v.length<=1000000) (hls:∀v∈l,v.length<=1000000) (hT:∀w',Below base w w'->TM w'):
  Calls Tryz.prog 43 #[.agg #[.int .i64 0,.string (txt ty),.slice V n cv],.string (txt t),.int .i64 x,lv] w (RChgPost (addV t l vs) base w):=by
 have hn:n=vs.length:=hV.strs_n;have hb1:=below1 w (.cells #[.int .i64 0,.string (txt ty),.slice V n cv] 43);have hX:=BoxC.new w 0 (txt ty) V n cv 43;have x0:=hX.c0;have x2:=hX.c2;have HB:=hide (hb1.mono hbw);have Hl:=hide (zAd hl hb1);have HV:=hide hV;have HT:=hide hT;have Hok:=hide hok;have Hvs:=hide hvs;have Hls:=hide hls;have Ht:=hide ht;have Hbw:=hide hbw;have Hb1:=hide hb1;unfold addV;clear hV hT hok hvs hls ht hX hl hbw hb1;by_cases h0:vs=[]
 ·obtain rfl:n=0:=by rw[hn,h0];rfl
  rw[if_pos h0];generalize txt ty=TY at *;generalize txt t=TN at *;clear h0 hn hsz Hl HV Hok Hvs Hls Ht;go_enter Tryz.func43,Tryz.ntmps43;go_wp2;go_ret2;exact zA0 rfl HB.out
 ·rw [if_neg h0];have hn0:((n:Int)==0)=false:=beq_false_of_ne (by
   have:=List.length_pos_iff.2 h0
   omega)
  have hnb:n<=1000000:=by omega
  obtain⟨RR,hRR⟩:∃R,gatherV t l vs=R:=⟨_,rfl⟩;rw[hRR];have H20:Hid (RR.2≠0->RR=([],20)):=hide (by rw[<-hRR];exact zFr Hok.out);have HG:=hide hRR;have HN:=hide (And.intro hn hsz);clear hRR h0 hn hsz;obtain⟨TN,hTN⟩:∃S,txt t=S:=⟨_,rfl⟩;have HTN:=hide hTN;rw[hTN];clear hTN;generalize txt ty=TY at *;go_enter Tryz.func43,Tryz.ntmps43;go_wp2
  go_loopg [3,30] n (fun r s3 s30 wx=>∃(i:Nat) (li:List (List UInt8)),i+r=n/\s30=.int .i64 (i:Int)/\Hid (gatherV t li (vs.drop i)=RR/\li.length=l.length+i/\∀v∈li,v.length<=1000000)/\wx.ownsRow base 9 1 s3 li.length (strs li)/\Below base w wx)
  case atStart=>exact⟨0,l,by omega,rfl,hide ⟨by rw[List.drop_zero];exact HG.out,rfl,Hls.out⟩,Hl.out,HB.out⟩
  case round=>
   obtain⟨i,li,hig,rfl,hG,hor,hbr⟩:=hrel;clear HG Hl HB x0 x2 Hb1;obtain⟨A,cc,rfl,_,hA⟩:=zAh hor;cases gk with
   | zero=>
    obtain rfl:i=n:=by omega
    have hiz:¬((i:Int)<(i:Int)):=(by omega);have hGe:=hG.out.1;rw[List.drop_eq_nil_of_le (by rw[<-HN.out.1];exact Nat.le_refl _)] at hGe;unfold gatherV at hGe;subst hGe;have Hor:=hide hor;have Hbr:=hide hbr;obtain⟨k,hk⟩:∃k,li.length=k:=⟨_,rfl⟩;rw[hk] at Hor ⊢;have Hk:=hide hk;clear hor hbr hA hG HV hk;go_wp2;go_ret2;exact⟨_,rfl,by simp only[Hk.out];exact Hor.out,Hbr.out⟩
   | succ r=>
    have hi:i<n:=(by omega);have hiz:(i:Int)<(n:Int):=(by omega);obtain⟨v,hv⟩:∃v,vs[i]?=some v:=⟨_,List.getElem?_eq_getElem (by rw[<-HN.out.1];exact hi)⟩;have hvm:=List.mem_of_getElem? hv;have hdrop:vs.drop i=v::vs.drop (i+1):=by obtain⟨h1,h2⟩:=List.getElem?_eq_some_iff.1 hv;rw[List.drop_eq_getElem_cons h1,h2]
    obtain⟨gb,o,hVe,hgb,hcell⟩:=HV.out.texts (fun h=>by rw[h] at hv;simp at hv);have HVe:=hide hVe;subst hVe;have y0:=(hbr.cell (p:=⟨gb,o+i,none⟩) hgb).trans (hcell i v hv);have hGi:=hG.out.1;rw[hdrop] at hGi;unfold gatherV at hGi;rw[if_neg (by simp[Hok.out v hvm])] at hGi;have hlen:=hG.out.2.1;have hTr:=HT.out wr hbr;have hll:li.length+1<=1000000:=by have:=HN.out.1;have:=HN.out.2;omega
    have HW:=hide (zC4 t v li wr A li.length cc hA (by omega) Ht.out (Hvs.out v hvm) hG.out.2.2 hTr);rw[HTN.out] at HW;obtain⟨VN,hVN⟩:∃S,txt v=S:=⟨_,rfl⟩;rw[hVN] at y0 HW;have hstep:strs (li++[v])=strs li++[.string VN]:=by rw[zAy,<-hVN];rfl
    have Hstep:=hide hstep;have Hlen:=hide hlen;have Hli:Hid (∀u∈li++[v],u.length<=1000000):=hide fun u hu=>by
     rcases List.mem_append.1 hu with hu | hu
     ·exact hG.out.2.2 u hu
     ·simp only[List.mem_singleton] at hu;rw[hu];exact Hvs.out v hvm
    have Hor:=hide hor;have hai:li.length+1<=10000000:=by omega
    have hgw:gb<wr.heap.size:=Nat.lt_of_lt_of_le hgb (Nat.le_trans Hbw.out hbr.size);clear hstep hlen hVN hor hA hTr hdrop hvm hG hcell hv;by_cases hin:WithinV t li v
    ·rw [if_pos hin] at hGi;subst hGi;rw[zAn hin] at HW;clear hin;go_wp2_with (go_at_call 33;fail);refine HW.out.mono ?_;rintro e w2 ⟨rfl,hb2⟩;have HB2:=hide (hbr.trans (hb2.mono (Nat.le_trans Hbw.out hbr.size)));clear hb2 HW y0 hbr;go_wp2;go_ret2;exact zA0 rfl HB2.out
    ·rw [if_neg hin] at hGi;have HGi:=hide hGi;rw[zAq hin] at HW;clear hGi hin;go_wp2_with (go_at_call 33;fail);refine HW.out.mono ?_;rintro e w2 ⟨rfl,hb2⟩;have hor2:=zAd Hor.out hb2;have hbr2:=hbr.trans (hb2.mono (Nat.le_trans Hbw.out hbr.size));have y2:=(hb2.cell (p:=⟨gb,o+i,none⟩) hgw).trans y0;have hone:=litS w2 VN;have hH:=Has.own hone;have hs2:base<=w2.heap.size:=Nat.le_trans Hbw.out hbr2.size;have hor4:=hor2.alloc (.cells #[.string VN] 9);have hbr4:=hbr2.alloc hs2 (.cells #[.string VN] 9);have hs4:=Nat.le_trans Hbw.out hbr4.size;have h1c:∀u∈[Value.string VN],u.oneCell'=true:=by simp[Value.oneCell']
     clear hone HW hbr hb2 y0 Hor hor2 hbr2 hs2;go_wp2_with (at_builtin;go_must (refine appE _ 39 9 _ 1 16 Tryz.underlying39 infoS rfl (by omega) (by omega) rfl (.tmp 40) (.tmp 45) rfl base _ li.length _ rfl hor4 _ _ 1 1 [.string VN] rfl hH h1c hai hs4 ?_));intro v' w5 hor5 hb5 _;have hbr5:=hbr4.trans hb5;rw[<-Hstep.out] at hor5;clear hor4 hbr4 hs4 hH hb5 h1c y2;go_wp2
     go_roundg r
     case measure=>omega
     case rel=>exact⟨i+1,li++[v],by omega,by go_num,hide ⟨HGi.out,by rw[List.length_append];have:=Hlen.out;simp only[List.length_cons,List.length_nil];omega,Hli.out⟩,by rw[List.length_append];exact hor5,hbr5⟩
noncomputable def dropsV (t:List UInt8):List (List UInt8)->List (List UInt8)->List (List UInt8) × Int
 | l,[]=>(l,0)
 | l,v::vs=>if (woV t v l false).2=false then ([],16) else dropsV t (woV t v l false).1 vs
noncomputable def removeV (t:List UInt8) (l vs:List (List UInt8)):List (List UInt8) × Int:=
 if l=[] then ([],16) else if vs=[] then ([],0) else dropsV t l vs
theorem zKe (t v:List UInt8):∀(l:List (List UInt8)) (g:Bool),(woV t v l g).1.length<=l.length/\∀u∈(woV t v l g).1,u∈l
 | [],g=>by unfold woV;simp
 | x::r,g=>by
  unfold woV;split
  ·obtain ⟨h1,h2⟩:=zKe t v r true;exact⟨by simp only[List.length_cons];omega,fun u hu=>List.mem_cons_of_mem _ (h2 u hu)⟩
  ·obtain ⟨h1,h2⟩:=zKe t v r g;refine⟨by simp only[List.length_cons];omega,fun u hu=>?_⟩;rcases List.mem_cons.1 hu with rfl | hu
   ·simp
   ·exact List.mem_cons_of_mem _ (h2 u hu)
theorem zGp {w:World} {base n:Nat} {e:TypeId} {v:Value} {xs:List Value} (h:w.ownsRow base e 1 v n xs):∃A c,v=.slice A n c/\n<=c/\c<=maxLen/\Has w w.heap.size 1 A n xs:=by
 rcases h.2 with⟨rfl,rfl⟩ | ⟨g,cap,cur,rfl,_,_,hnc,hm,_⟩
 ·exact ⟨none,0,rfl,Nat.le_refl _,by simp,Has.own h⟩
 ·exact ⟨_,cap,rfl,hnc,hm,Has.own h⟩
theorem zL6 (ty t:List UInt8) (x:Int) (l vs:List (List UInt8)) (w:World) (base:Nat) (hbw:base<=w.heap.size) (V:Option Addr) (n cv:Nat) (hV:Has w base 1 V n (strs vs)) (lv:Value) (hl:w.ownsRow base 9 1 lv l.length (strs l))
  (hsz:l.length+vs.length<=1000000) (ht:t.length<=1000000) (hvs:∀v∈vs,v.length<=1000000) (hls:∀v∈l,v.length<=1000000) (hT:∀w',Below base w w'->TM w'):
  Calls Tryz.prog 43 #[.agg #[.int .i64 1,.string (txt ty),.slice V n cv],.string (txt t),.int .i64 x,lv] w (RChgPost (removeV t l vs) base w):=by
 have hn:n=vs.length:=hV.strs_n;have hb1:=below1 w (.cells #[.int .i64 1,.string (txt ty),.slice V n cv] 43);have hX:=BoxC.new w 1 (txt ty) V n cv 43;have x0:=hX.c0;have x2:=hX.c2;have HB:=hide (hb1.mono hbw);have Hl:=hide (zAd hl hb1);have HV:=hide hV;have HT:=hide hT;have Hvs:=hide hvs;have Hls:=hide hls;have Ht:=hide ht;have Hbw:=hide hbw;have Hb1:=hide hb1;have hnb:n<=1000000:=by omega
 have hlb:l.length<=1000000:=by omega
 unfold removeV;clear hV hT hvs hls ht hX hbw hb1;obtain⟨A0,c0,rfl,_,_⟩:=zAh hl;clear hl;obtain⟨TN,hTN⟩:∃S,txt t=S:=⟨_,rfl⟩;have HTN:=hide hTN;rw[hTN];clear hTN;generalize txt ty=TY at *;by_cases h0:l=[]
 ·rw [if_pos h0];subst h0;clear Hl HV hsz hn;go_enter Tryz.func43,Tryz.ntmps43;go_wp2;go_ret2;exact zA0 rfl HB.out
 ·rw [if_neg h0];have hm0:((l.length:Int)==0)=false:=beq_false_of_ne (by
   have:=List.length_pos_iff.2 h0
   omega)
  by_cases h1:vs=[]
  ·obtain rfl:n=0:=by rw[hn,h1];rfl
   rw[if_pos h1];obtain⟨m,hm⟩:∃m,l.length=m:=⟨_,rfl⟩;rw[hm] at hm0;(try rw[hm]);clear Hl HV hsz hn h0 h1 hm;go_enter Tryz.func43,Tryz.ntmps43;go_wp2;go_ret2;exact zA0 rfl HB.out
  ·rw [if_neg h1];have hn0:((n:Int)==0)=false:=beq_false_of_ne (by
    have:=List.length_pos_iff.2 h1
    omega)
   obtain⟨RR,hRR⟩:∃R,dropsV t l vs=R:=⟨_,rfl⟩;rw[hRR];have HG:=hide hRR;have HN:=hide hn;obtain⟨m,hm⟩:∃m,l.length=m:=⟨_,rfl⟩;rw[hm] at hm0 Hl;(try rw[hm]);have Hm:=hide hm;clear hRR h0 h1 hn hsz hm;go_enter Tryz.func43,Tryz.ntmps43;go_wp2
   go_loopg [3,59] n (fun r s3 s59 wx=>∃(i:Nat) (li:List (List UInt8)),i+r=n/\s59=.int .i64 (i:Int)/\Hid (dropsV t li (vs.drop i)=RR/\li.length<=1000000/\∀v∈li,v.length<=1000000)/\wx.ownsRow base 9 1 s3 li.length (strs li)/\Below base w wx)
   case atStart=>exact⟨0,l,by omega,rfl,hide ⟨by rw[List.drop_zero];exact HG.out,hlb,Hls.out⟩,by rw[Hm.out];exact Hl.out,HB.out⟩
   case round=>
    obtain⟨i,li,hig,rfl,hG,hor,hbr⟩:=hrel;clear HG Hl HB x0 x2 Hb1 Hm hm0;obtain⟨A,cc,rfl,hlc,hcm,hA⟩:=zGp hor;cases gk with
    | zero=>
     obtain rfl:i=n:=by omega
     have hiz:¬((i:Int)<(i:Int)):=(by omega);have hGe:=hG.out.1;rw[List.drop_eq_nil_of_le (by rw[<-HN.out];exact Nat.le_refl _)] at hGe;unfold dropsV at hGe;subst hGe;have Hor:=hide hor;have Hbr:=hide hbr;obtain⟨k,hk⟩:∃k,li.length=k:=⟨_,rfl⟩;rw[hk] at Hor ⊢;have Hk:=hide hk;clear hor hbr hA hG HV hk hlc hcm;go_wp2;go_ret2;exact⟨_,rfl,by simp only[Hk.out];exact Hor.out,Hbr.out⟩
    | succ r=>
     have hi:i<n:=(by omega);have hiz:(i:Int)<(n:Int):=(by omega);obtain⟨v,hv⟩:∃v,vs[i]?=some v:=⟨_,List.getElem?_eq_getElem (by rw[<-HN.out];exact hi)⟩;have hvm:=List.mem_of_getElem? hv;have hdrop:vs.drop i=v::vs.drop (i+1):=by obtain⟨h1,h2⟩:=List.getElem?_eq_some_iff.1 hv;rw[List.drop_eq_getElem_cons h1,h2]
     obtain⟨gb,o,hVe,hgb,hcell⟩:=HV.out.texts (fun h=>by rw[h] at hv;simp at hv);have HVe:=hide hVe;subst hVe;have y0:=(hbr.cell (p:=⟨gb,o+i,none⟩) hgb).trans (hcell i v hv);have hGi:=hG.out.1;rw[hdrop] at hGi;unfold dropsV at hGi;have HW:=hide (zKp t v li wr A li.length cc hA hG.out.2.1 hlc hcm Ht.out (Hvs.out v hvm) hG.out.2.2 (HT.out wr hbr));obtain⟨hwl,hwm⟩:=zKe t v li false;have Hw:Hid ((woV t v li false).1.length<=1000000/\∀u∈(woV t v li false).1,u.length<=1000000):=hide ⟨Nat.le_trans hwl hG.out.2.1,fun u hu=>hG.out.2.2 u (hwm u hu)⟩;rw[HTN.out] at HW;obtain⟨VN,hVN⟩:∃S,txt v=S:=⟨_,rfl⟩;rw[hVN] at y0 HW;obtain⟨WW,hWW⟩:∃W,woV t v li false=W:=⟨_,rfl⟩;rw[hWW] at HW Hw hGi;obtain⟨lj,gj⟩:=WW;simp only at hGi;have hgw:base<=wr.heap.size:=Nat.le_trans Hbw.out hbr.size;clear hVN hor hA hdrop hvm hG hcell hv hWW hwl hwm hlc hcm;cases gj with
     | false=>
      rw[if_pos rfl] at hGi;subst hGi;go_wp2_with (go_at_call 49;fail);refine HW.out.mono ?_;rintro e w2 hp;obtain⟨u,rfl,_,hb2⟩:=hp.out;have HB2:=hide (hbr.trans (hb2.mono hgw));clear hp hb2 HW y0 hbr;go_wp2;go_ret2;exact zA0 rfl HB2.out
     | true=>
      rw[if_neg (by simp)] at hGi;have HGi:=hide hGi;clear hGi;go_wp2_with (go_at_call 49;fail);refine HW.out.mono ?_;rintro e w2 hp;obtain⟨u,rfl,hou,hb2⟩:=hp.out;have HO:=hide (zBm hou hgw);have HB2:=hide (hbr.trans (hb2.mono hgw));clear hp hb2 HW y0 hbr hou;go_wp2
      go_roundg r
      case measure=>omega
      case rel=>exact⟨i+1,lj,by omega,by go_num,hide ⟨HGi.out,Hw.out⟩,HO.out,HB2.out⟩
theorem zLp (ty t:List UInt8) (x:Int) (l vs:List (List UInt8)) (w:World) (base:Nat) (hbw:base<=w.heap.size) (V:Option Addr) (n cv:Nat) (hV:Has w base 1 V n (strs vs)) (lv:Value) (hl:w.ownsRow base 9 1 lv l.length (strs l)) (hcn:n<=cv) (hcm:cv<=maxLen)
  (hsz:l.length+vs.length<=1000000) (ht:t.length<=1000000) (hvs:∀v∈vs,v.length<=1000000) (hls:∀v∈l,v.length<=1000000) (hT:∀w',Below base w w'->TM w'):
  Calls Tryz.prog 43 #[.agg #[.int .i64 2,.string (txt ty),.slice V n cv],.string (txt t),.int .i64 x,lv] w (RChgPost (replaceV t vs) base w):=by
 have hn:n=vs.length:=hV.strs_n;have hb1:=below1 w (.cells #[.int .i64 2,.string (txt ty),.slice V n cv] 43);have hX:=BoxC.new w 2 (txt ty) V n cv 43;have x0:=hX.c0;have x2:=hX.c2;have HB:=hide (hb1.mono hbw);have Hl:=hide (zAd hl hb1);have HV:=hide hV;have HT:=hide hT;have Hvs:=hide hvs;have Hls:=hide hls;have Ht:=hide ht;have Hbw:=hide hbw;have Hb1:=hide hb1;have hnb:n<=1000000:=by omega
 have hT1:=hT _ (hb1.mono hbw);have HA:=hide (zEg t vs _ V n cv ((hV.below (hb1.mono hbw)).upto (Nat.le_trans hbw hb1.size)) hnb hcn hcm ht hvs hT1);unfold replaceV;have Hn:=hide hn;clear hn hsz hV hT hvs hls ht hX hl hbw hb1 hT1 hcn hcm;obtain⟨TN,hTN⟩:∃S,txt t=S:=⟨_,rfl⟩;rw[hTN] at HA ⊢;clear hTN;generalize txt ty=TY at *;by_cases hal:AloneV t vs
 ·rw [if_pos hal];rw[zAn hal] at HA;clear hal;go_enter Tryz.func43,Tryz.ntmps43;go_wp2_with (go_at_call 74;fail);refine HA.out.mono ?_;rintro e w2 ⟨rfl,hb2⟩;have hbr:=HB.out.trans (hb2.mono (Nat.le_trans Hbw.out Hb1.out.size));have hown:=zDp w2 #[] 9 0 (by unfold maxLen;omega) rfl;have hba:=below1 w2 (.cells #[] 9);have hV1:=((HV.out.below hbr).upto (Nat.le_trans Hbw.out hbr.size)).below hba;have h1s:=zOw vs;have hs8:=hba.size;have hle:Hid (base<=w2.heap.size):=hide (Nat.le_trans Hbw.out hbr.size);have HE:=hide (hbr.trans (hba.mono hle.out));clear hb2 HA hbr hba x0 x2 Hl HV;go_wp2_with (at_builtin;go_must (refine appE _ 39 9 _ 1 16 Tryz.underlying39 infoS rfl (by omega) (by omega) rfl (.tmp 82) (.tmp 83) rfl w2.heap.size _ 0 [] rfl hown _ _ n _ (strs vs) rfl hV1 h1s (by omega) hs8 ?_));intro v' w6 hor6 hb6 _;have Ho:Hid (w6.ownsRow base 9 1 v' vs.length (strs vs)):=hide (by
   rw[<-Hn.out]
   refine zBm (base:=w2.heap.size) ?_ hle.out
   simpa using hor6)
  have HE2:=hide (HE.out.trans (hb6.mono hle.out));clear hor6 hb6 hown hV1 h1s hs8 HE;go_wp2;go_ret2;exact⟨_,rfl,Ho.out,HE2.out⟩
 ·rw [if_neg hal];rw[zAq hal] at HA;clear hal;go_enter Tryz.func43,Tryz.ntmps43;go_wp2_with (go_at_call 74;fail);refine HA.out.mono ?_;rintro e w2 ⟨rfl,hb2⟩;have HE:=hide (HB.out.trans (hb2.mono (Nat.le_trans Hbw.out Hb1.out.size)));clear hb2 HA x0 x2 Hl HV;go_wp2;go_ret2;exact zA0 rfl HE.out
end Go.Proofs.YtadlmhclpaifoaaGreatDoor
