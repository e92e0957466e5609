/- Several texts in one: DForms, DPuts, DDraft, DDrop, DAdd, DSums, DPlus, DPlusP, DInc. By an AI agent. -/
import Derived.Test.YtadlmhclpaifoaaGreatDoorDM
import Derived.Laws.MakeOwn
import Derived.Test.YtadlmhclpaifoaaGreatDoorDP
import Derived.Test.YtadlmhclpaifoaaGreatDoorMB
import Derived.Test.YtadlmhclpaifoaaGreatDoorDX
set_option linter.unusedSimpArgs false
set_option linter.unusedVariables false
set_option maxRecDepth 100000
set_option maxHeartbeats 64000000
namespace Go.Proofs.YtadlmhclpaifoaaGreatDoor
open Go.RowKit Go.Maps
noncomputable def formsP (t:List UInt8) (vs:List (List UInt8)):List P2:=vs.map fun v=>(v,(valV t v).1)
theorem zB3 (t:List UInt8) (vs:List (List UInt8)):(formsP t vs).length=vs.length:=by unfold formsP;simp
theorem zM2 {t:List UInt8} {vs:List (List UInt8)} {i:Nat} {v:List UInt8} (h:vs[i]?=some v):prs (formsP t (vs.take (i+1)))=prs (formsP t (vs.take i))++[.string (txt v),.string (txt (valV t v).1)]:=by
 have htk:vs.take (i+1)=vs.take i++[v]:=by rw[List.take_add_one,h];rfl
 rw[htk];simp[formsP,prs]
theorem infoF:(Tryz.prog.info? 94).map (fun i=>(i.zero,i.size,i.bytes))=some (some (.agg #[.string .empty,.string .empty]),2,32):=by kernel_rfl
theorem makeF (w:World) (n:Nat) (hn:n<=1000000):
  ∃w',(Instr.makeSlice 88 (.int .i64 0) (.int .i64 (n:Int))).run Tryz.prog w=.ok (.slice (some ⟨w.heap.size,0,none⟩) 0 n) w'/\
   w'.ownsRow w.heap.size 94 2 (.slice (some ⟨w.heap.size,0,none⟩) 0 n) 0 (prs [])/\Below w.heap.size w w':=by
 obtain⟨i0,hi,hz0,hz1,hz2⟩:=info_parts infoF;obtain⟨w',h1,h2,h3⟩:=run_make_own (P:=Tryz.prog) w w.heap.size 88 94 i0 (.agg #[.string .empty,.string .empty]) 2 Tryz.underlying88 hi hz0 hz1 .i64 .i64 n (by rw[hz2];omega) (by unfold maxLen;omega) (Nat.le_refl _);exact⟨w',h1,h2,(Below.refl _ _).grown h3 (Nat.le_refl _) (fun g hg=>by cases hg)⟩
theorem zT6 {w:World} {size n base:Nat} {xs:List Value} {e:TypeId} {v:Value} (h:w.ownsRow base e size v n xs):∃A c,v=.slice A n c/\Has w w.heap.size size A n xs/\∀ad,A=some ad->base<=ad.block:=by
 rcases h.2 with⟨rfl,rfl⟩ | ⟨g,cap,cur,rfl,hg,_,hnc,_⟩
 ·exact ⟨none,0,rfl,Has.own h,fun ad q=>by cases q⟩
 ·exact ⟨_,cap,rfl,Has.own h,fun ad q=>by injection q with q;subst q;exact hg⟩
structure FormsPost (t:List UInt8) (vs:List (List UInt8)) (w:World) (e:Ending) (w':World):Prop where
 yes:(∀v∈vs,(valV t v).2=0)->∃F c,e=.returned (.tuple #[.slice F vs.length c,.bool true])/\Has w' w'.heap.size 2 F vs.length (prs (formsP t vs))/\∀ad,F=some ad->w.heap.size<=ad.block
 no:¬(∀v∈vs,(valV t v).2=0)->e=.returned (.tuple #[.slice none 0 0,.bool false])
 below:Below w.heap.size w w'
def FormsEnd (w:World) (t:List UInt8) (vs:List (List UInt8)) (F:Option Addr) (m cc:Nat) (b:Bool) (w':World):Prop:=(b=true/\m=vs.length/\(∀v∈vs,(valV t v).2=0)/\Has w' w'.heap.size 2 F m (prs (formsP t vs))/\∀ad,F=some ad->w.heap.size<=ad.block)\/(b=false/\F=none/\m=0/\cc=0/\¬(∀v∈vs,(valV t v).2=0))
structure FormsQ (t:List UInt8) (vs:List (List UInt8)) (w:World) (e:Ending) (w':World):Prop where
 out:∃F m cc b,e=.returned (.tuple #[.slice F m cc,.bool b])/\Below w.heap.size w w'/\FormsEnd w t vs F m cc b w'
theorem zCd (t:List UInt8) (vs:List (List UInt8)) (w:World) (V:Option Addr) (n c:Nat) (hV:Has w w.heap.size 1 V n (strs vs)) (hT:TM w) (ht:t.length<=1000000) (hn:n<=1000000) (hvs:∀v∈vs,v.length<=1000000):
  Calls Tryz.prog 56 #[.string (txt t),.slice V n c] w (FormsPost t vs w):=by
 suffices H:Calls Tryz.prog 56 #[.string (txt t),.slice V n c] w (FormsQ t vs w) from
  H.mono fun e w' ⟨⟨F,m,cc,b,h1,h2,h3⟩⟩=>by
   rcases h3 with⟨rfl,rfl,h4,h5⟩ | ⟨rfl,rfl,rfl,rfl,h4⟩
   ·exact ⟨fun _=>⟨F,cc,h1,h5⟩,fun q=>absurd h4 q,h2⟩
   ·exact ⟨fun q=>absurd q h4,fun _=>h1,h2⟩
 have hnl:=hV.strs_n;have hVal:=fun (v:List UInt8) (hv:v∈vs) (w:World) (hT:TM w)=>zCy t v ht (hvs v hv) w hT
 obtain⟨wm,hmake,hom,hbm⟩:=makeF w n hn;have HV:=hide hV;have HVal:=hide hVal;have HN:=hide hnl;have HT:=hide hT;have Hn:=hide hn;have hsz:w.heap.size<=wm.heap.size:=hbm.size;clear hV hVal hnl hT ht hvs hn;obtain⟨TN,hTN⟩:∃TN,txt t=TN:=⟨_,rfl⟩;have HTN:=hide hTN;rw[hTN];clear hTN;go_enter Tryz.func56,Tryz.ntmps56;go_wp2
 go_loopg [6,16] n (fun k s6 s16 wx=>∃i:Nat,i+k=n/\s16=.int .i64 (i:Int)/\wx.ownsRow w.heap.size 94 2 s6 i (prs (formsP t (vs.take i)))/\Hid (∀v∈vs.take i,(valV t v).2=0)/\Below w.heap.size w wx)
 case atStart=>exact⟨0,by omega,rfl,by simpa[formsP] using hom,hide (by simp),hbm⟩
 case round=>
  obtain⟨i,hig,rfl,hor,hok,hbr⟩:=hrel;clear hom hbm hmake hsz;cases gk with
  | zero=>
   obtain rfl:i=n:=by omega
   have hiz:¬((i:Int)<(i:Int)):=by omega
   have htk:vs.take i=vs:=List.take_of_length_le (by rw[HN.out];exact Nat.le_refl _);rw[htk] at hor hok;have Hor:=hide hor;have Hbr:=hide hbr;clear hor hbr HV HVal HT htk;obtain⟨A,cc,rfl,hA⟩:=zT6 Hor.out;have HA:=hide hA;clear hA;go_wp2;go_ret2;exact⟨⟨A,i,cc,true,rfl,Hbr.out,.inl ⟨rfl,HN.out,hok.out,HA.out.1,HA.out.2⟩⟩⟩
  | succ k=>
   have hi:i<n:=by omega
   have hiz:(i:Int)<(n:Int):=by omega
   obtain⟨v,hv⟩:∃v,vs[i]?=some v:=⟨_,List.getElem?_eq_getElem (by rw[<-HN.out];exact hi)⟩;have hvm:=List.mem_of_getElem? hv;obtain⟨gb,o,hVe,hgb,hcell⟩:=HV.out.lies (by unfold strs;rw[List.length_map,<-HN.out];omega);have hcv:=hcell i (.string (txt v)) (by unfold strs;rw[List.getElem?_map,hv];rfl);have hcv:=((hbr.cell (p:=⟨gb,o+i,none⟩) hgb).trans hcv);have HVc:=hide (HVal.out v hvm _ (HT.out.below hbr));have hVe':=hVe;subst hVe';have hnx:=zM2 (t:=t) hv;have hall:(valV t v).2=0->∀x∈vs.take (i+1),(valV t x).2=0:=fun h0 x hx=>by
    rw[List.take_add_one,hv] at hx;rcases List.mem_append.1 hx with hx | hx
    ·exact hok.out x hx
    ·simp only[Option.toList,List.mem_singleton] at hx;rw[hx];exact h0
   have hnot:(valV t v).2≠0->¬(∀x∈vs,(valV t x).2=0):=fun h0 q=>h0 (q v hvm)
   generalize hVV:txt v=VV at *;generalize hNV:txt (valV t v).1=NV at *;generalize (valV t v).2=ve at *;rw[HTN.out] at HVc;have Hall:=hide hall;have Hnot:=hide hnot;have Hnx:=hide hnx;have Hor:=hide hor;clear hall hnot hnx hVV hNV hv hvm hcell hor;go_wp2_with (go_at_call 51;fail);refine HVc.out.mono ?_;rintro e w3 ⟨rfl,hb3⟩;have hor3:=zAd Hor.out hb3;have hbr3:=hbr.trans (hb3.mono hbr.size);clear hb3 HVc Hor;by_cases hve:ve=0
   ·subst hve;have hone:=litP w3 VV NV 94;have hH:=Has.own hone;have hor4:=hor3.alloc (.cells #[.string VV,.string NV] 94);have hbr4:=hbr3.alloc hbr3.size (.cells #[.string VV,.string NV] 94);have hs4:=hbr4.size;have h1c:∀u∈[Value.string VV,Value.string NV],u.oneCell'=true:=by simp[Value.oneCell']
    have hi1:i+1<=10000000:=(by have:=Hn.out;omega);clear hone hor3 hbr3;go_wp2_with (at_builtin;go_must (refine appE _ 88 94 _ 2 32 Tryz.underlying88 infoF rfl (by omega) (by omega) rfl (.tmp 28) (.tmp 32) rfl w.heap.size _ i _ rfl hor4 _ _ 1 1 [.string VV,.string NV] rfl hH h1c hi1 hs4 ?_));intro v' w5 hor5 hb5 _;have hbr5:=hbr4.trans hb5;rw[<-Hnx.out] at hor5;clear hor4 hbr4 hs4 hH hb5 h1c;go_wp2
    go_roundg k
    case measure=>omega
    case rel=>exact⟨i+1,by omega,by go_num,hor5,hide (Hall.out (by simp)),hbr5⟩
   ·have hvz:(ve !=0)=true:=by simpa using hve
    have Hbr:=hide hbr3;have Hno:=hide (Hnot.out hve);clear hor3 hbr3 hbr hok Hall Hnot Hnx HV HVal;go_wp2;go_ret2;exact⟨⟨none,0,0,false,rfl,Hbr.out,.inr ⟨rfl,rfl,rfl,rfl,Hno.out⟩⟩⟩
theorem KeptC.reads {d g o:Nat} {l:List P2} {w w':World} (h:KeptC d w w') (hg:g≠d) (hr:Reads w g o l):Reads w' g o l:=
 ⟨fun i a ha=>h.cell hg (hr.fst i a ha),fun i a ha=>h.cell hg (hr.snd i a ha)⟩
structure FormsR (w:World) (d:Nat) (F:Option Addr) (n:Nat) (l:List P2):Prop where
 len:n=l.length
 lie:l≠[]->∃g o,F=some ⟨g,o,none⟩/\g≠d/\Reads w g o l
theorem FormsR.kept {w w':World} {d n:Nat} {F:Option Addr} {l:List P2} (h:FormsR w d F n l) (hk:KeptC d w w'):FormsR w' d F n l:=
 ⟨h.len,fun q=>by obtain⟨g,o,h1,h2,h3⟩:=h.lie q;exact⟨g,o,h1,h2,hk.reads h2 h3⟩⟩
theorem FormsR.of {w:World} {d n:Nat} {F:Option Addr} {l:List P2} (h:Has w w.heap.size 2 F n (prs l)) (hd:∀ad,F=some ad->d<ad.block):FormsR w d F n l:=
 ⟨h.pairs_n,fun q=>by
  obtain⟨g,o,h1,_,h3⟩:=h.reads q
  have:=hd _ h1
  exact⟨g,o,h1,fun e=>by simp only at this;omega,h3⟩⟩
structure PutsPost (w:World) (B d k:Nat) (G:List EA) (g:Int) (e:Ending) (w':World):Prop where
 code:e=.returned (.bool (decide (g=0)))
 below:Below B w w'
 kept:KeptC d w w'
 draft:g=0->Draft w' B d k G
theorem zJj {B d nx:Nat} {L:List EA} (w:World) (h:Draft w B d nx L) (t:List UInt8) (vs:List (List UInt8)) (F:Option Addr) (n c:Nat) (hF:FormsR w d F n (formsP t vs)) (hok:∀v∈vs,(valV t v).2=0)
  (ht:t.length<=1000000) (hnx:nx+vs.length<=1000000000):
  Calls Tryz.prog 57 #[.pointer (some ⟨d,0,none⟩),.string (txt t),.slice F n c] w (PutsPost w B d (nx+vs.length) (gatherL L t vs).1 (gatherL L t vs).2):=by
 have hn:n=vs.length:=by rw[hF.len,zB3]
 obtain⟨LG,hLG⟩:∃LG,(gatherL L t vs).1=LG:=⟨_,rfl⟩;obtain⟨gc,hgg⟩:∃g,(gatherL L t vs).2=g:=⟨_,rfl⟩;have HG:Hid (gatherL L t vs=(LG,gc)):=hide (Prod.ext hLG hgg);rw[hLG,hgg];have hnb:n<=1000000000:=by omega
 obtain⟨K,hK⟩:∃K,nx+vs.length=K:=⟨_,rfl⟩;have HK:=hide hK;rw[hK];clear hK;have HF:=hide hF;have HD:=hide h;have HN:=hide hn;have HOK:=hide hok;have Ht:=hide ht;have HNX:=hide hnx;clear hLG hgg hF h hn hok ht hnx;obtain⟨TN,hTN⟩:∃TN,txt t=TN:=⟨_,rfl⟩;have HTN:=hide hTN;rw[hTN];clear hTN;go_enter Tryz.func57,Tryz.ntmps57;go_wp2
 go_loopg [11] n (fun r s11 wx=>∃(i:Nat) (Li:List EA),i+r=n/\s11=.int .i64 (i:Int)/\Hid (gatherL Li t (vs.drop i)=(LG,gc))/\Hid (Draft wx B d (nx+i) Li)/\Hid (Below B w wx/\KeptC d w wx))
 case atStart=>exact⟨0,L,by omega,rfl,hide (by rw[List.drop_zero];exact HG.out),hide (by rw[Nat.add_zero];exact HD.out),hide ⟨Below.refl _ _,.refl _ _⟩⟩
 case round=>
  obtain⟨i,Li,hig,rfl,hG,hDi,hBi⟩:=hrel;clear HD HG;cases gk with
  | zero=>
   obtain rfl:i=n:=by omega
   have hiz:¬((i:Int)<(i:Int)):=by omega
   have hGe:=hG.out;rw[List.drop_eq_nil_of_le (by rw[<-HN.out];exact Nat.le_refl _)] at hGe;unfold gatherL at hGe;have HGe:=hide hGe;clear hGe hG HF HOK;go_wp2;go_ret;obtain⟨e1,e2⟩:=Prod.mk.inj HGe.out;exact⟨by rw[<-e2];rfl,hBi.out.1,hBi.out.2,fun _=>by rw[<-HK.out,<-HN.out,<-e1];exact hDi.out⟩
  | succ r=>
   have hi:i<n:=by omega
   have hiz:(i:Int)<(n:Int):=by omega
   obtain⟨v,hv⟩:∃v,vs[i]?=some v:=⟨_,List.getElem?_eq_getElem (by rw[<-HN.out];exact hi)⟩;have hvm:=List.mem_of_getElem? hv;have hdrop:vs.drop i=v::vs.drop (i+1):=by obtain⟨h1,h2⟩:=List.getElem?_eq_some_iff.1 hv;rw[List.drop_eq_getElem_cons h1,h2]
   have hGi:=hG.out;rw[hdrop] at hGi;unfold gatherL at hGi;have hvo:=HOK.out v hvm;rw[if_neg (by simp[hvo])] at hGi;obtain⟨nv,hnv⟩:∃nv,(valV t v).1=nv:=⟨_,rfl⟩;have hvv:valV t v=(nv,0):=Prod.ext hnv hvo;have hnl:nv.length<=1000000:=by have:=zGl t v;rw[hnv] at this;omega
   have hfa:(formsP t vs)[i]?=some (v,nv):=by unfold formsP;rw[List.getElem?_map,hv,<-hnv];rfl
   obtain⟨gb,o,hFe,hgd,hrd⟩:=(HF.out.kept hBi.out.2).lie (fun q=>by rw[q] at hfa;simp at hfa);have e0:=hrd.fst i _ hfa;have e1:=hrd.snd i _ hfa;simp only at e0 e1;have HFe:=hide hFe;subst hFe;have hba:=below1 wr (.cells #[.string (txt v),.string (txt nv)] 94);have hXa:=BoxF.new wr (txt v) (txt nv) 94;have u0:=hXa.c0;have u1:=hXa.c1;have HP:=hide (zO3 _ (hDi.out.grow hba) t nv v hvv Ht.out hnl (by have:=HNX.out;have:=HN.out;omega));have HK1:=hide (And.intro (hBi.out.1.trans (hba.mono (by obtain⟨bt,T,hM,_⟩:=hDi.out.out;exact Nat.le_trans hM.newd (Nat.le_of_lt hM.ltd)))) (hBi.out.2.trans (KeptC.below (d:=d) hba)));obtain⟨NV,hNV⟩:∃NV,txt nv=NV:=⟨_,rfl⟩;obtain⟨VV,hVV⟩:∃VV,txt v=VV:=⟨_,rfl⟩;rw[HTN.out,hVV,hNV] at HP;rw[hVV,hNV] at u0 u1 HK1;rw[hVV] at e0;rw[hNV] at e1;clear hNV hVV hba hXa hfa hrd hvv hvo hnv hnl hv hvm hdrop hG HF HOK;by_cases hin:WithinV t (pickE Li t) v
   ·rw [if_pos hin] at hGi;have HGi:=hide hGi;clear hGi hBi hDi;go_wp2_with (go_at_call 58;fail);refine HP.out.mono ?_;rintro e w4 hp;obtain⟨rfl,_⟩:=hp.no hin;have HB4:=hide (And.intro (HK1.out.1.trans hp.below) (HK1.out.2.trans hp.kept));clear hp HP HK1 e0 e1 u0 u1;go_wp2;go_ret;obtain⟨_,e2⟩:=Prod.mk.inj HGi.out;exact⟨by rw[<-e2];rfl,HB4.out.1,HB4.out.2,fun q=>absurd (e2.trans q) (by decide)⟩
   ·rw [if_neg hin] at hGi;have HGi:=hide hGi;clear hGi hBi hDi;go_wp2_with (go_at_call 58;fail);refine HP.out.mono ?_;rintro e w4 hp;obtain⟨rfl,hd4⟩:=hp.yes hin;have HB4:=hide (And.intro (HK1.out.1.trans hp.below) (HK1.out.2.trans hp.kept));have HD4:=hide hd4;clear hp HP HK1 hd4 e0 e1 u0 u1;go_wp2
    go_roundg r
    case measure=>omega
    case rel=>exact⟨i+1,_,by omega,by go_num,HGi,hide (by have:=HD4.out;rwa [Nat.add_assoc] at this),HB4⟩
theorem zFj {t:List UInt8}:∀{vs:List (List UInt8)} {L:List EA},(gatherL L t vs).2=0->∀v∈vs,(valV t v).2=0
 | [],L,h,v,hv=>by simp at hv
 | u::vs,L,h,v,hv=>by
  unfold gatherL at h;split at h
  ·simp at h
  ·rename_i h1;split at h
   ·simp at h
   ·rcases List.mem_cons.1 hv with rfl | hv
    ·simpa using h1
    ·exact zFj h v hv
theorem zNx {L:List EA} {a:EA} (h:(gather1 L a).2=0):(typ a.1).2≠0/\a.2≠[]/\gather1 L a=gatherL L (typ a.1).1 a.2/\∀v∈a.2,(valV (typ a.1).1 v).2=0:=by
 unfold gather1 at h ⊢;split at h
 ·simp at h
 ·rename_i h1;split at h
  ·simp at h
  ·rename_i h2;rw[if_neg h1,if_neg h2];exact⟨h1,h2,rfl,zFj h⟩
theorem zNn {L:List EA} {a:EA} {r G:List EA} (h:gatherA L (a::r)=(G,0)):(gather1 L a).2=0/\gatherA (gather1 L a).1 r=(G,0):=by
 unfold gatherA at h;by_cases h0:(gather1 L a).2=0
 ·rw [if_neg (by simp[h0])] at h;exact⟨h0,h⟩
 ·rw [if_pos h0] at h;exact absurd (Prod.mk.inj h).2 h0
structure DraftPost (w:World) (k:Nat) (G:List EA) (e:Ending) (w':World):Prop where
 out:∃d,e=.returned (.pointer (some ⟨d,0,none⟩))/\Draft w' w.heap.size d k G/\Below w.heap.size w w'
theorem zMw (L G:List EA) (w:World) (A:Option Addr) (n c:Nat) (xs:List Value) (hA:Has w w.heap.size 2 A n xs) (hL:EAs w w.heap.size xs L) (hT:TM w) (hn:n<=1000000)
  (hts:∀a∈L,a.1.length<=1048576) (hvs:∀a∈L,∀v∈a.2,v.length<=1000000) (hcnt:cntE L<=1000000) (hG:gatherA [] L=(G,0)):
  Calls Tryz.prog 27 #[.slice A n c] w (DraftPost w (cntE L) G):=by
 suffices H:Calls Tryz.prog 27 #[.slice A n c] w fun e w'=>∃d,e=.returned (.pointer (some ⟨d,0,none⟩))/\Draft w' w.heap.size d (cntE L) G/\Below w.heap.size w w' from H.mono fun e w' h=>⟨h⟩
 have hnl:=hA.eas_n hL;have hmm:=@run_makeMap Tryz.prog;have hD:=zL1 w 87;have hB:Below w.heap.size w ((w.alloc (.map #[] 0)).alloc (.cells #[.map (some w.heap.size),.int .i64 0] 87)):=((Below.refl _ w).alloc (Nat.le_refl _) _).alloc (by simp) _;have HD:=hide hD;have HB:=hide hB;have HA:=hide hA;have HL:=hide hL;have HT:=hide hT;have Hn:=hide hnl;have Hts:=hide hts;have Hvs:=hide hvs;have Hcnt:=hide hcnt;have HG:=hide hG;clear hD hB hA hL hT hnl hts hvs hcnt hG;obtain⟨K,hK⟩:∃K,cntE L=K:=⟨_,rfl⟩;have HK:=hide hK;rw[hK];clear hK;go_enter Tryz.func27,Tryz.ntmps27;go_wp2;obtain⟨d,hd⟩:∃d,w.heap.size+1=d:=⟨_,rfl⟩;rw[hd] at HD;(try rw[hd]);clear hd
 go_loopg [15] n (fun r s15 wx=>∃(i:Nat) (Li:List EA),i+r=n/\s15=.int .i64 (i:Int)/\Hid (gatherA Li (L.drop i)=(G,0))/\Hid (Draft wx w.heap.size d (cntE (L.take i)) Li)/\Hid (Below w.heap.size w wx))
 case atStart=>exact⟨0,[],by omega,rfl,hide (by rw[List.drop_zero];exact HG.out),hide (by rw[List.take_zero];exact HD.out),HB⟩
 case round=>
  obtain⟨i,Li,hig,rfl,hG,hDi,hBi⟩:=hrel;clear HG HD HB hmm;cases gk with
  | zero=>
   obtain rfl:i=n:=by omega
   have hiz:¬((i:Int)<(i:Int)):=by omega
   have hGe:=hG.out;rw[List.drop_eq_nil_of_le (by rw[<-Hn.out];exact Nat.le_refl _)] at hGe;unfold gatherA at hGe;obtain⟨e1,_⟩:=Prod.mk.inj hGe;have htk:L.take i=L:=List.take_of_length_le (by rw[Hn.out];exact Nat.le_refl _);have HDe:Hid (Draft wr w.heap.size d K G):=hide (by rw[<-HK.out,<-e1,<-htk];rw[htk];have:=hDi.out;rwa [htk] at this);clear hGe e1 hG hDi HA HL htk;go_wp2;go_ret;exact⟨d,rfl,HDe.out,hBi.out⟩
  | succ r=>
   have hi:i<n:=by omega
   have hiz:(i:Int)<(n:Int):=by omega
   obtain⟨a,ha⟩:∃a,L[i]?=some a:=⟨_,List.getElem?_eq_getElem (by rw[<-Hn.out];exact hi)⟩;have ham:=List.mem_of_getElem? ha;have hdrop:L.drop i=a::L.drop (i+1):=by obtain⟨h1,h2⟩:=List.getElem?_eq_some_iff.1 ha;rw[List.drop_eq_getElem_cons h1,h2]
   have hGi:=hG.out;rw[hdrop] at hGi;obtain⟨hg0,hGi⟩:=zNn hGi;obtain⟨hty,hne,hge,hval⟩:=zNx hg0;rw[hge] at hg0 hGi;obtain⟨g,o,hAe,hga,hat⟩:=HA.out.ea HL.out (fun h=>by rw[h] at ha;simp at ha);obtain⟨V,cv,hat⟩:=hat i a ha;have hat2:=hat.below hga hBi.out;have e0:=hat2.e0;have e1:=hat2.e1;have HAe:=hide hAe;subst hAe;have hcn:=zPk ha;have hcle:=zUi L (i+1);obtain⟨k,hk⟩:∃k,a.2.length=k:=⟨_,rfl⟩;rw[hk] at e1 hcn;have hba:=below1 wr (.cells #[.string (txt a.1),.slice V k cv] 41);have hXa:=BoxE.new wr (txt a.1) V k cv 41;have u0:=hXa.c0;have hVh:=hat.has;rw[hk] at hVh;have hkb:k<=1000000:=by have:=Hcnt.out;omega
   have hTy:=fun w hT=>zAx (txt a.1) w hT
   simp only[zAc] at hTy;obtain⟨t,ht⟩:∃t,(typ a.1).1=t:=⟨_,rfl⟩;have htl:t.length<=1000000:=by rw[<-ht];have:=zBv a.1;omega
   rw[ht] at hTy hge hg0 hGi hval;have HB1:=hTz hBi hba;have HTy:=hide (hTy _ (HT.out.below HB1.out).tt.types);have HX:=hide hXa;have HD1:=hide (hDi.out.grow hba);have Hv:=hide hVh;have HS:=hide (And.intro hg0 (And.intro hGi (And.intro hval (And.intro (Hvs.out a ham) (And.intro htl hcn)))));have Hcl:Hid (cntE (L.take i)+k<=1000000):=hide (by have:=Hcnt.out;omega);have Hk:=hide hk;clear hTy hVh hba hXa hat hat2 ham hk hG hDi hBi hdrop hg0 hGi hty hne hge hval hcn hcle ht htl ha;obtain⟨TA,hTA⟩:∃TA,txt a.1=TA:=⟨_,rfl⟩;obtain⟨TN,hTN⟩:∃TN,txt t=TN:=⟨_,rfl⟩;have HTN:=hide hTN;rw[hTA] at e0 u0 HB1 HX HD1;rw[hTA,hTN] at HTy;clear hTA hTN;generalize (typ a.1).2=ty at *;go_wp2_with (go_at_call 55;fail);refine HTy.out.mono ?_;rintro e w2 ⟨rfl,hb2⟩;have y1:=(HX.out.grow hb2).c1;have HB2:=hTz HB1 hb2;have HD2:=hide (HD1.out.grow hb2);have HF:=hide (zCd t a.2 w2 V k cv ((Hv.out.below HB2.out).upto HB2.out.size) (HT.out.below HB2.out) HS.out.2.2.2.2.1 hkb HS.out.2.2.2.1);rw[HTN.out] at HF;clear hb2 HB1 HD1 HTy HX e0 e1 u0;go_wp2_with (go_at_call 56;fail);refine HF.out.mono ?_;rintro e w3 hp;obtain⟨F,cF,rfl,hFh,hFn⟩:=hp.yes HS.out.2.2.1;rw[Hk.out] at hFh ⊢;have HB3:=hide (HB2.out.trans (hp.below.mono HB2.out.size));have HD3:=hide (HD2.out.grow hp.below);have hFR:FormsR w3 d F k (formsP t a.2):=.of hFh fun ad q=>by
    obtain⟨bt,T,hM,_⟩:=HD2.out.out;have h1:=hM.ltd;have h2:=hFn ad q;omega
   have HP:=hide (zJj w3 HD3.out t a.2 F k cF hFR HS.out.2.2.1 HS.out.2.2.2.2.1 (by have:=Hcl.out;have:=Hk.out;omega));rw[HTN.out] at HP;have hg0:=HS.out.1;rw[hg0] at HP;clear hp hFh hFn hFR HF HB2 HD2 hg0 y1;go_wp2_with (go_at_call 57;fail);refine HP.out.mono ?_;rintro e w4 hp;obtain rfl:=hp.code;have HD4:=hide (hp.draft rfl);have HB4:=hide (HB3.out.trans hp.below);clear hp HP HB3 HD3;go_wp2
   go_roundg r
   case measure=>omega
   case rel=>exact⟨i+1,_,by omega,by go_num,hide HS.out.2.1,hide (by have h1:=HD4.out;rw[Hk.out] at h1;rw[HS.out.2.2.2.2.2];exact h1),HB4⟩
def lessH (n:List UInt8) (l:List Hd):List Hd:=l.filter fun h=>decide (h.1≠n)
theorem less_map (n:List UInt8) (l:List Hd):(l.map heldP).filter (fun p=>decide (p.1≠n))=(lessH n l).map heldP:=by
 unfold lessH;rw[List.filter_map];rfl
structure DropOk (w:World) (B d bt nx:Nat) (T:List Ty) (u n:List UInt8) (w':World):Prop where
 mem:DraftM w' B d bt nx (turnT T u (lessH n))
 below:Below B w w'
 kept:KeptC d w w'
theorem zF3 (a b:TypeId) (ty:TypeId) (w:World) (v:Array Value):(Builtin.delete_ #[a,b] ty v).run Tryz.prog w=(Builtin.delete_ #[a,b] 9 v).run Tryz.prog w:=rfl
theorem ddrop_no {B d bt nx:Nat} {T:List Ty} (w:World) (h:DraftM w B d bt nx T) (u n:List UInt8) (hu:u.length<=1000000) (hn:n.length<=1000000) (hin:findH (heldT T u) n=none):
  Calls Tryz.prog 77 #[.pointer (some ⟨d,0,none⟩),.string (txt u),.string (txt n)] w fun e w'=>e=.returned (.bool false)/\Below w.heap.size w w':=by
 have hc:=zD6 (B:=B) (d:=d) (bt:=bt) (nx:=nx) (T:=T) w h u n hu hn;rw[hin] at hc;have HC:=hide hc;clear hc h hin hu hn;generalize txt u=U at *;generalize txt n=NN at *;go_enter Tryz.func77,Tryz.ntmps77;go_wp2_with (go_at_call 61;fail);refine HC.out.mono ?_;rintro e w2 ⟨rfl,hb2⟩;have HB2:=hide hb2;clear hb2 HC;go_wp2;go_ret;exact⟨rfl,HB2.out⟩
theorem zRt {B d bt nx:Nat} {T:List Ty} (w:World) (h:DraftM w B d bt nx T) (u n:List UInt8) (hu:u.length<=1000000) (hn:n.length<=1000000) (hin:(findH (heldT T u) n).isSome=true):
  Calls Tryz.prog 77 #[.pointer (some ⟨d,0,none⟩),.string (txt u),.string (txt n)] w fun e w'=>e=.returned (.bool true)/\DropOk w B d bt nx T u n w':=by
 have hBw:B<=w.heap.size:=Nat.le_trans h.newd (Nat.le_of_lt h.ltd);have hc:=zD6 (B:=B) (d:=d) (bt:=bt) (nx:=nx) (T:=T) w h u n hu hn;rw[hin] at hc;obtain⟨y,hy⟩:∃y,findT T u=some y:=by
  cases hf:findT T u with
  | some y=>exact⟨y,rfl⟩
  | none=>unfold heldT at hin;rw[hf] at hin;simp[findH] at hin
 have HC:=hide hc;have HM:=hide h;have HBw:=hide hBw;have Hu:=hide hu;have Hn:=hide hn;have Hy:=hide hy;clear hc h hin hu hn hBw hy;obtain⟨U,hU⟩:∃U,txt u=U:=⟨_,rfl⟩;obtain⟨NN,hN⟩:∃NN,txt n=NN:=⟨_,rfl⟩;have HU:=hide hU;have HN:=hide hN;rw[hU,hN] at HC;rw[hU,hN];clear hU hN;go_enter Tryz.func77,Tryz.ntmps77;go_wp2_with (go_at_call 61;fail);refine HC.out.mono ?_;rintro e w2 ⟨rfl,hb2⟩;have HM2:=hide (HM.out.grow hb2);have HB2:=hide hb2;clear hb2 HC HM;have p0:=HM2.out.d0;have p2:(Instr.lookup 85 (.map (some bt)) (.string U) false).run Tryz.prog w2=.ok (.map (some y.2.1)) w2:=by have:=HM2.out.at Hu.out;rw[HU.out] at this;rw[this];unfold mapAt;rw[Hy.out];rfl
 obtain⟨w3,hrun,hL,hturn⟩:=(HM2.out.each y (zAk Hy.out).1).drop (s:=n) Tryz.underlying9 Tryz.underlying95 (long_max Hn.out) 9;rw[HN.out] at hrun;have hrunA:=fun ty=>(zF3 95 9 ty w2 #[.map (some y.2.1),.string NN]).trans hrun
 rw[less_map] at hL;have HD3:Hid (DropOk w B d bt nx T u n w3):=hide ⟨HM2.out.turn Hy.out hL hturn,(HB2.out.mono HBw.out).trans (zA1 hturn (HM2.out.newe y (zAk Hy.out).1) (HM2.out.each y (zAk Hy.out).1).lt),
  (KeptC.below HB2.out).trans (KeptC.grown hturn.grown (HM2.out.each y (zAk Hy.out).1))⟩
 clear hL hturn hrun HM2 HB2;generalize y.2.1=b at *;go_wp2;go_ret;exact⟨rfl,HD3.out⟩
def lessT (u:List UInt8) (T:List Ty):List Ty:=T.filter fun t=>decide (t.1≠u)
theorem zSd (u:List UInt8) (T:List Ty):(T.map tyP).filter (fun p=>decide (p.1≠u))=(lessT u T).map tyP:=by
 unfold lessT;rw[List.filter_map];rfl
theorem zUn (T:List Ty) (u v:List UInt8):findT (lessT u T) v=if v=u then none else findT T v:=by
 induction T with
 | nil=>simp[lessT,findT]
 | cons x T ih=>
  unfold lessT at ih ⊢;by_cases h:x.1=u
  ·rw [List.filter_cons_of_neg (by simpa using h),ih];by_cases hv:v=u
   ·simp [hv]
   ·simp only[hv,if_false,findT];rw[if_neg fun q=>hv (q.symm.trans h)]
  ·rw [List.filter_cons_of_pos (by simpa using h)];simp only[findT];by_cases hx:x.1=v
   ·rw [if_pos hx,if_pos hx,if_neg fun q=>h (hx.trans q)]
   ·rw [if_neg hx,if_neg hx];exact ih
theorem zRs (T:List Ty) (u v:List UInt8):heldT (lessT u T) v=if v=u then [] else heldT T v:=by
 unfold heldT;rw[zUn];by_cases h:v=u
 ·simp [h]
 ·simp [h]
theorem DraftM.cut {w w':World} {B d bt nx:Nat} {T:List Ty} {u:List UInt8} (h:DraftM w B d bt nx T) (hL:MapL w' Tryz.prog 9 bt ((lessT u T).map tyP)) (ht:w.mapTurned w' bt):DraftM w' B d bt nx (lessT u T):=by
 have hg:=ht.grown;have hblk:∀k,k<w.heap.size->k≠bt->w'.heap[k]?=w.heap[k]?:=fun k hk q=>hg.block k hk (by intro e;injection e with e;exact q e)
 have hdne:=zAu h.types h.d0;have hd:=h.ltd;obtain⟨a1,a2⟩:=List.nodup_cons.1 h.apart;have hsub:∀t∈lessT u T,t∈T:=fun t ht=>(List.mem_filter.1 ht).1
 refine⟨(World.cell?_of_block (a:=⟨d,0,none⟩) (hblk d hd hdne)).trans h.d0,(World.cell?_of_block (a:=⟨d,1,none⟩) (hblk d hd hdne)).trans h.d1,fun i=>(ht.frozen _).trans (h.frz i),hL,fun t htm=>?_,?_,h.newd,h.newt,fun t htm=>h.newe t (hsub t htm)⟩
 ·have hm:=hsub t htm;exact (h.each t hm).of_block (hblk _ (h.each t hm).lt (fun q=>a1 (q ▸ List.mem_map_of_mem (f:=fun t:Ty=>t.2.1) hm)))
 ·refine List.nodup_cons.2 ⟨fun q=>?_,?_⟩
  ·obtain ⟨t,htm,e⟩:=List.mem_map.1 q;exact a1 (e ▸ List.mem_map_of_mem (f:=fun t:Ty=>t.2.1) (hsub t htm))
  ·exact List.Pairwise.sublist (List.Sublist.map _ (List.filter_sublist)) a2
structure CutOk (w:World) (B d bt nx:Nat) (T:List Ty) (u:List UInt8) (w':World):Prop where
 mem:DraftM w' B d bt nx (lessT u T)
 below:Below B w w'
 kept:KeptC d w w'
theorem dcut_any {B d bt nx:Nat} {T:List Ty} (w:World) (h:DraftM w B d bt nx T) (u:List UInt8) (hu:u.length<=1000000):
  Calls Tryz.prog 95 #[.pointer (some ⟨d,0,none⟩),.string (txt u)] w fun e w'=>e=.returned (.tuple #[])/\CutOk w B d bt nx T u w':=by
 have hBw:B<=w.heap.size:=Nat.le_trans h.newd (Nat.le_of_lt h.ltd);have p0:=h.d0;obtain⟨w3,hrun,hL,hturn⟩:=h.types.drop (s:=u) Tryz.underlying9 Tryz.underlying85 (long_max hu) 9;have hrunA:=fun ty=>(zF3 85 9 ty w #[.map (some bt),.string (txt u)]).trans hrun
 rw[zSd] at hL;have HD3:Hid (CutOk w B d bt nx T u w3):=hide ⟨h.cut hL hturn,zA1 hturn h.newt h.types.lt,KeptC.grown hturn.grown h.types⟩;clear hL hturn hrun hu h;generalize txt u=U at *;go_enter Tryz.func95,Tryz.ntmps95;go_wp2
 go_end0
 exact⟨rfl,HD3.out⟩
noncomputable def dropV (t:List UInt8) (l:List (List UInt8)) (n:List UInt8):List (List UInt8):=l.filter fun u=>decide ((valV t u).1≠n)
theorem zT0 {t n:List UInt8} {l:List Hd} (h:∀x∈l,valV t x.2.1=(x.1,0)):(lessH n l).map (fun h=>h.2.1)=dropV t (l.map fun h=>h.2.1) n:=by
 unfold lessH dropV;rw[List.filter_map];congr 1;refine List.filter_congr fun x hx=>?_
 simp only[Function.comp,h x hx]
theorem zOr {n:List UInt8} {l:List Hd} {x:Hd} (h:x∈lessH n l):x∈l:=(List.mem_filter.1 h).1
theorem DraftP.less {T:List Ty} {nx:Nat} {L:List EA} (h:DraftP T nx L) (u n:List UInt8):DraftP (turnT T u (lessH n)) nx (setE L u (dropV u (pickE L u) n)):=by
 have hh:∀x,heldT (turnT T u (lessH n)) x=if x=u then lessH n (heldT T u) else heldT T x:=fun x=>zRa T u x _ rfl
 refine⟨fun x y hy=>?_,fun x=>?_,fun x y hy=>?_,fun x=>?_,zD7 h.rise _ _,zEk h.full _ _⟩
 ·rw [hh] at hy;split at hy
  ·rename_i e;subst e;exact h.norm x y (zOr hy)
  ·exact h.norm x y hy
 ·rw [hh];split
  ·exact (h.place u).filter _
  ·exact h.place x
 ·rw [hh] at hy;split at hy
  ·exact h.lt u y (zOr hy)
  ·exact h.lt x y hy
 ·rw [hh,zA5];split
  ·rw [h.pick,zT0 (h.norm u)]
  ·exact h.pick x
theorem DraftP.cut {T:List Ty} {nx:Nat} {L:List EA} (h:DraftP T nx L) (u:List UInt8):DraftP (lessT u T) nx (setE L u []):=by
 have hh:∀x,heldT (lessT u T) x=if x=u then [] else heldT T x:=fun x=>zRs T u x
 refine⟨fun x y hy=>?_,fun x=>?_,fun x y hy=>?_,fun x=>?_,zD7 h.rise _ _,zEk h.full _ _⟩
 ·rw [hh] at hy;split at hy
  ·simp at hy
  ·exact h.norm x y hy
 ·rw [hh];split
  ·exact .nil
  ·exact h.place x
 ·rw [hh] at hy;split at hy
  ·simp at hy
  ·exact h.lt x y hy
 ·rw [hh,zA5];split
  ·rfl
  ·exact h.pick x
structure DropPost (w:World) (B d nx:Nat) (L:List EA) (u n:List UInt8) (e:Ending) (w':World):Prop where
 yes:(∃x∈pickE L u,(valV u x).1=n)->e=.returned (.bool true)/\Draft w' B d nx (setE L u (dropV u (pickE L u) n))
 no:¬(∃x∈pickE L u,(valV u x).1=n)->e=.returned (.bool false)/\Draft w' B d nx L
 below:Below B w w'
 kept:KeptC d w w'
theorem zRm {T:List Ty} {u:List UInt8} {k:Nat} {f:List Hd->List Hd} (hf:∀l,(f l).length<=l.length) (hT:∀t∈T,t.2.2.length<=k/\t.1.length<=1000000):∀t∈turnT T u f,t.2.2.length<=k/\t.1.length<=1000000:=by
 intro t ht;unfold turnT at ht;obtain⟨x,hx,rfl⟩:=List.mem_map.1 ht;have h1:=hT x hx;split
 ·exact ⟨Nat.le_trans (hf _) h1.1,h1.2⟩
 ·exact h1
theorem zSp {B d nx:Nat} {L:List EA} (w:World) (h:Draft w B d nx L) (u n:List UInt8) (hu:u.length<=1000000) (hn:n.length<=1000000):
  Calls Tryz.prog 77 #[.pointer (some ⟨d,0,none⟩),.string (txt u),.string (txt n)] w (DropPost w B d nx L u n):=by
 obtain⟨bt,T,hM,hP,hl,he⟩:=h.out;have hB:B<=w.heap.size:=Nat.le_trans hM.newd (Nat.le_of_lt hM.ltd);have key:(∃x∈pickE L u,(valV u x).1=n)↔(findH (heldT T u) n).isSome=true:=by
  rw[zLh,hP.pick,List.any_eq_true];constructor
  ·rintro ⟨x,hx,e⟩;obtain⟨y,hy,rfl⟩:=List.mem_map.1 hx;rw[hP.norm u y hy] at e;exact⟨y,hy,by simpa using e⟩
  ·rintro ⟨y,hy,e⟩;exact⟨y.2.1,List.mem_map_of_mem (f:=fun h:Hd=>h.2.1) hy,by rw[hP.norm u y hy];simpa using e⟩
 by_cases hin:(findH (heldT T u) n).isSome=true
 ·refine (zRt w hM u n hu hn hin).mono ?_;rintro e w' ⟨rfl,hd⟩;refine⟨fun _=>⟨rfl,⟨bt,_,hd.mem,hP.less u n,?_,zRm (fun l=>List.length_filter_le _ _) he⟩⟩,fun q=>absurd (key.2 hin) q,hd.below,hd.kept⟩;unfold turnT;rw[List.length_map];exact hl
 ·refine (ddrop_no w hM u n hu hn (by cases hf:findH (heldT T u) n with | none=>rfl | some x=>rw[hf] at hin;simp at hin)).mono ?_;rintro e w' ⟨rfl,hb⟩;exact⟨fun q=>absurd (key.1 q) hin,fun _=>⟨rfl,h.grow hb⟩,hb.mono hB,.below hb⟩
structure CutPost (w:World) (B d nx:Nat) (L:List EA) (u:List UInt8) (e:Ending) (w':World):Prop where
 code:e=.returned (.tuple #[])
 draft:Draft w' B d nx (setE L u [])
 below:Below B w w'
 kept:KeptC d w w'
theorem zPm {B d nx:Nat} {L:List EA} (w:World) (h:Draft w B d nx L) (u:List UInt8) (hu:u.length<=1000000):
  Calls Tryz.prog 95 #[.pointer (some ⟨d,0,none⟩),.string (txt u)] w (CutPost w B d nx L u):=by
 obtain⟨bt,T,hM,hP,hl,he⟩:=h.out;refine (dcut_any w hM u hu).mono ?_;rintro e w' ⟨rfl,hd⟩;exact⟨rfl,⟨bt,_,hd.mem,hP.cut u,Nat.le_trans (List.length_filter_le _ _) hl,fun t ht=>he t (List.mem_filter.1 ht).1⟩,hd.below,hd.kept⟩
theorem zB0 {B d nx:Nat} {L:List EA} (w:World) (h:Draft w B d nx L) (u:List UInt8) (hu:u.length<=1000000):
  Calls Tryz.prog 59 #[.pointer (some ⟨d,0,none⟩),.string (txt u)] w fun e w'=>e=.returned (.bool (decide (pickE L u≠[])))/\Below w.heap.size w w':=by
 obtain⟨bt,T,hM,hP,hl,he⟩:=h.out;have hp:decide (pickE L u≠[])=decide (heldT T u≠[]):=by rw[hP.pick];cases heldT T u<;>simp
 rw[hp];exact zCm w hM u hu
structure TurnPost (w:World) (B d k:Nat) (G:List EA) (g:Int) (e:Ending) (w':World):Prop where
 code:e=.returned (.int .i64 g)
 below:Below B w w'
 kept:KeptC d w w'
 draft:g=0->Draft w' B d k G
noncomputable def addL (L:List EA) (t:List UInt8) (vs:List (List UInt8)):List EA × Int:=
 if vs=[] then ([],19) else if (gatherL L t vs).2=0 then gatherL L t vs else ([],20)
noncomputable def replaceL (L:List EA) (t:List UInt8) (vs:List (List UInt8)):List EA × Int:=
 if (gatherL (setE L t []) t vs).2=0 then gatherL (setE L t []) t vs else ([],20)
open Classical in
noncomputable def dropsL (t:List UInt8):List EA->List (List UInt8)->List EA × Int
 | L,[]=>(L,0)
 | L,v::vs=>if ∃x∈pickE L t,(valV t x).1=(valV t v).1 then dropsL t (setE L t (dropV t (pickE L t) (valV t v).1)) vs else ([],16)
noncomputable def removeL (L:List EA) (t:List UInt8) (vs:List (List UInt8)):List EA × Int:=
 if pickE L t=[] then ([],16) else if vs=[] then (setE L t [],0) else dropsL t L vs
theorem dadd_any {B d nx:Nat} {L:List EA} (w:World) (h:Draft w B d nx L) (t:List UInt8) (vs:List (List UInt8)) (F:Option Addr) (n c:Nat) (hF:FormsR w d F n (formsP t vs)) (hok:∀v∈vs,(valV t v).2=0)
  (ht:t.length<=1000000) (hnx:nx+vs.length<=1000000000):
  Calls Tryz.prog 69 #[.pointer (some ⟨d,0,none⟩),.string (txt t),.slice F n c] w (TurnPost w B d (nx+vs.length) (addL L t vs).1 (addL L t vs).2):=by
 have hn:n=vs.length:=by rw[hF.len,zB3]
 have hP:=zJj w h t vs F n c hF hok ht hnx;have hB:B<=w.heap.size:=by obtain⟨bt,T,hM,_⟩:=h.out;exact Nat.le_trans hM.newd (Nat.le_of_lt hM.ltd)
 unfold addL;obtain⟨GG,hGG⟩:∃x,gatherL L t vs=x:=⟨_,rfl⟩;rw[hGG] at hP ⊢;obtain⟨G,g⟩:=GG;have HP:=hide hP;clear hP hGG hF hok ht h;generalize txt t=TN at *;by_cases h0:vs=[]
 ·subst h0;obtain rfl:n=0:=hn;rw[if_pos rfl];clear HP hnx;go_enter Tryz.func69,Tryz.ntmps69;go_wp2;go_ret;exact⟨rfl,Below.refl _ _,.refl _ _,fun q=>absurd q (by decide)⟩
 ·rw [if_neg h0];have hn0:((n:Int)==0)=false:=beq_false_of_ne (by
   have:=List.length_pos_iff.2 h0
   omega)
  obtain⟨K,hK⟩:∃K,nx+vs.length=K:=⟨_,rfl⟩;rw[hK] at HP ⊢;clear hn hnx h0 hK;by_cases hg:g=0
  ·rw [if_pos hg];go_enter Tryz.func69,Tryz.ntmps69;go_wp2_with (go_at_call 57;fail);refine HP.out.mono ?_;rintro e w2 hp;obtain rfl:e=.returned (.bool true):=by rw[hp.code,hg];rfl
   have Hp:=hide hp;clear hp HP;go_wp2;go_ret;exact⟨by rw[hg];rfl,Hp.out.below,Hp.out.kept,Hp.out.draft⟩
  ·rw [if_neg hg];go_enter Tryz.func69,Tryz.ntmps69;go_wp2_with (go_at_call 57;fail);refine HP.out.mono ?_;rintro e w2 hp;obtain rfl:e=.returned (.bool false):=by rw[hp.code,decide_eq_false hg]
   have Hp:=hide hp;clear hp HP;go_wp2;go_ret;exact⟨rfl,Hp.out.below,Hp.out.kept,fun q=>absurd q (by decide)⟩
theorem zLw {B d nx:Nat} {L:List EA} (w:World) (h:Draft w B d nx L) (t:List UInt8) (vs:List (List UInt8)) (F:Option Addr) (n c:Nat) (hF:FormsR w d F n (formsP t vs)) (hok:∀v∈vs,(valV t v).2=0)
  (ht:t.length<=1000000) (hnx:nx+vs.length<=1000000000):
  Calls Tryz.prog 71 #[.pointer (some ⟨d,0,none⟩),.string (txt t),.slice F n c] w (TurnPost w B d (nx+vs.length) (replaceL L t vs).1 (replaceL L t vs).2):=by
 have hC:=zPm w h t ht;have hP:=fun w (h:Draft w B d nx (setE L t [])) hF=>zJj w h t vs F n c hF hok ht hnx
 unfold replaceL;obtain⟨GG,hGG⟩:∃x,gatherL (setE L t []) t vs=x:=⟨_,rfl⟩;rw[hGG] at hP ⊢;obtain⟨G,g⟩:=GG;obtain⟨K,hK⟩:∃K,nx+vs.length=K:=⟨_,rfl⟩;rw[hK] at hP ⊢;have HP:=hide hP;have HC:=hide hC;have HF:=hide hF;clear hP hC hGG hF hok ht h hnx hK;generalize txt t=TN at *;by_cases hg:g=0
 ·rw [if_pos hg];go_enter Tryz.func71,Tryz.ntmps71;go_wp2_with (go_at_call 95;fail);refine HC.out.mono ?_;rintro e w1 hp;obtain rfl:=hp.code;have HP1:=hide (HP.out w1 hp.draft (HF.out.kept hp.kept));have Hc:=hide hp;clear hp HP HC HF;go_wp2_with (go_at_call 57;fail);refine HP1.out.mono ?_;rintro e w2 hp;obtain rfl:e=.returned (.bool true):=by rw[hp.code,hg];rfl
  have Hp:=hide hp;clear hp HP1;go_wp2;go_ret;exact⟨by rw[hg];rfl,Hc.out.below.trans Hp.out.below,Hc.out.kept.trans Hp.out.kept,Hp.out.draft⟩
 ·rw [if_neg hg];go_enter Tryz.func71,Tryz.ntmps71;go_wp2_with (go_at_call 95;fail);refine HC.out.mono ?_;rintro e w1 hp;obtain rfl:=hp.code;have HP1:=hide (HP.out w1 hp.draft (HF.out.kept hp.kept));have Hc:=hide hp;clear hp HP HC HF;go_wp2_with (go_at_call 57;fail);refine HP1.out.mono ?_;rintro e w2 hp;obtain rfl:e=.returned (.bool false):=by rw[hp.code,decide_eq_false hg]
  have Hp:=hide hp;clear hp HP1;go_wp2;go_ret;exact⟨rfl,Hc.out.below.trans Hp.out.below,Hc.out.kept.trans Hp.out.kept,fun q=>absurd q (by decide)⟩
theorem zN5 {B d nx:Nat} {L:List EA} (w:World) (h:Draft w B d nx L) (t:List UInt8) (vs:List (List UInt8)) (F:Option Addr) (n c:Nat) (hF:FormsR w d F n (formsP t vs))
  (ht:t.length<=1000000) (hnx:vs.length<=1000000000):
  Calls Tryz.prog 70 #[.pointer (some ⟨d,0,none⟩),.string (txt t),.slice F n c] w (TurnPost w B d nx (removeL L t vs).1 (removeL L t vs).2):=by
 have hn:n=vs.length:=by rw[hF.len,zB3]
 have hnb:n<=1000000000:=by omega
 have hB:B<=w.heap.size:=by obtain⟨bt,T,hM,_⟩:=h.out;exact Nat.le_trans hM.newd (Nat.le_of_lt hM.ltd)
 have hHT:=zB0 w h t ht;have hCU:=fun w h=>zPm (B:=B) (d:=d) (nx:=nx) (L:=L) w h t ht
 obtain⟨RR,hRR⟩:∃x,removeL L t vs=x:=⟨_,rfl⟩;rw[hRR];unfold removeL at hRR;have HH:=hide hHT;have HCU:=hide hCU;have HF:=hide hF;have HD:=hide h;have HN:=hide hn;have Ht:=hide ht;have HBw:=hide hB;clear hHT hCU hF h hn ht hB hnx;obtain⟨TN,hTN⟩:∃TN,txt t=TN:=⟨_,rfl⟩;have HTN:=hide hTN;rw[hTN] at HH HCU;rw[hTN];clear hTN;by_cases h0:pickE L t=[]
 ·rw [if_pos h0] at hRR;subst hRR;have hd0:decide (pickE L t≠[])=false:=by simp[h0]
  rw[hd0] at HH;clear h0 hd0;go_enter Tryz.func70,Tryz.ntmps70;go_wp2_with (go_at_call 59;fail);refine HH.out.mono ?_;rintro e w1 ⟨rfl,hb1⟩;have HB1:=hide hb1;clear hb1 HH HCU;go_wp2;go_ret;exact⟨rfl,HB1.out.mono HBw.out,.below HB1.out,fun q=>absurd q (by decide)⟩
 ·rw [if_neg h0] at hRR;have hd0:decide (pickE L t≠[])=true:=by simp[h0]
  rw[hd0] at HH;clear h0 hd0;by_cases h1:vs=[]
  ·rw [if_pos h1] at hRR;have hG0:dropsL t (setE L t []) vs=RR:=by rw[h1];unfold dropsL;exact hRR
   obtain rfl:n=0:=by rw[HN.out,h1];rfl
   obtain⟨G,g⟩:=RR;have HG:=hide hG0;clear hRR hG0;go_enter Tryz.func70,Tryz.ntmps70;go_wp2_with (go_at_call 59;fail);refine HH.out.mono ?_;rintro e w1 ⟨rfl,hb1⟩;have HB1:=hide hb1;have HC1:=hide (HCU.out w1 (HD.out.grow hb1));clear hb1 HH HCU;go_wp2_with (go_at_call 95;fail);refine HC1.out.mono ?_;rintro e w2 hp;obtain rfl:=hp.code;have HD1:=hide hp.draft;have HK1:=hide (And.intro ((HB1.out.mono HBw.out).trans hp.below) ((KeptC.below HB1.out).trans hp.kept));obtain⟨L1,hL1⟩:∃L1,setE L t []=L1:=⟨_,rfl⟩;rw[hL1] at HD1 HG;clear hp HC1 HB1 hL1 HD;go_wp2
   go_loopg [21] 0 (fun r s21 wx=>s21=.int .i64 0/\wx=w2)
   case atStart=>exact⟨rfl,rfl⟩
   case round=>obtain⟨rfl,rfl⟩:=hrel;have hGe:=HG.out;rw[h1] at hGe;unfold dropsL at hGe;have HGe:=hide hGe;clear hGe HG HF;go_wp2;go_ret;obtain⟨e1,e2⟩:=Prod.mk.inj HGe.out;exact⟨by rw[<-e2];rfl,HK1.out.1,HK1.out.2,fun _=>by rw[<-e1];exact HD1.out⟩
  ·rw [if_neg h1] at hRR;have hn0:((n:Int)==0)=false:=beq_false_of_ne (by
    have:=List.length_pos_iff.2 h1
    have:=HN.out
    omega)
   obtain⟨G,g⟩:=RR;have HG:=hide hRR;clear hRR h1 HCU;go_enter Tryz.func70,Tryz.ntmps70;go_wp2_with (go_at_call 59;fail);refine HH.out.mono ?_;rintro e w1 ⟨rfl,hb1⟩;have HD1:=hide (HD.out.grow hb1);have HK1:=hide (And.intro (hb1.mono HBw.out) (KeptC.below (d:=d) hb1));obtain⟨L1,hL1⟩:∃L1,L=L1:=⟨_,rfl⟩;subst hL1;clear hb1 HH HD;go_wp2
   go_loopg [21] n (fun r s21 wx=>∃(i:Nat) (Li:List EA),i+r=n/\s21=.int .i64 (i:Int)/\Hid (dropsL t Li (vs.drop i)=(G,g))/\Hid (Draft wx B d nx Li)/\Hid (Below B w wx/\KeptC d w wx))
   case atStart=>exact⟨0,L,by omega,rfl,hide (by rw[List.drop_zero];exact HG.out),HD1,HK1⟩
   case round=>
    obtain⟨i,Li,hig,rfl,hG,hDi,hBi⟩:=hrel;clear HD1 HG HK1;cases gk with
    | zero=>
     obtain rfl:i=n:=by omega
     have hiz:¬((i:Int)<(i:Int)):=(by omega);have hGe:=hG.out;rw[List.drop_eq_nil_of_le (by rw[<-HN.out];exact Nat.le_refl _)] at hGe;unfold dropsL at hGe;have HGe:=hide hGe;clear hGe hG HF;go_wp2;go_ret;obtain⟨e1,e2⟩:=Prod.mk.inj HGe.out;exact⟨by rw[<-e2];rfl,hBi.out.1,hBi.out.2,fun _=>by rw[<-e1];exact hDi.out⟩
    | succ r=>
     have hi:i<n:=(by omega);have hiz:(i:Int)<(n:Int):=(by omega);obtain⟨v,hv⟩:∃v,vs[i]?=some v:=⟨_,List.getElem?_eq_getElem (by rw[<-HN.out];exact hi)⟩;have hdrop:vs.drop i=v::vs.drop (i+1):=by obtain⟨h1,h2⟩:=List.getElem?_eq_some_iff.1 hv;rw[List.drop_eq_getElem_cons h1,h2]
     have hGi:=hG.out;rw[hdrop] at hGi;unfold dropsL at hGi;obtain⟨nv,hnv⟩:∃nv,(valV t v).1=nv:=⟨_,rfl⟩;rw[hnv] at hGi;have hnl:nv.length<=1000000:=by have:=zGl t v;rw[hnv] at this;omega
     have hfa:(formsP t vs)[i]?=some (v,nv):=(by unfold formsP;rw[List.getElem?_map,hv,<-hnv];rfl);obtain⟨gb,o,hFe,hgd,hrd⟩:=(HF.out.kept hBi.out.2).lie (fun q=>by rw[q] at hfa;simp at hfa);have e0:=hrd.fst i _ hfa;have e1:=hrd.snd i _ hfa;simp only at e0 e1;have HFe:=hide hFe;subst hFe;have hba:=below1 wr (.cells #[.string (txt v),.string (txt nv)] 94);have hXa:=BoxF.new wr (txt v) (txt nv) 94;have u0:=hXa.c0;have u1:=hXa.c1;have HP:=hide (zSp _ (hDi.out.grow hba) t nv Ht.out hnl);have HK2:=hide (And.intro (hBi.out.1.trans (hba.mono (by obtain⟨bt,T,hM,_⟩:=hDi.out.out;exact Nat.le_trans hM.newd (Nat.le_of_lt hM.ltd)))) (hBi.out.2.trans (KeptC.below (d:=d) hba)));obtain⟨NV,hNV⟩:∃NV,txt nv=NV:=⟨_,rfl⟩;obtain⟨VV,hVV⟩:∃VV,txt v=VV:=⟨_,rfl⟩;rw[HTN.out,hVV,hNV] at HP;rw[hVV,hNV] at u0 u1 HK2;rw[hVV] at e0;rw[hNV] at e1;clear hNV hVV hba hXa hfa hrd hnv hnl hv hdrop hG HF;by_cases hin:∃x∈pickE Li t,(valV t x).1=nv
     ·rw [if_pos hin] at hGi;have HGi:=hide hGi;clear hGi hBi hDi;go_wp2_with (go_at_call 77;fail);refine HP.out.mono ?_;rintro e w4 hp;obtain⟨rfl,hd4⟩:=hp.yes hin;have HB4:=hide (And.intro (HK2.out.1.trans hp.below) (HK2.out.2.trans hp.kept));have HD4:=hide hd4;clear hp HP HK2 hd4 e0 e1 u0 u1 hin;go_wp2
      go_roundg r
      case measure=>omega
      case rel=>exact⟨i+1,_,by omega,by go_num,HGi,HD4,HB4⟩
     ·rw [if_neg hin] at hGi;have HGi:=hide hGi;clear hGi hBi hDi;go_wp2_with (go_at_call 77;fail);refine HP.out.mono ?_;rintro e w4 hp;obtain⟨rfl,_⟩:=hp.no hin;have HB4:=hide (And.intro (HK2.out.1.trans hp.below) (HK2.out.2.trans hp.kept));clear hp HP HK2 e0 e1 u0 u1 hin;go_wp2;go_ret;obtain⟨_,e2⟩:=Prod.mk.inj HGi.out;exact⟨by rw[<-e2];rfl,HB4.out.1,HB4.out.2,fun q=>absurd (e2.trans q) (by decide)⟩
end Go.Proofs.YtadlmhclpaifoaaGreatDoor
namespace Go.Proofs.YtadlmhclpaifoaaGreatDoor
open Go.RowKit Flt
theorem zOa (x y:Nat) (n m:Int) (h:Num x y n m) (w:World):
  Calls Tryz.prog 190 #[.complex .f64 x y] w fun e w'=>e=.returned (.tuple #[.complex .f64 x y,.int .i64 0])/\Below w.heap.size w w':=by
 have hF:=fun w=>zCb x y n m h w
 clear h;go_enter Tryz.func190,Tryz.ntmps190;go_wp2_with (go_at_call 189;refine (hF _).mono ?_;rintro e w1 ⟨rfl,hb⟩);go_ret2;exact⟨rfl,hb⟩
theorem zQz (x y:Nat) (hx:Word x) (hy:Word y) (h:NoNum x y) (w:World):
  Calls Tryz.prog 190 #[.complex .f64 x y] w fun e w'=>e=.returned (.tuple #[.complex .f64 0 0,.int .i64 3])/\Below w.heap.size w w':=by
 have hF:=fun w=>zLz x y hx hy h w
 clear h;go_enter Tryz.func190,Tryz.ntmps190;go_wp2_with (go_at_call 189;refine (hF _).mono ?_;rintro e w1 ⟨rfl,hb⟩);go_ret2;exact⟨rfl,hb⟩
theorem addD_yes (x y u v:Nat) (a b c d:Int) (h:Num x y a b) (k:Num u v c d) (r i:Nat) (hs:cSumBits .add .f64 x y u v=some (r,i)) (hr:Fw r (a+c)) (hi:Fw i (b+d)) (hin:InB (a+c) (b+d)) (w:World):
  Calls Tryz.prog 149 #[.complex .f64 x y,.complex .f64 u v] w fun e w'=>e=.returned (.tuple #[.complex .f64 r i,.int .i64 0])/\Below w.heap.size w w':=by
 have hF:=fun w=>zCb x y a b h w
 have hG:=fun w=>zCb u v c d k w
 have hadd:∀W:World,(binOp .add 172 (.complex .f64 x y) (.complex .f64 u v)).run Tryz.prog W=.ok (.complex .f64 r i) W:=fun W=>run_complex_sum W .add (Or.inl rfl) _ _ _ _ _ _ _ _ hs
 have hW:=fun w=>zOa r i _ _ (fw_num hr hi hin) w
 clear h k hs hr hi hin;go_enter Tryz.func149,Tryz.ntmps149;go_wp2_with (go_at_call 189;fail);refine (hF _).mono ?_;rintro e w1 ⟨rfl,hb1⟩;go_wp2_with (go_at_call 189;fail);refine (hG _).mono ?_;rintro e w2 ⟨rfl,hb2⟩;go_wp2_with (go_at_call 190;refine (hW _).mono ?_;rintro e w3 ⟨rfl,hb3⟩);go_ret2;have hbb:=hb1.trans (hb2.mono hb1.size);exact⟨rfl,hbb.trans (hb3.mono hbb.size)⟩
theorem addD_no (x y u v:Nat) (a b c d:Int) (h:Num x y a b) (k:Num u v c d) (r i:Nat) (hs:cSumBits .add .f64 x y u v=some (r,i)) (hr:Fw r (a+c)) (hi:Fw i (b+d)) (hin:¬InB (a+c) (b+d)) (w:World):
  Calls Tryz.prog 149 #[.complex .f64 x y,.complex .f64 u v] w fun e w'=>e=.returned (.tuple #[.complex .f64 0 0,.int .i64 3])/\Below w.heap.size w w':=by
 have hF:=fun w=>zCb x y a b h w
 have hG:=fun w=>zCb u v c d k w
 have hadd:∀W:World,(binOp .add 172 (.complex .f64 x y) (.complex .f64 u v)).run Tryz.prog W=.ok (.complex .f64 r i) W:=fun W=>run_complex_sum W .add (Or.inl rfl) _ _ _ _ _ _ _ _ hs
 have hW:=fun w=>zQz r i ⟨hr.lt⟩ ⟨hi.lt⟩ (fw_nonum hr hi hin) w
 clear h k hs hr hi hin;go_enter Tryz.func149,Tryz.ntmps149;go_wp2_with (go_at_call 189;fail);refine (hF _).mono ?_;rintro e w1 ⟨rfl,hb1⟩;go_wp2_with (go_at_call 189;fail);refine (hG _).mono ?_;rintro e w2 ⟨rfl,hb2⟩;go_wp2_with (go_at_call 190;refine (hW _).mono ?_;rintro e w3 ⟨rfl,hb3⟩);go_ret2;have hbb:=hb1.trans (hb2.mono hb1.size);exact⟨rfl,hbb.trans (hb3.mono hbb.size)⟩
def RaiseR (x:Int) (v u s:List UInt8):Prop:=
 (x=3/\∃a b,IsInt v a/\IsInt u b/\IsInt s (a+b))\/(x=4/\∃a b c d,Small a/\Small b/\Small c/\Small d/\v=text a b/\u=text c d/\Small (a+c)/\Small (b+d)/\s=text (a+c) (b+d))
theorem zLd {x:Int} {v u s r:List UInt8} (h:RaiseR x v u s) (k:RaiseR x v u r):s=r:=by
 rcases h with⟨hx,a,b,h1,h2,h3⟩ | ⟨hx,a,b,c,d,h1,h2,h3,h4,h5,h6,h7,h8,h9⟩
 ·rcases k with⟨_,a',b',k1,k2,k3⟩ | ⟨hx',_⟩
  ·rw [zBq h1 k1,zBq h2 k2] at h3;rw[h3.2,k3.2]
  ·omega
 ·rcases k with⟨hx',_⟩ | ⟨_,a',b',c',d',k1,k2,k3,k4,k5,k6,k7,k8,k9⟩
  ·omega
  ·obtain ⟨rfl,rfl⟩:=zB6 h1 h2 k1 k2 (h5.symm.trans k5);obtain⟨rfl,rfl⟩:=zB6 h3 h4 k3 k4 (h6.symm.trans k6);rw[h9,k9]
theorem zFa {x:Int} {v v' u s:List UInt8} (h:RaiseR x v u s) (k:RaiseR x v' u s):v=v':=by
 rcases h with⟨hx,a,b,h1,h2,h3⟩ | ⟨hx,a,b,c,d,h1,h2,h3,h4,h5,h6,h7,h8,h9⟩
 ·rcases k with⟨_,a',b',k1,k2,k3⟩ | ⟨hx',_⟩
  ·have e:=zBq h3 k3;have e2:=zBq h2 k2;have:a=a':=by omega
   rw[h1.2,k1.2,this]
  ·omega
 ·rcases k with⟨hx',_⟩ | ⟨_,a',b',c',d',k1,k2,k3,k4,k5,k6,k7,k8,k9⟩
  ·omega
  ·obtain ⟨rfl,rfl⟩:=zB6 h3 h4 k3 k4 (h6.symm.trans k6);obtain⟨e1,e2⟩:=zB6 h7 h8 k7 k8 (h9.symm.trans k9);have:a=a':=by omega
   have:b=b':=by omega
   subst a';subst b';rw[h5,k5]
theorem zGk {t v:List UInt8} {x:Int} (hx:(typ t).2=x) (h34:x=3\/x=4):valV t v=norm t v:=by
 unfold valV;rw[if_pos (by omega)]
theorem zCr {t v:List UInt8} {x:Int} (hx:(typ t).2=x) (h34:x=3\/x=4) (h:(valV t v).2=0):valV t v=(v,0)/\Formed x v/\v.length<=200:=by
 rw[zGk hx h34] at h ⊢;rcases road t v with⟨_,r⟩ | ⟨_,r⟩ | ⟨_,_,r⟩ | ⟨_,_,r⟩ | ⟨_,_,_,r⟩ | ⟨h1,_,_,r⟩ | ⟨_,k,f,r⟩
 ·rw [r] at h;simp at h
 ·rw [r] at h;simp at h
 ·rw [r] at h;simp at h
 ·rw [r] at h;simp at h
 ·rw [r] at h;simp at h
 ·omega
 ·rw [hx] at f;exact⟨r,f,k.2⟩
theorem val_of {t v:List UInt8} {x:Int} (hx:(typ t).2=x) (h34:x=3\/x=4) (hf:Formed x v) (hl:1<=v.length/\v.length<=200):valV t v=(v,0):=by
 rw[zGk hx h34];unfold norm;rw[hx,if_neg (by omega),if_neg (by omega),if_neg,if_neg (by omega)];rintro (h | h | h)
 ·omega
 ·omega
 ·exact h hf
theorem int_len {s:List UInt8} {n:Int} (h:IsInt s n):1<=s.length/\s.length<=200:=by
 obtain⟨⟨h0,h1⟩,rfl⟩:=h;have h2:=Lib.itoa_length_le n (by omega) (by omega);exact⟨List.length_pos_iff.2 (zC9 n).1,by omega⟩
theorem sec_len2 {b:Int} (h:Small b):1<=(sec b).length/\(sec b).length<=10:=by
 have:=zGn h;unfold sec;split
 ·simp
 ·split
  ·simp
  ·simp only[List.length_append,List.length_cons,List.length_nil];omega
theorem zDu {a b:Int} (ha:Small a) (hb:Small b):1<=(text a b).length/\(text a b).length<=200:=by
 have h1:=zGn ha;have h2:=sec_len2 hb;have h3:=List.length_pos_iff.2 (zC9 a).1;unfold text;split
 ·omega
 ·split
  ·omega
  ·split
   ·simp only[List.length_append,List.length_cons,List.length_nil];omega
   ·simp only[List.length_append];omega
theorem form_int {s:List UInt8} {n:Int} (h:IsInt s n):Formed 3 s:=⟨fun e=>(by omega),fun _=>⟨n,h⟩,fun e=>(by omega)⟩
theorem zRj {a b:Int} (ha:Small a) (hb:Small b):Formed 4 (text a b):=⟨fun e=>(by omega),fun e=>(by omega),fun _=>⟨a,b,ha,hb,rfl⟩⟩
theorem zCs {t v u s:List UInt8} {x:Int} (hx:(typ t).2=x) (h:RaiseR x v u s):valV t s=(s,0):=by
 rcases h with⟨rfl,a,b,h1,h2,h3⟩ | ⟨rfl,a,b,c,d,h1,h2,h3,h4,h5,h6,h7,h8,rfl⟩
 ·exact val_of hx (.inl rfl) (form_int h3) (int_len h3)
 ·exact val_of hx (.inr rfl) (zRj h7 h8) (zDu h7 h8)
theorem zLk {a b:Int} (h:Lib.itoa a=Lib.itoa b):a=b:=by
 unfold Lib.itoa at h;split at h<;>split at h
 ·have h1:=congrArg (Lib.decFrom 0) (List.cons.inj h).2;rw[zBw,zBw] at h1;injection h1 with h1
  omega
 ·have h1:=congrArg (Lib.decFrom 0) h;rw[zBw] at h1;have e:Lib.digitVal 45=none:=by decide
  simp only[Lib.decFrom,e] at h1;cases h1
 ·have h1:=congrArg (Lib.decFrom 0) h;rw[zBw] at h1;have e:Lib.digitVal 45=none:=by decide
  simp only[Lib.decFrom,e] at h1;cases h1
 ·have h1:=congrArg (Lib.decFrom 0) h;rw[zBw,zBw] at h1;injection h1 with h1
  omega
structure PlusPost (x:Int) (v u:List UInt8) (w:World) (e:Ending) (w':World):Prop where
 yes:∀s,RaiseR x v u s->e=.returned (.tuple #[.string (txt s),.bool true])
 no:(¬∃s,RaiseR x v u s)->∃z,e=.returned (.tuple #[.string z,.bool false])
 below:Below w.heap.size w w'
theorem zFi {x:Int} {v u s:List UInt8} {w w':World} {e:Ending} (h:RaiseR x v u s) (he:e=.returned (.tuple #[.string (txt s),.bool true])) (hb:Below w.heap.size w w'):PlusPost x v u w e w':=
 ⟨fun r k=>by rw[zLd k h];exact he,fun q=>absurd ⟨s,h⟩ q,hb⟩
theorem zGy {x:Int} {v u:List UInt8} {z:ByteArray} {w w':World} {e:Ending} (h:¬∃s,RaiseR x v u s) (he:e=.returned (.tuple #[.string z,.bool false])) (hb:Below w.heap.size w w'):PlusPost x v u w e w':=
 ⟨fun r k=>absurd ⟨r,k⟩ h,fun _=>⟨z,he⟩,hb⟩
theorem zTe (a b c d:Int) (ha:Small a) (hb:Small b) (hc:Small c) (hd:Small d) (w:World) (hT:Tabs w):
  Calls Tryz.prog 121 #[.string (txt (text a b)),.string (txt (text c d))] w (PlusPost 4 (text a b) (text c d) w):=by
 have hP1:=fun w hT=>zHp (txt (text a b)) (by rw[zAg];have:=zDu ha hb;omega) a b ha hb (by rw[zAc]) w hT
 have hP2:=fun w hT=>zHp (txt (text c d)) (by rw[zAg];have:=zDu hc hd;omega) c d hc hd (by rw[zAc]) w hT
 have hn1:Num (fl a) (fl b) a b:=⟨part_fl' ha,part_fl' hb⟩;have hn2:Num (fl c) (fl d) c d:=⟨part_fl' hc,part_fl' hd⟩;obtain⟨r,i,hs,hr,hi⟩:=c_add hn1 hn2;by_cases hin:InB (a+c) (b+d)
 ·have hA:=fun w=>addD_yes _ _ _ _ a b c d hn1 hn2 r i hs hr hi hin w
  have hPr:=fun w hT=>zGr r i (a+c) (b+d) (fw_num hr hi hin) w hT
  have HR:Hid (RaiseR 4 (text a b) (text c d) (text (a+c) (b+d))):=hide (.inr ⟨rfl,a,b,c,d,ha,hb,hc,hd,rfl,rfl,⟨hin.1.1,hin.1.2⟩,⟨hin.2.1,hin.2.2⟩,rfl⟩);have H1:=hide hP1;have H2:=hide hP2;have HA:=hide hA;have HPr:=hide hPr;clear hP1 hP2 hA hPr hn1 hn2 hs hr hi hin ha hb hc hd;generalize text (a+c) (b+d)=TS at *;generalize text a b=TA at *;generalize text c d=TC at *;generalize fl a=fa at *;generalize fl b=fb at *;generalize fl c=fc at *;generalize fl d=fd at *;obtain⟨SA,hSA⟩:∃S,txt TA=S:=⟨_,rfl⟩;obtain⟨SC,hSC⟩:∃S,txt TC=S:=⟨_,rfl⟩;rw[hSA] at H1 ⊢;rw[hSC] at H2 ⊢;clear hSA hSC;go_enter Tryz.func121,Tryz.ntmps121;go_wp2_with (go_at_call 129;fail);refine (H1.out _ hT).mono ?_;rintro e w1 ⟨rfl,hb1⟩;have HB1:=hide hb1;have hT1:=hT.below hb1;clear hb1 H1;go_wp2_with (go_at_call 129;fail);refine (H2.out _ hT1).mono ?_;rintro e w2 ⟨rfl,hb2⟩;have HB2:=hTz HB1 hb2;have hT2:=hT1.below hb2;clear hb2 H2 HB1 hT1;go_wp2_with (go_at_call 149;fail);refine (HA.out _).mono ?_;rintro e w3 ⟨rfl,hb3⟩;have HB3:=hTz HB2 hb3;have hT3:=hT2.below hb3;clear hb3 HA HB2 hT2;go_wp2_with (go_at_call 150;fail);refine (HPr.out _ hT3).mono ?_;rintro e w4 ⟨rfl,hb4⟩;have HB4:=hTz HB3 hb4;clear hb4 HPr HB3 hT3;go_wp2;go_ret2;exact zFi HR.out rfl HB4.out
 ·have hA:=fun w=>addD_no _ _ _ _ a b c d hn1 hn2 r i hs hr hi hin w
  have HR:Hid (¬∃s,RaiseR 4 (text a b) (text c d) s):=hide (by
   rintro ⟨s,⟨h,_⟩ | ⟨_,a',b',c',d',k1,k2,k3,k4,k5,k6,k7,k8,k9⟩⟩
   ·omega
   ·obtain ⟨rfl,rfl⟩:=zB6 ha hb k1 k2 k5
    obtain⟨rfl,rfl⟩:=zB6 hc hd k3 k4 k6
    exact hin ⟨⟨k7.lo,k7.hi⟩,⟨k8.lo,k8.hi⟩⟩)
  have H1:=hide hP1;have H2:=hide hP2;have HA:=hide hA;clear hP1 hP2 hA hn1 hn2 hs hr hi hin ha hb hc hd;generalize text a b=TA at *;generalize text c d=TC at *;generalize fl a=fa at *;generalize fl b=fb at *;generalize fl c=fc at *;generalize fl d=fd at *;obtain⟨SA,hSA⟩:∃S,txt TA=S:=⟨_,rfl⟩;obtain⟨SC,hSC⟩:∃S,txt TC=S:=⟨_,rfl⟩;rw[hSA] at H1 ⊢;rw[hSC] at H2 ⊢;clear hSA hSC;go_enter Tryz.func121,Tryz.ntmps121;go_wp2_with (go_at_call 129;fail);refine (H1.out _ hT).mono ?_;rintro e w1 ⟨rfl,hb1⟩;have HB1:=hide hb1;have hT1:=hT.below hb1;clear hb1 H1;go_wp2_with (go_at_call 129;fail);refine (H2.out _ hT1).mono ?_;rintro e w2 ⟨rfl,hb2⟩;have HB2:=hTz HB1 hb2;have hT2:=hT1.below hb2;clear hb2 H2 HB1 hT1;go_wp2_with (go_at_call 149;fail);refine (HA.out _).mono ?_;rintro e w3 ⟨rfl,hb3⟩;have HB3:=hTz HB2 hb3;clear hb3 HA HB2 hT2;go_wp2;go_ret2;exact zGy HR.out rfl HB3.out
theorem zOz (t v u:List UInt8) (x:Int) (hx:(typ t).2=x) (h34:x=3\/x=4) (hv:(valV t v).2=0) (hu:(valV t u).2=0) (ht:t.length<=1000000) (w:World) (hT:TT w):
  Calls Tryz.prog 96 #[.string (txt t),.int .i64 x,.string (txt v),.string (txt u)] w (PlusPost x v u w):=by
 obtain⟨_,fv,lv⟩:=zCr hx h34 hv;obtain⟨_,fu,lu⟩:=zCr hx h34 hu;rcases h34 with rfl | rfl
 ·obtain ⟨a,ia⟩:=fv.nu rfl;obtain⟨b,ib⟩:=fu.nu rfl;have hP1:=fun w=>zC8 (txt v) (by rw[zAg];omega) a (by rw[zAc];exact zHn ia) w
  have hP2:=fun w=>zC8 (txt u) (by rw[zAg];omega) b (by rw[zAc];exact zHn ib) w
  have hF:=fun w hT=>zB8 (a+b) (by have:=ia.1;have:=ib.1;omega) (by have:=ia.1;have:=ib.1;omega) w hT
  obtain⟨s,hs⟩:∃s,Lib.itoa (a+b)=s:=⟨_,rfl⟩;rw[hs] at hF;have hsl:s.length<=1000000:=by rw[<-hs];have:=Lib.itoa_length_le (a+b) (by have:=ia.1;have:=ib.1;omega) (by have:=ia.1;have:=ib.1;omega);omega
  have hN:=fun w hT=>zEj (txt t) (txt s) (by rw[zAg];omega) w hT
  simp only[zAc] at hN;have hab: -9223372036854775808<=a+b/\a+b<=9223372036854775807:=by have:=ia.1;have:=ib.1;omega
  have key:((norm t s).2=0->RaiseR 3 v u s)/\((norm t s).2≠0->¬∃r,RaiseR 3 v u r):=by
   constructor
   ·intro h0;rw[<-zGk hx (.inl rfl)] at h0;obtain⟨_,f,_⟩:=zCr hx (.inl rfl) h0;obtain⟨n,hn⟩:=f.nu rfl;refine .inl ⟨rfl,a,b,ia,ib,?_⟩;have e:a+b=n:=by
     have h1:=hn.2;rw[<-hs] at h1;exact zLk h1
    rw[e];exact hn
   ·rintro h0 ⟨r,⟨_,a',b',k1,k2,k3⟩ | ⟨h,_⟩⟩
    ·apply h0;rw[<-zBq ia k1,<-zBq ib k2] at k3;have:r=s:=by rw[k3.2,hs]
     rw[<-this,<-zGk hx (.inl rfl),zCs (v:=v) (u:=u) hx (.inl ⟨rfl,a,b,ia,ib,k3⟩)]
    ·omega
  have Hkey:=hide key;have HT:=hide hT;have H1:=hide hP1;have H2:=hide hP2;have HF:=hide hF;have HN:=hide hN;clear hP1 hP2 hF hN key hs hsl ia ib fv fu lv lu hv hu;generalize (norm t s).2=z at *;generalize txt (norm t s).1=Z at *;obtain⟨SV,hSV⟩:∃S,txt v=S:=⟨_,rfl⟩;obtain⟨SU,hSU⟩:∃S,txt u=S:=⟨_,rfl⟩;obtain⟨SS,hSS⟩:∃S,txt s=S:=⟨_,rfl⟩;have HSS:=hide hSS;rw[hSV] at H1 ⊢;rw[hSU] at H2 ⊢;rw[hSS] at HF HN;clear hSV hSU hSS;generalize txt t=TN at *;go_enter Tryz.func96,Tryz.ntmps96;go_wp2_with (go_at_call 122;fail);refine (H1.out _).mono ?_;rintro e w1 ⟨rfl,hb1⟩;have HB1:=hide hb1;clear hb1 H1;go_wp2_with (go_at_call 122;fail);refine (H2.out _).mono ?_;rintro e w2 ⟨rfl,hb2⟩;have HB2:=hTz HB1 hb2;clear hb2 H2 HB1;go_wp2_with (go_at_call 97;fail);refine (HF.out _ ((HT.out.below HB2.out).tabs)).mono ?_;rintro e w3 ⟨rfl,hb3⟩;have HB3:=hTz HB2 hb3;clear hb3 HF HB2;go_wp2_with (go_at_call 80;fail);refine (HN.out _ (HT.out.below HB3.out)).mono ?_;rintro e w4 ⟨rfl,hb4⟩;have HB4:=hTz HB3 hb4;clear hb4 HN HB3;by_cases hz:z=0
  ·have hzz:(z==0)=true:=by simpa using hz
   go_wp2;go_ret2;exact zFi (Hkey.out.1 hz) (by rw[HSS.out];rfl) HB4.out
  ·have hzz:(z==0)=false:=by simpa using hz
   go_wp2;go_ret2;exact zGy (Hkey.out.2 hz) rfl HB4.out
 ·obtain ⟨a,b,ha,hb,rfl⟩:=fv.pl rfl;obtain⟨c,d,hc,hd,rfl⟩:=fu.pl rfl;have HP:=hide (fun w hT=>zTe a b c d ha hb hc hd w hT);have HT:=hide hT;clear fv fu lv lu hv hu ha hb hc hd;generalize text a b=TA at *;generalize text c d=TC at *;obtain⟨SA,hSA⟩:∃S,txt TA=S:=⟨_,rfl⟩;obtain⟨SC,hSC⟩:∃S,txt TC=S:=⟨_,rfl⟩;rw[hSA,hSC] at HP ⊢;generalize txt t=TN at *;clear hSA hSC;by_cases hs:∃s,RaiseR 4 TA TC s
  ·obtain ⟨s,hs⟩:=hs;have Hs:=hide hs;obtain⟨SS,hSS⟩:∃S,txt s=S:=⟨_,rfl⟩;have HSS:=hide hSS;clear hs;go_enter Tryz.func96,Tryz.ntmps96;go_wp2_with (go_at_call 121;fail);refine (HP.out _ HT.out.tabs).mono ?_;rintro e w1 hp;obtain rfl:=hp.yes s Hs.out;have HB:=hide hp.below;rw[hSS];clear hp HP hSS;go_wp2;go_ret2;exact zFi Hs.out (by rw[HSS.out];rfl) HB.out
  ·have Hs:=hide hs;clear hs;go_enter Tryz.func96,Tryz.ntmps96;go_wp2_with (go_at_call 121;fail);refine (HP.out _ HT.out.tabs).mono ?_;rintro e w1 hp;obtain⟨z,rfl⟩:=hp.no Hs.out;have HB:=hide hp.below;clear hp HP;go_wp2;go_ret2;exact zGy Hs.out rfl HB.out
end Go.Proofs.YtadlmhclpaifoaaGreatDoor
namespace Go.Proofs.YtadlmhclpaifoaaGreatDoor
open Go Go.RowKit Go.Maps
theorem zL4 (w:World) (n:Nat):(Instr.makeMap 95 (some (.int .i64 (n:Int)))).run Tryz.prog w=.ok (.map (some w.heap.size)) (w.alloc (.map #[] 0)):=by
 simp[Instr.makeMap];rfl
open Classical in
noncomputable def sumV (x:Int) (v u:List UInt8):List UInt8:=if h:∃s,RaiseR x v u s then Classical.choose h else []
theorem zEp {x:Int} {v u:List UInt8} (h:∃s,RaiseR x v u s):RaiseR x v u (sumV x v u):=by
 unfold sumV;rw[dif_pos h];exact Classical.choose_spec h
theorem zPh {x:Int} {v u s:List UInt8} (h:RaiseR x v u s):sumV x v u=s:=zLd (zEp ⟨s,h⟩) h
noncomputable def incH (x:Int) (u:List UInt8) (h:Hd):Hd:=(sumV x h.2.1 u,sumV x h.2.1 u,h.2.2)
theorem zIh {L:Prs} {s:List UInt8} {v:Value} (hd:L.Pairwise (fun p q=>p.1≠q.1)):lookP L s=some v↔(s,v)∈L:=
 ⟨zDr,fun h=>zCp (p:=(s,v)) hd h⟩
theorem zQw {L M:Prs} (h:L.Perm M) (hd:L.Pairwise (fun p q=>p.1≠q.1)) (s:List UInt8):lookP L s=lookP M s:=by
 have hd2:M.Pairwise (fun p q=>p.1≠q.1):=h.pairwise hd (fun e=>e.symm);cases hl:lookP L s with
 | none=>
  cases hm:lookP M s with
  | none=>rfl
  | some v=>rw[(zIh hd).2 (h.mem_iff.2 (zDr hm))] at hl;cases hl
 | some v=>exact ((zIh hd2).2 (h.mem_iff.1 (zDr hl))).symm
theorem MapL.perm {w:World} {P:Program} {k:TypeId} {b:Nat} {L M:Prs} (h:MapL w P k b L) (hp:L.Perm M):MapL w P k b M:=by
 obtain⟨D,h⟩:=h;refine⟨D,?_,fun s z=>?_,?_,hp.pairwise h.nd (fun e=>e.symm),fun p hm=>h.fits p (hp.mem_iff.2 hm)⟩
 ·rw [<-hp.length_eq];exact h.own
 ·rw [h.look,zQw hp h.nd]
 ·rw [h.size,hp.length_eq]
def swapT (T:List Ty) (u:List UInt8) (b:Nat) (l:List Hd):List Ty:=T.map fun t=>if t.1=u then (t.1,b,l) else t
theorem swap_tys (T:List Ty) (u:List UInt8) (b:Nat) (l:List Hd):setP (T.map tyP) u (.map (some b))=(swapT T u b l).map tyP:=by
 unfold setP swapT;rw[List.map_map,List.map_map];apply List.map_congr_left;intro t ht;simp only[Function.comp,tyP];by_cases h:t.1=u
 ·simp [h]
 ·simp [h]
theorem zTr (T:List Ty) (u v:List UInt8) (b:Nat) (l:List Hd):findT (swapT T u b l) v=if v=u then (findT T u).map (fun t=>(t.1,b,l)) else findT T v:=by
 induction T with
 | nil=>simp[swapT,findT]
 | cons x T ih=>
  unfold swapT at ih ⊢;rw[List.map_cons];by_cases hx:x.1=u
  ·rw [if_pos hx];simp only[findT];by_cases hv:x.1=v
   ·rw [if_pos hv,if_pos (hv.symm.trans hx),if_pos hx];rfl
   ·rw [if_neg hv,ih,if_neg (fun q=>hv (hx.trans q.symm)),if_neg (fun q=>hv (hx.trans q.symm)),if_neg hv]
  ·rw [if_neg hx];simp only[findT];by_cases hv:x.1=v
   ·rw [if_pos hv,if_neg (fun q=>hx (hv.trans q)),if_pos hv]
   ·rw [if_neg hv,ih,if_neg hv,if_neg hx]
theorem zRh (T:List Ty) (u v:List UInt8) (b:Nat) (l:List Hd) (hu:(findT T u).isSome=true):heldT (swapT T u b l) v=if v=u then l else heldT T v:=by
 unfold heldT;rw[zTr];by_cases h:v=u
 ·rw [if_pos h,if_pos h];cases hf:findT T u with
  | none=>rw[hf] at hu;cases hu
  | some t=>rfl
 ·rw [if_neg h,if_neg h]
theorem DraftM.swap {w:World} {B d bt nx b:Nat} {T:List Ty} {u:List UInt8} {l:List Hd} (h:DraftM w B d bt nx T) (hu:(findT T u).isSome=true) (hul:u.length<=maxLen) (hT:T.length<maxLen) (hb:MapL w Tryz.prog 9 b (l.map heldP)) (hB:B<=b) (hbt:b≠bt) (hnew:∀t∈T,t.2.1≠b)
  {t:TypeId} {e:TypeId} (hk:Tryz.prog.underlying 9=some .string) (ht:Tryz.prog.underlying t=some (.map 9 e)):
  ∃w',(Instr.mapUpdate t (.map (some bt)) (.string (txt u)) (.map (some b))).run Tryz.prog w=.ok () w'/\DraftM w' B d bt nx (swapT T u b l)/\w.mapTurned w' bt:=by
 obtain⟨w',hrun,hL,hturn⟩:=h.types.store_at hk ht hul (by simpa using hT) (by rw[zGh];cases hf:findT T u with | none=>rw[hf] at hu;cases hu | some t=>rfl) (.map (some b));rw[swap_tys T u b l] at hL;have hg:=hturn.grown;have hblk:∀k,k<w.heap.size->k≠bt->w'.heap[k]?=w.heap[k]?:=fun k hk q=>hg.block k hk (by intro e;injection e with e;exact q e)
 have hdne:=zAu h.types h.d0;obtain⟨a1,a2⟩:=List.nodup_cons.1 h.apart;refine⟨w',hrun,⟨(World.cell?_of_block (a:=⟨d,0,none⟩) (hblk d h.ltd hdne)).trans h.d0,(World.cell?_of_block (a:=⟨d,1,none⟩) (hblk d h.ltd hdne)).trans h.d1,fun i=>(hturn.frozen _).trans (h.frz i),hL,fun x hx=>?_,?_,h.newd,h.newt,fun x hx=>?_⟩,hturn⟩
 ·unfold swapT at hx;obtain⟨y,hy,rfl⟩:=List.mem_map.1 hx;split
  ·exact hb.of_block (hblk b hb.lt hbt)
  ·exact (h.each y hy).of_block (hblk _ (h.each y hy).lt (fun q=>a1 (q ▸ List.mem_map_of_mem (f:=fun t:Ty=>t.2.1) hy)))
 ·have key:∀(T:List Ty),(∀t∈T,t.2.1≠b)->(T.Pairwise fun a b=>a.1≠b.1)->(T.map fun t=>t.2.1).Nodup->((swapT T u b l).map fun t=>t.2.1).Nodup/\∀z∈(swapT T u b l).map (fun t=>t.2.1),z=b\/z∈T.map (fun t=>t.2.1):=by
   intro T
   induction T with
   | nil=>intro _ _ _;simp[swapT]
   | cons x T ih=>
    intro hn hp hd;obtain⟨p1,p2⟩:=List.pairwise_cons.1 hp;rw[List.map_cons] at hd;obtain⟨d1,d2⟩:=List.nodup_cons.1 hd;obtain⟨i1,i2⟩:=ih (fun t ht=>hn t (by simp[ht])) p2 d2;have hsw:swapT (x::T) u b l=(if x.1=u then (x.1,b,l) else x)::swapT T u b l:=rfl;rw[hsw,List.map_cons];constructor
    ·refine List.nodup_cons.2 ⟨fun hm=>?_,i1⟩;by_cases hx:x.1=u
     ·rw [if_pos hx] at hm;have hself:swapT T u b l=T:=by
       unfold swapT;refine (List.map_congr_left (g:=id) fun t ht=>?_).trans (List.map_id T);rw[if_neg fun q=>p1 t ht (hx.trans q.symm)];rfl
      rw[hself] at hm;obtain⟨t,ht,e⟩:=List.mem_map.1 hm;exact hn t (by simp[ht]) e
     ·rw [if_neg hx] at hm;rcases i2 _ hm with e | e
      ·exact hn x (by simp) e
      ·exact d1 e
    ·intro z hz;rcases List.mem_cons.1 hz with rfl | hz
     ·split
      ·exact .inl rfl
      ·exact .inr (by simp)
     ·rcases i2 z hz with e | e
      ·exact .inl e
      ·exact .inr (List.mem_cons_of_mem _ e)
  obtain⟨k1,k2⟩:=key T hnew h.nd a2;refine List.nodup_cons.2 ⟨fun q=>?_,k1⟩;rcases k2 _ q with e | e
  ·exact hbt e.symm
  ·exact a1 e
 ·unfold swapT at hx;obtain⟨y,hy,rfl⟩:=List.mem_map.1 hx;split
  ·exact hB
  ·exact h.newe y hy
open Classical in
noncomputable def incL (L:List EA) (t:List UInt8) (x:Int) (vs:List (List UInt8)):List EA × Int:=
 if ¬(x=3\/x=4)\/vs.length≠1 then ([],19) else if pickE L t=[] then ([],16)
 else if ∃v∈pickE L t,¬∃s,RaiseR x v (vs.headD []) s then ([],19) else (setE L t ((pickE L t).map fun v=>sumV x v (vs.headD [])),0)
theorem DraftP.swap {T:List Ty} {nx:Nat} {L:List EA} (h:DraftP T nx L) {t u:List UInt8} {x:Int} (hx:(typ t).2=x) (b:Nat) (hf:(findT T t).isSome=true) (hall:∀y∈heldT T t,∃s,RaiseR x y.2.1 u s):
  DraftP (swapT T t b ((heldT T t).map (incH x u))) nx (setE L t ((pickE L t).map fun v=>sumV x v u)):=by
 have hh:∀z,heldT (swapT T t b ((heldT T t).map (incH x u))) z=if z=t then (heldT T t).map (incH x u) else heldT T z:=fun z=>zRh T t z b _ hf
 refine⟨fun z y hy=>?_,fun z=>?_,fun z y hy=>?_,fun z=>?_,zD7 h.rise _ _,zEk h.full _ _⟩
 ·rw [hh] at hy;split at hy
  ·rename_i e;subst e;obtain⟨y0,hy0,rfl⟩:=List.mem_map.1 hy;exact zCs hx (zEp (hall y0 hy0))
  ·exact h.norm z y hy
 ·rw [hh];split
  ·rw [List.pairwise_map];exact h.place t
  ·exact h.place z
 ·rw [hh] at hy;split at hy
  ·obtain ⟨y0,hy0,rfl⟩:=List.mem_map.1 hy;exact h.lt t y0 hy0
  ·exact h.lt z y hy
 ·rw [hh,zA5];split
  ·rw [h.pick,List.map_map,List.map_map];rfl
  ·exact h.pick z
theorem dinc_syn {B d nx:Nat} {L:List EA} (w:World) (h:Draft w B d nx L) (t:List UInt8) (x:Int) (F:Option Addr) (n c:Nat) (hx:¬(x=3\/x=4)):
  Calls Tryz.prog 72 #[.pointer (some ⟨d,0,none⟩),.string (txt t),.int .i64 x,.slice F n c] w (TurnPost w B d nx [] 19):=by
 have h3:(x !=3)=true:=by simp;omega
 have h4:(x !=4)=true:=by simp;omega
 clear h hx;generalize txt t=TN at *;go_enter Tryz.func72,Tryz.ntmps72;go_wp2;go_ret;exact⟨rfl,Below.refl _ _,.refl _ _,fun q=>absurd q (by decide)⟩
theorem zTd {B d nx:Nat} {L:List EA} (w:World) (h:Draft w B d nx L) (t:List UInt8) (F:Option Addr) (n c:Nat) (hn:n≠1):
  Calls Tryz.prog 72 #[.pointer (some ⟨d,0,none⟩),.string (txt t),.int .i64 3,.slice F n c] w (TurnPost w B d nx [] 19):=by
 have h1:((n:Int)!=1)=true:=by simp;omega
 clear h hn;generalize txt t=TN at *;go_enter Tryz.func72,Tryz.ntmps72;go_wp2;go_ret;exact⟨rfl,Below.refl _ _,.refl _ _,fun q=>absurd q (by decide)⟩
theorem zPz {B d nx:Nat} {L:List EA} (w:World) (h:Draft w B d nx L) (t:List UInt8) (F:Option Addr) (c:Nat) (ht:t.length<=1000000) (h0:pickE L t=[]):
  Calls Tryz.prog 72 #[.pointer (some ⟨d,0,none⟩),.string (txt t),.int .i64 3,.slice F 1 c] w (TurnPost w B d nx [] 16):=by
 have hB:B<=w.heap.size:=by obtain⟨bt,T,hM,_⟩:=h.out;exact Nat.le_trans hM.newd (Nat.le_of_lt hM.ltd)
 have hH:=zB0 w h t ht;have hd0:decide (pickE L t≠[])=false:=by simp[h0]
 rw[hd0] at hH;have HH:=hide hH;have HBw:=hide hB;clear hH h hd0 h0 ht hB;generalize txt t=TN at *;go_enter Tryz.func72,Tryz.ntmps72;go_wp2_with (go_at_call 59;fail);refine HH.out.mono ?_;rintro e w1 ⟨rfl,hb1⟩;have HB1:=hide hb1;clear hb1 HH;go_wp2;go_ret;exact⟨rfl,HB1.out.mono HBw.out,.below HB1.out,fun q=>absurd q (by decide)⟩
theorem zTq {B d nx:Nat} {L:List EA} (w:World) (h:Draft w B d nx L) (t:List UInt8) (F:Option Addr) (n c:Nat) (hn:n≠1):
  Calls Tryz.prog 72 #[.pointer (some ⟨d,0,none⟩),.string (txt t),.int .i64 4,.slice F n c] w (TurnPost w B d nx [] 19):=by
 have h1:((n:Int)!=1)=true:=by simp;omega
 clear h hn;generalize txt t=TN at *;go_enter Tryz.func72,Tryz.ntmps72;go_wp2;go_ret;exact⟨rfl,Below.refl _ _,.refl _ _,fun q=>absurd q (by decide)⟩
theorem zQm {B d nx:Nat} {L:List EA} (w:World) (h:Draft w B d nx L) (t:List UInt8) (F:Option Addr) (c:Nat) (ht:t.length<=1000000) (h0:pickE L t=[]):
  Calls Tryz.prog 72 #[.pointer (some ⟨d,0,none⟩),.string (txt t),.int .i64 4,.slice F 1 c] w (TurnPost w B d nx [] 16):=by
 have hB:B<=w.heap.size:=by obtain⟨bt,T,hM,_⟩:=h.out;exact Nat.le_trans hM.newd (Nat.le_of_lt hM.ltd)
 have hH:=zB0 w h t ht;have hd0:decide (pickE L t≠[])=false:=by simp[h0]
 rw[hd0] at hH;have HH:=hide hH;have HBw:=hide hB;clear hH h hd0 h0 ht hB;generalize txt t=TN at *;go_enter Tryz.func72,Tryz.ntmps72;go_wp2_with (go_at_call 59;fail);refine HH.out.mono ?_;rintro e w1 ⟨rfl,hb1⟩;have HB1:=hide hb1;clear hb1 HH;go_wp2;go_ret;exact⟨rfl,HB1.out.mono HBw.out,.below HB1.out,fun q=>absurd q (by decide)⟩
theorem zR9 {B d bt nx:Nat} {T:List Ty} {L:List EA} (w:World) (h:DraftM w B d bt nx T) (hP:DraftP T nx L) (t u:List UInt8) (hx:(typ t).2=3) (y:Ty) (hy:findT T t=some y) (F:Option Addr) (c g o:Nat) (hF:F=some ⟨g,o,none⟩) (hgd:g≠d) (fu:w.cell? ⟨g,o+1,none⟩=some (.string (txt u)))
  (hu:(valV t u).2=0) (hhas:decide (pickE L t≠[])=true) (hD:Draft w B d nx L)
  (ht:t.length<=1000000) (hlen:T.length<=1000000000) (hyl:y.2.2.length<=1000000000) (hT:TM w):
  Calls Tryz.prog 72 #[.pointer (some ⟨d,0,none⟩),.string (txt t),.int .i64 3,.slice F 1 c] w fun e w'=>Hid (
   ((∃z∈y.2.2,¬∃s,RaiseR 3 z.2.1 u s)->e=.returned (.int .i64 19)/\Below B w w'/\KeptC d w w')/\
   ((¬∃z∈y.2.2,¬∃s,RaiseR 3 z.2.1 u s)->e=.returned (.int .i64 0)/\Below B w w'/\KeptC d w w'/\∃b,DraftM w' B d bt nx (swapT T t b (y.2.2.map (incH 3 u))))):=by
 have hB:B<=w.heap.size:=Nat.le_trans h.newd (Nat.le_of_lt h.ltd);have hH:=zB0 w hD t ht;rw[hhas] at hH;obtain⟨hym,hyu⟩:=zAk hy;have hnorm:∀z∈y.2.2,valV t z.2.1=(z.1,0):=by intro z hz;refine hP.norm t z ?_;rw[zE7 hy];exact hz
 have hsame:∀z∈y.2.2,z.1=z.2.1:=by intro z hz;have h1:=hnorm z hz;obtain⟨h2,_⟩:=zCr (t:=t) (v:=z.2.1) (x:=3) hx (by omega) (by rw[h1]);rw[h1] at h2;exact (Prod.mk.inj h2).1
 have hpl:∀z∈y.2.2,∀w:World,TT w->Calls Tryz.prog 96 #[.string (txt t),.int .i64 3,.string (txt z.1),.string (txt u)] w (PlusPost 3 z.2.1 u w):=by intro z hz w hT;have h1:=zOz t z.2.1 u 3 hx (by omega) (by rw[hnorm z hz]) hu ht w hT;rw[<-hsame z hz] at h1;rw[<-hsame z hz];exact h1
 have hznd:y.2.2.Pairwise fun a b=>a.1≠b.1:=by have:=(h.each y hym).nd;rw[List.pairwise_map] at this;exact this
 have HH:=hide hH;have HM:=hide h;have HBw:=hide hB;have Ht:=hide ht;have Hy:=hide hy;have HT:=hide hT;have Hpl:=hide hpl;have Hnd:=hide hznd;have Hsame:=hide hsame;have Hlen:=hide hlen;have Hyl:=hide hyl;have Hfu:=hide fu;have Hgd:=hide hgd;have Hx:=hide hx;subst hF;clear hH h hB ht hy hT hpl hznd hsame hlen hyl fu hgd hnorm hhas hD hP hu hx;obtain⟨TN,hTN⟩:∃TN,txt t=TN:=⟨_,rfl⟩;obtain⟨UN,hUN⟩:∃UN,txt u=UN:=⟨_,rfl⟩;have HTN:=hide hTN;rw[hTN] at HH Hpl;rw[hUN] at Hpl Hfu;rw[hTN];clear hTN hUN;go_enter Tryz.func72,Tryz.ntmps72;go_wp2_with (go_at_call 59;fail);refine HH.out.mono ?_;rintro e w1 ⟨rfl,hb1⟩;have HM1:=hide (HM.out.grow hb1);have HB1:=hide hb1;clear hb1 HH HM;have p0:=HM1.out.d0;have hma:mapAt T t=.map (some y.2.1):=by unfold mapAt;rw[Hy.out];rfl
 have p2:=HM1.out.at (u:=t) Ht.out;rw[hma,HTN.out] at p2;have pl:=(HM1.out.each y (zAk Hy.out).1).len Tryz.underlying95;rw[List.length_map] at pl;have pm:=zL4 w1 y.2.2.length;go_upto_region 6 with fail;have hb2:Below w1.heap.size w1 (w1.alloc (.map #[] 0)):=(Below.refl _ _).alloc (Nat.le_refl _) _;have HM2:=hide (HM1.out.grow hb2);have hs2:(w1.alloc (.map #[] 0)).heap.size=w1.heap.size+1:=by simp
 have hmade:=MapL.made w1 Tryz.prog 9;obtain⟨w3,hrange,hR,hg3,hs3⟩:=(HM2.out.each y (zAk Hy.out).1).range Tryz.underlying9 Tryz.underlying95;clear p0 p2 pl pm;have p0:=HM2.out.d0;have p2:=HM2.out.at (u:=t) Ht.out;rw[hma,HTN.out] at p2;obtain⟨bs,hbs⟩:∃bs,w1.heap.size=bs:=⟨_,rfl⟩;have hb3:Below w1.heap.size w1 w3:=hb2.grown hg3 hb2.size (fun k e=>by cases e);have hybs:y.2.1<bs:=by rw[<-hbs];exact (HM1.out.each y (zAk Hy.out).1).lt
 obtain⟨rb,hrb⟩:∃rb,(w1.alloc (.map #[] 0)).heap.size=rb:=⟨_,rfl⟩;have hrs:rb=bs+1:=by rw[<-hrb,hs2,hbs]
 rw[hbs] at hmade;rw[hrb] at hR hrange;(try rw[hbs]);have Hbs:=hide (And.intro hbs (And.intro hrs hybs));have HM3:=hide (HM1.out.grow hb3);have HB3:=hTz HB1 hb3;have HR:=hide hR;have HS3:=hide (hmade.kept hg3 (by simp));have Hb3:=hide hb3;clear hbs hrb hrs hmade hR hg3 hs3 hb2 hb3 HM2 hs2 hybs;go_wp2
 go_loopg [44] y.2.2.length (fun r s44 wx=>∃(todo done:List Hd),todo.length=r/\Hid (MapR wx Tryz.prog 9 y.2.1 rb (y.2.2.map heldP) (todo.map heldP))/\Hid (MapL wx Tryz.prog 9 bs ((done.map (incH 3 u)).map heldP))/\Hid (Below w1.heap.size w1 wx)/\Hid ((done++todo).Perm y.2.2/\∀z∈done,∃s,RaiseR 3 z.2.1 u s))
 case atStart=>exact⟨y.2.2,[],rfl,HR,HS3,Hb3,hide ⟨by simp,fun z hz=>by simp at hz⟩⟩
 case round=>
  obtain⟨todo,done,htl,hRr,hSr,hbr,hpd⟩:=hrel;clear hrange p0 p2 HR HS3 Hb3 HM3 HB3;rcases hRr.out.next Tryz.underlying9 0 with⟨hnil,hnx⟩ | ⟨p,hp,w4,hnx,hR4,hg4,hs4,hen⟩
  ·have htodo:todo=[]:=List.map_eq_nil_iff.1 hnil;subst htodo;have hperm:done.Perm y.2.2:=by have:=hpd.out.1;rwa [List.append_nil] at this
   have hallz:∀z∈y.2.2,∃s,RaiseR 3 z.2.1 u s:=fun z hz=>hpd.out.2 z (hperm.mem_iff.2 hz)
   have hMr:=HM1.out.grow hbr.out;have hSb:MapL wr Tryz.prog 9 bs ((y.2.2.map (incH 3 u)).map heldP):=hSr.out.perm ((hperm.map _).map _);have hbt:bs≠bt:=by have:=HM1.out.types.lt;have:=Hbs.out.1;omega
   have hB1:B<=bs:=by rw[<-Hbs.out.1];exact Nat.le_trans HBw.out HB1.out.size
   have hnewb:∀z∈T,z.2.1≠bs:=fun z hz q=>by have:=(HM1.out.each z hz).lt;have:=Hbs.out.1;omega
   obtain⟨w5,hrun,hM5,hturn⟩:=hMr.swap (u:=t) (by rw[Hy.out];rfl) (long_max Ht.out) (by have:=Hlen.out;unfold maxLen;omega) hSb hB1 hbt hnewb Tryz.underlying9 Tryz.underlying85;rw[HTN.out] at hrun;have p0:=hMr.d0;have HK5:=hide ((KeptC.below (d:=d) (HB1.out.trans (hbr.out.mono HB1.out.size))).trans (KeptC.grown hturn.grown hMr.types));have HB5:=hide (((HB1.out.trans (hbr.out.mono HB1.out.size)).mono HBw.out).trans (zA1 hturn hMr.newt hMr.types.lt));have HM5:=hide hM5;have Hall:=hide hallz;clear hM5 hturn hMr hSb hbt hB1 hnewb hallz hperm hRr hSr hbr hpd hnil;go_wp2;go_ret;exact hide ⟨fun ⟨z,hz,hq⟩=>absurd (Hall.out z hz) hq,fun _=>⟨rfl,HB5.out,HK5.out,bs,HM5.out⟩⟩
  ·obtain ⟨z,hzt,hpz⟩:=List.mem_map.1 hp;subst hpz;have hzm:z∈y.2.2:=hpd.out.1.mem_iff.1 (List.mem_append_right _ hzt);have hcnt:=hRr.out.rest hp;rw[List.length_map] at hcnt;have hfil:(todo.map heldP).filter (fun q=>decide (q.1≠(heldP z).1))=(todo.filter fun q=>decide (q.1≠z.1)).map heldP:=by
    rw[List.filter_map];rfl
   rw[hfil] at hR4 hcnt;rw[List.length_map] at hcnt;have hb4:Below w1.heap.size w1 w4:=hbr.out.grown hg4 hbr.out.size (fun k e=>by injection e with e;have:=Hbs.out.1;have:=Hbs.out.2.1;omega);have hS4:=hSr.out.kept hg4 (by intro q;injection q with q;have:=Hbs.out.2.1;omega);have hMz:heldP z=(z.1,.agg #[.string (txt z.2.1),.int .i64 (z.2.2:Int)]):=rfl;rw[hMz] at hnx hen;simp only at hnx hen;have hba:=below1 w4 (.cells #[.string (txt z.2.1),.int .i64 (z.2.2:Int)] 119);have hbb:Below w1.heap.size w1 (w4.alloc (.cells #[.string (txt z.2.1),.int .i64 (z.2.2:Int)] 119)):=hb4.trans (hba.mono hb4.size);have hfc:=(hbb.cell (p:=⟨g,o+1,none⟩) (Nat.lt_of_lt_of_le (zBr Hfu.out) HB1.out.size)).trans ((HB1.out.cell (p:=⟨g,o+1,none⟩) (zBr Hfu.out)).trans Hfu.out);have hc1:(w4.alloc (.cells #[.string (txt z.2.1),.int .i64 (z.2.2:Int)] 119)).cell? ⟨w4.heap.size,1,none⟩=some (.int .i64 (z.2.2:Int)):=by
    rw[World.cell?_alloc_at (hn:=by simp)];rfl
   have HPL:=hide (Hpl.out z hzm _ (HT.out.below (HB1.out.trans (hbb.mono HB1.out.size))).tt);have HR4:=hide hR4;have HS4:=hide hS4;have HB4:=hide hb4;have Hba:=hide hba;have Hz:=hide (And.intro hzt hzm);have Hcnt:=hide hcnt;have Htl:=hide htl;obtain⟨pl,hpl⟩:∃pl,z.2.2=pl:=⟨_,rfl⟩;rw[hpl] at hnx hen hfc hc1 HPL Hba;have Hplc:=hide hpl;obtain⟨ZV,hZV⟩:∃ZV,txt z.2.1=ZV:=⟨_,rfl⟩;rw[hZV] at hnx hen hfc hc1 HPL Hba;obtain⟨ZN,hZN⟩:∃ZN,txt z.1=ZN:=⟨_,rfl⟩;rw[hZN] at hnx hen HPL;clear hZV hZN hpl hR4 hS4 hb4 hba hbb hg4 hs4 hRr hSr hbr hcnt htl hzt hzm hp hfil hMz;have hcell:w4.heap.size<(w4.alloc (.cells #[.string ZV,.int .i64 (pl:Int)] 119)).heap.size:=by simp
   have Hcell:=hide (And.intro hcell hc1);clear hcell hc1;by_cases hs:∃s,RaiseR 3 z.2.1 u s
   ·obtain ⟨s,hs⟩:=hs;cases gk with
    | zero=>
     exfalso;have:=Htl.out;have h2:=Hcnt.out;omega
    | succ r=>
     have Hs:=hide hs;clear hs;go_wp2_with (go_at_call 96;fail);refine HPL.out.mono ?_;rintro e w5 hq;obtain rfl:=hq.yes s Hs.out;have hb5:=hq.below;have hS5:=HS4.out.below (Nat.lt_of_lt_of_le (by have:=Hbs.out.1;have:=HS4.out.lt;omega) (Nat.le_refl _)) (Hba.out.trans (hb5.mono Hba.out.size));have hR5:MapR w5 Tryz.prog 9 y.2.1 rb (y.2.2.map heldP) ((todo.filter fun q=>decide (q.1≠z.1)).map heldP):=
      HR4.out.kept (row:=none) (by have:=Hba.out.trans (hb5.mono Hba.out.size);exact⟨this.os,this.tape,this.output,this.size,fun k hk _=>this.block k hk⟩) (by simp) (by simp)
     have hc5:=(hb5.cell (p:=⟨w4.heap.size,1,none⟩) Hcell.out.1).trans Hcell.out.2;have hnone:lookP ((done.map (incH 3 u)).map heldP) s=none:=by
      rw[lookP_none];intro q hq2 e;obtain⟨q1,hq1,rfl⟩:=List.mem_map.1 hq2;obtain⟨q0,hq0,rfl⟩:=List.mem_map.1 hq1;have hr0:=zEp (hpd.out.2 q0 hq0);have e2:sumV 3 q0.2.1 u=s:=e;rw[e2] at hr0;have e3:q0.2.1=z.2.1:=zFa hr0 Hs.out;have hq0m:q0∈y.2.2:=hpd.out.1.mem_iff.1 (List.mem_append_left _ hq0);have e4:q0.1=z.1:=by rw[Hsame.out q0 hq0m,Hsame.out z Hz.out.2,e3]
      have hdt:(done++todo).Pairwise fun a b=>a.1≠b.1:=hpd.out.1.symm.pairwise Hnd.out (fun e=>e.symm)
      exact (List.pairwise_append.1 hdt).2.2 q0 hq0 z Hz.out.1 e4
     have hdl:done.length<=y.2.2.length:=(by have:=hpd.out.1.length_eq;rw[List.length_append] at this;omega);obtain⟨w6,hrun,hS6,hturn⟩:=hS5.store_new (s:=s) Tryz.underlying9 Tryz.underlying95 (long_max (by have h1:=(zCr Hx.out (by omega) (by rw[zCs Hx.out Hs.out])).2.2;omega)) (by rw[List.length_map,List.length_map];have:=Hyl.out;unfold maxLen;omega) hnone (.agg #[.string (txt s),.int .i64 (pl:Int)]);have hS6':MapL w6 Tryz.prog 9 bs (((done++[z]).map (incH 3 u)).map heldP):=by
      have e:((done++[z]).map (incH 3 u)).map heldP=(done.map (incH 3 u)).map heldP++[(s,.agg #[.string (txt s),.int .i64 (pl:Int)])]:=(by simp only[List.map_append,List.map_cons,List.map_nil];congr 1;unfold incH heldP;simp only[zPh Hs.out,Hplc.out]);rw[e];exact hS6
     have HR6:=hide (hR5.kept hturn.grown (by intro q;injection q with q;have:=Hbs.out.2.2;omega) (by intro q;injection q with q;have:=Hbs.out.2.1;omega));have hb45:=Hba.out.trans (hb5.mono Hba.out.size);have HB6:=hide ((HB4.out.trans (hb45.mono HB4.out.size)).trans (zA1 hturn (by have:=Hbs.out.1;omega) hS5.lt));have HS6:=hide hS6';have HP6:Hid (((done++[z])++todo.filter fun q=>decide (q.1≠z.1)).Perm y.2.2/\∀q∈done++[z],∃s,RaiseR 3 q.2.1 u s):=hide (by
      refine⟨?_,fun q hq=>?_⟩
      ·have hdt:(done++todo).Pairwise fun a b=>a.1≠b.1:=hpd.out.1.symm.pairwise Hnd.out (fun e=>e.symm)
       have h1:=zJ1 (List.pairwise_append.1 hdt).2.1 Hz.out.1
       have h2:(done++(z::todo.filter fun q=>decide (q.1≠z.1))).Perm y.2.2:=((List.Perm.refl done).append h1.symm).trans hpd.out.1
       rw[List.append_assoc]
       exact h2
      ·rcases List.mem_append.1 hq with hq | hq
       ·exact hpd.out.2 q hq
       ·simp only[List.mem_singleton] at hq
        rw[hq]
        exact⟨s,Hs.out⟩)
     obtain⟨SS,hSS⟩:∃SS,txt s=SS:=⟨_,rfl⟩;rw[hSS] at hrun ⊢;clear hSS hq hb5 hS5 hR5 hnone hdl hS6 hS6' hturn hb45 hpd HPL;go_wp2
     go_roundg r
     case measure=>omega
     case rel=>exact⟨_,_,by have:=Htl.out;have:=Hcnt.out;omega,HR6,HS6,HB6,HP6⟩
   ·have Hs:=hide hs;clear hs;go_wp2_with (go_at_call 96;fail);refine HPL.out.mono ?_;rintro e w5 hq;obtain⟨zz,rfl⟩:=hq.no Hs.out;have HB5:=hide (HB1.out.trans (((HB4.out.trans (Hba.out.mono HB4.out.size)).trans (hq.below.mono (Nat.le_trans HB4.out.size Hba.out.size))).mono HB1.out.size));clear hq HPL;go_wp2;go_ret;exact hide ⟨fun _=>⟨rfl,HB5.out.mono HBw.out,.below HB5.out⟩,fun q=>absurd ⟨z,Hz.out.2,Hs.out⟩ q⟩
theorem zTt {B d bt nx:Nat} {T:List Ty} {L:List EA} (w:World) (h:DraftM w B d bt nx T) (hP:DraftP T nx L) (t u:List UInt8) (hx:(typ t).2=4) (y:Ty) (hy:findT T t=some y) (F:Option Addr) (c g o:Nat) (hF:F=some ⟨g,o,none⟩) (hgd:g≠d) (fu:w.cell? ⟨g,o+1,none⟩=some (.string (txt u)))
  (hu:(valV t u).2=0) (hhas:decide (pickE L t≠[])=true) (hD:Draft w B d nx L)
  (ht:t.length<=1000000) (hlen:T.length<=1000000000) (hyl:y.2.2.length<=1000000000) (hT:TM w):
  Calls Tryz.prog 72 #[.pointer (some ⟨d,0,none⟩),.string (txt t),.int .i64 4,.slice F 1 c] w fun e w'=>Hid (
   ((∃z∈y.2.2,¬∃s,RaiseR 4 z.2.1 u s)->e=.returned (.int .i64 19)/\Below B w w'/\KeptC d w w')/\
   ((¬∃z∈y.2.2,¬∃s,RaiseR 4 z.2.1 u s)->e=.returned (.int .i64 0)/\Below B w w'/\KeptC d w w'/\∃b,DraftM w' B d bt nx (swapT T t b (y.2.2.map (incH 4 u))))):=by
 have hB:B<=w.heap.size:=Nat.le_trans h.newd (Nat.le_of_lt h.ltd);have hH:=zB0 w hD t ht;rw[hhas] at hH;obtain⟨hym,hyu⟩:=zAk hy;have hnorm:∀z∈y.2.2,valV t z.2.1=(z.1,0):=by intro z hz;refine hP.norm t z ?_;rw[zE7 hy];exact hz
 have hsame:∀z∈y.2.2,z.1=z.2.1:=by intro z hz;have h1:=hnorm z hz;obtain⟨h2,_⟩:=zCr (t:=t) (v:=z.2.1) (x:=4) hx (by omega) (by rw[h1]);rw[h1] at h2;exact (Prod.mk.inj h2).1
 have hpl:∀z∈y.2.2,∀w:World,TT w->Calls Tryz.prog 96 #[.string (txt t),.int .i64 4,.string (txt z.1),.string (txt u)] w (PlusPost 4 z.2.1 u w):=by intro z hz w hT;have h1:=zOz t z.2.1 u 4 hx (by omega) (by rw[hnorm z hz]) hu ht w hT;rw[<-hsame z hz] at h1;rw[<-hsame z hz];exact h1
 have hznd:y.2.2.Pairwise fun a b=>a.1≠b.1:=by have:=(h.each y hym).nd;rw[List.pairwise_map] at this;exact this
 have HH:=hide hH;have HM:=hide h;have HBw:=hide hB;have Ht:=hide ht;have Hy:=hide hy;have HT:=hide hT;have Hpl:=hide hpl;have Hnd:=hide hznd;have Hsame:=hide hsame;have Hlen:=hide hlen;have Hyl:=hide hyl;have Hfu:=hide fu;have Hgd:=hide hgd;have Hx:=hide hx;subst hF;clear hH h hB ht hy hT hpl hznd hsame hlen hyl fu hgd hnorm hhas hD hP hu hx;obtain⟨TN,hTN⟩:∃TN,txt t=TN:=⟨_,rfl⟩;obtain⟨UN,hUN⟩:∃UN,txt u=UN:=⟨_,rfl⟩;have HTN:=hide hTN;rw[hTN] at HH Hpl;rw[hUN] at Hpl Hfu;rw[hTN];clear hTN hUN;go_enter Tryz.func72,Tryz.ntmps72;go_wp2_with (go_at_call 59;fail);refine HH.out.mono ?_;rintro e w1 ⟨rfl,hb1⟩;have HM1:=hide (HM.out.grow hb1);have HB1:=hide hb1;clear hb1 HH HM;have p0:=HM1.out.d0;have hma:mapAt T t=.map (some y.2.1):=by unfold mapAt;rw[Hy.out];rfl
 have p2:=HM1.out.at (u:=t) Ht.out;rw[hma,HTN.out] at p2;have pl:=(HM1.out.each y (zAk Hy.out).1).len Tryz.underlying95;rw[List.length_map] at pl;have pm:=zL4 w1 y.2.2.length;go_upto_region 6 with fail;have hb2:Below w1.heap.size w1 (w1.alloc (.map #[] 0)):=(Below.refl _ _).alloc (Nat.le_refl _) _;have HM2:=hide (HM1.out.grow hb2);have hs2:(w1.alloc (.map #[] 0)).heap.size=w1.heap.size+1:=by simp
 have hmade:=MapL.made w1 Tryz.prog 9;obtain⟨w3,hrange,hR,hg3,hs3⟩:=(HM2.out.each y (zAk Hy.out).1).range Tryz.underlying9 Tryz.underlying95;clear p0 p2 pl pm;have p0:=HM2.out.d0;have p2:=HM2.out.at (u:=t) Ht.out;rw[hma,HTN.out] at p2;obtain⟨bs,hbs⟩:∃bs,w1.heap.size=bs:=⟨_,rfl⟩;have hb3:Below w1.heap.size w1 w3:=hb2.grown hg3 hb2.size (fun k e=>by cases e);have hybs:y.2.1<bs:=by rw[<-hbs];exact (HM1.out.each y (zAk Hy.out).1).lt
 obtain⟨rb,hrb⟩:∃rb,(w1.alloc (.map #[] 0)).heap.size=rb:=⟨_,rfl⟩;have hrs:rb=bs+1:=by rw[<-hrb,hs2,hbs]
 rw[hbs] at hmade;rw[hrb] at hR hrange;(try rw[hbs]);have Hbs:=hide (And.intro hbs (And.intro hrs hybs));have HM3:=hide (HM1.out.grow hb3);have HB3:=hTz HB1 hb3;have HR:=hide hR;have HS3:=hide (hmade.kept hg3 (by simp));have Hb3:=hide hb3;clear hbs hrb hrs hmade hR hg3 hs3 hb2 hb3 HM2 hs2 hybs;go_wp2
 go_loopg [44] y.2.2.length (fun r s44 wx=>∃(todo done:List Hd),todo.length=r/\Hid (MapR wx Tryz.prog 9 y.2.1 rb (y.2.2.map heldP) (todo.map heldP))/\Hid (MapL wx Tryz.prog 9 bs ((done.map (incH 4 u)).map heldP))/\Hid (Below w1.heap.size w1 wx)/\Hid ((done++todo).Perm y.2.2/\∀z∈done,∃s,RaiseR 4 z.2.1 u s))
 case atStart=>exact⟨y.2.2,[],rfl,HR,HS3,Hb3,hide ⟨by simp,fun z hz=>by simp at hz⟩⟩
 case round=>
  obtain⟨todo,done,htl,hRr,hSr,hbr,hpd⟩:=hrel;clear hrange p0 p2 HR HS3 Hb3 HM3 HB3;rcases hRr.out.next Tryz.underlying9 0 with⟨hnil,hnx⟩ | ⟨p,hp,w4,hnx,hR4,hg4,hs4,hen⟩
  ·have htodo:todo=[]:=List.map_eq_nil_iff.1 hnil;subst htodo;have hperm:done.Perm y.2.2:=by have:=hpd.out.1;rwa [List.append_nil] at this
   have hallz:∀z∈y.2.2,∃s,RaiseR 4 z.2.1 u s:=fun z hz=>hpd.out.2 z (hperm.mem_iff.2 hz)
   have hMr:=HM1.out.grow hbr.out;have hSb:MapL wr Tryz.prog 9 bs ((y.2.2.map (incH 4 u)).map heldP):=hSr.out.perm ((hperm.map _).map _);have hbt:bs≠bt:=by have:=HM1.out.types.lt;have:=Hbs.out.1;omega
   have hB1:B<=bs:=by rw[<-Hbs.out.1];exact Nat.le_trans HBw.out HB1.out.size
   have hnewb:∀z∈T,z.2.1≠bs:=fun z hz q=>by have:=(HM1.out.each z hz).lt;have:=Hbs.out.1;omega
   obtain⟨w5,hrun,hM5,hturn⟩:=hMr.swap (u:=t) (by rw[Hy.out];rfl) (long_max Ht.out) (by have:=Hlen.out;unfold maxLen;omega) hSb hB1 hbt hnewb Tryz.underlying9 Tryz.underlying85;rw[HTN.out] at hrun;have p0:=hMr.d0;have HK5:=hide ((KeptC.below (d:=d) (HB1.out.trans (hbr.out.mono HB1.out.size))).trans (KeptC.grown hturn.grown hMr.types));have HB5:=hide (((HB1.out.trans (hbr.out.mono HB1.out.size)).mono HBw.out).trans (zA1 hturn hMr.newt hMr.types.lt));have HM5:=hide hM5;have Hall:=hide hallz;clear hM5 hturn hMr hSb hbt hB1 hnewb hallz hperm hRr hSr hbr hpd hnil;go_wp2;go_ret;exact hide ⟨fun ⟨z,hz,hq⟩=>absurd (Hall.out z hz) hq,fun _=>⟨rfl,HB5.out,HK5.out,bs,HM5.out⟩⟩
  ·obtain ⟨z,hzt,hpz⟩:=List.mem_map.1 hp;subst hpz;have hzm:z∈y.2.2:=hpd.out.1.mem_iff.1 (List.mem_append_right _ hzt);have hcnt:=hRr.out.rest hp;rw[List.length_map] at hcnt;have hfil:(todo.map heldP).filter (fun q=>decide (q.1≠(heldP z).1))=(todo.filter fun q=>decide (q.1≠z.1)).map heldP:=by
    rw[List.filter_map];rfl
   rw[hfil] at hR4 hcnt;rw[List.length_map] at hcnt;have hb4:Below w1.heap.size w1 w4:=hbr.out.grown hg4 hbr.out.size (fun k e=>by injection e with e;have:=Hbs.out.1;have:=Hbs.out.2.1;omega);have hS4:=hSr.out.kept hg4 (by intro q;injection q with q;have:=Hbs.out.2.1;omega);have hMz:heldP z=(z.1,.agg #[.string (txt z.2.1),.int .i64 (z.2.2:Int)]):=rfl;rw[hMz] at hnx hen;simp only at hnx hen;have hba:=below1 w4 (.cells #[.string (txt z.2.1),.int .i64 (z.2.2:Int)] 119);have hbb:Below w1.heap.size w1 (w4.alloc (.cells #[.string (txt z.2.1),.int .i64 (z.2.2:Int)] 119)):=hb4.trans (hba.mono hb4.size);have hfc:=(hbb.cell (p:=⟨g,o+1,none⟩) (Nat.lt_of_lt_of_le (zBr Hfu.out) HB1.out.size)).trans ((HB1.out.cell (p:=⟨g,o+1,none⟩) (zBr Hfu.out)).trans Hfu.out);have hc1:(w4.alloc (.cells #[.string (txt z.2.1),.int .i64 (z.2.2:Int)] 119)).cell? ⟨w4.heap.size,1,none⟩=some (.int .i64 (z.2.2:Int)):=by
    rw[World.cell?_alloc_at (hn:=by simp)];rfl
   have HPL:=hide (Hpl.out z hzm _ (HT.out.below (HB1.out.trans (hbb.mono HB1.out.size))).tt);have HR4:=hide hR4;have HS4:=hide hS4;have HB4:=hide hb4;have Hba:=hide hba;have Hz:=hide (And.intro hzt hzm);have Hcnt:=hide hcnt;have Htl:=hide htl;obtain⟨pl,hpl⟩:∃pl,z.2.2=pl:=⟨_,rfl⟩;rw[hpl] at hnx hen hfc hc1 HPL Hba;have Hplc:=hide hpl;obtain⟨ZV,hZV⟩:∃ZV,txt z.2.1=ZV:=⟨_,rfl⟩;rw[hZV] at hnx hen hfc hc1 HPL Hba;obtain⟨ZN,hZN⟩:∃ZN,txt z.1=ZN:=⟨_,rfl⟩;rw[hZN] at hnx hen HPL;clear hZV hZN hpl hR4 hS4 hb4 hba hbb hg4 hs4 hRr hSr hbr hcnt htl hzt hzm hp hfil hMz;have hcell:w4.heap.size<(w4.alloc (.cells #[.string ZV,.int .i64 (pl:Int)] 119)).heap.size:=by simp
   have Hcell:=hide (And.intro hcell hc1);clear hcell hc1;by_cases hs:∃s,RaiseR 4 z.2.1 u s
   ·obtain ⟨s,hs⟩:=hs;cases gk with
    | zero=>
     exfalso;have:=Htl.out;have h2:=Hcnt.out;omega
    | succ r=>
     have Hs:=hide hs;clear hs;go_wp2_with (go_at_call 96;fail);refine HPL.out.mono ?_;rintro e w5 hq;obtain rfl:=hq.yes s Hs.out;have hb5:=hq.below;have hS5:=HS4.out.below (Nat.lt_of_lt_of_le (by have:=Hbs.out.1;have:=HS4.out.lt;omega) (Nat.le_refl _)) (Hba.out.trans (hb5.mono Hba.out.size));have hR5:MapR w5 Tryz.prog 9 y.2.1 rb (y.2.2.map heldP) ((todo.filter fun q=>decide (q.1≠z.1)).map heldP):=
      HR4.out.kept (row:=none) (by have:=Hba.out.trans (hb5.mono Hba.out.size);exact⟨this.os,this.tape,this.output,this.size,fun k hk _=>this.block k hk⟩) (by simp) (by simp)
     have hc5:=(hb5.cell (p:=⟨w4.heap.size,1,none⟩) Hcell.out.1).trans Hcell.out.2;have hnone:lookP ((done.map (incH 4 u)).map heldP) s=none:=by
      rw[lookP_none];intro q hq2 e;obtain⟨q1,hq1,rfl⟩:=List.mem_map.1 hq2;obtain⟨q0,hq0,rfl⟩:=List.mem_map.1 hq1;have hr0:=zEp (hpd.out.2 q0 hq0);have e2:sumV 4 q0.2.1 u=s:=e;rw[e2] at hr0;have e3:q0.2.1=z.2.1:=zFa hr0 Hs.out;have hq0m:q0∈y.2.2:=hpd.out.1.mem_iff.1 (List.mem_append_left _ hq0);have e4:q0.1=z.1:=by rw[Hsame.out q0 hq0m,Hsame.out z Hz.out.2,e3]
      have hdt:(done++todo).Pairwise fun a b=>a.1≠b.1:=hpd.out.1.symm.pairwise Hnd.out (fun e=>e.symm)
      exact (List.pairwise_append.1 hdt).2.2 q0 hq0 z Hz.out.1 e4
     have hdl:done.length<=y.2.2.length:=(by have:=hpd.out.1.length_eq;rw[List.length_append] at this;omega);obtain⟨w6,hrun,hS6,hturn⟩:=hS5.store_new (s:=s) Tryz.underlying9 Tryz.underlying95 (long_max (by have h1:=(zCr Hx.out (by omega) (by rw[zCs Hx.out Hs.out])).2.2;omega)) (by rw[List.length_map,List.length_map];have:=Hyl.out;unfold maxLen;omega) hnone (.agg #[.string (txt s),.int .i64 (pl:Int)]);have hS6':MapL w6 Tryz.prog 9 bs (((done++[z]).map (incH 4 u)).map heldP):=by
      have e:((done++[z]).map (incH 4 u)).map heldP=(done.map (incH 4 u)).map heldP++[(s,.agg #[.string (txt s),.int .i64 (pl:Int)])]:=(by simp only[List.map_append,List.map_cons,List.map_nil];congr 1;unfold incH heldP;simp only[zPh Hs.out,Hplc.out]);rw[e];exact hS6
     have HR6:=hide (hR5.kept hturn.grown (by intro q;injection q with q;have:=Hbs.out.2.2;omega) (by intro q;injection q with q;have:=Hbs.out.2.1;omega));have hb45:=Hba.out.trans (hb5.mono Hba.out.size);have HB6:=hide ((HB4.out.trans (hb45.mono HB4.out.size)).trans (zA1 hturn (by have:=Hbs.out.1;omega) hS5.lt));have HS6:=hide hS6';have HP6:Hid (((done++[z])++todo.filter fun q=>decide (q.1≠z.1)).Perm y.2.2/\∀q∈done++[z],∃s,RaiseR 4 q.2.1 u s):=hide (by
      refine⟨?_,fun q hq=>?_⟩
      ·have hdt:(done++todo).Pairwise fun a b=>a.1≠b.1:=hpd.out.1.symm.pairwise Hnd.out (fun e=>e.symm)
       have h1:=zJ1 (List.pairwise_append.1 hdt).2.1 Hz.out.1
       have h2:(done++(z::todo.filter fun q=>decide (q.1≠z.1))).Perm y.2.2:=((List.Perm.refl done).append h1.symm).trans hpd.out.1
       rw[List.append_assoc]
       exact h2
      ·rcases List.mem_append.1 hq with hq | hq
       ·exact hpd.out.2 q hq
       ·simp only[List.mem_singleton] at hq
        rw[hq]
        exact⟨s,Hs.out⟩)
     obtain⟨SS,hSS⟩:∃SS,txt s=SS:=⟨_,rfl⟩;rw[hSS] at hrun ⊢;clear hSS hq hb5 hS5 hR5 hnone hdl hS6 hS6' hturn hb45 hpd HPL;go_wp2
     go_roundg r
     case measure=>omega
     case rel=>exact⟨_,_,by have:=Htl.out;have:=Hcnt.out;omega,HR6,HS6,HB6,HP6⟩
   ·have Hs:=hide hs;clear hs;go_wp2_with (go_at_call 96;fail);refine HPL.out.mono ?_;rintro e w5 hq;obtain⟨zz,rfl⟩:=hq.no Hs.out;have HB5:=hide (HB1.out.trans (((HB4.out.trans (Hba.out.mono HB4.out.size)).trans (hq.below.mono (Nat.le_trans HB4.out.size Hba.out.size))).mono HB1.out.size));clear hq HPL;go_wp2;go_ret;exact hide ⟨fun _=>⟨rfl,HB5.out.mono HBw.out,.below HB5.out⟩,fun q=>absurd ⟨z,Hz.out.2,Hs.out⟩ q⟩
theorem dinc_any {B d nx:Nat} {L:List EA} (w:World) (h:Draft w B d nx L) (t:List UInt8) (vs:List (List UInt8)) (x:Int) (hx:(typ t).2=x) (F:Option Addr) (n c:Nat) (hF:FormsR w d F n (formsP t vs)) (hok:∀v∈vs,(valV t v).2=0)
  (ht:t.length<=1000000) (hnx:nx<=1000000000) (hT:TM w):
  Calls Tryz.prog 72 #[.pointer (some ⟨d,0,none⟩),.string (txt t),.int .i64 x,.slice F n c] w (TurnPost w B d nx (incL L t x vs).1 (incL L t x vs).2):=by
 have hn:n=vs.length:=by rw[hF.len,zB3]
 unfold incL;by_cases h34:x=3\/x=4
 ·by_cases hn1:vs.length=1
  ·rw [if_neg (by simp[h34,hn1])];obtain⟨u,rfl⟩:=List.length_eq_one_iff.1 hn1;obtain rfl:n=1:=hn;obtain⟨q,hq⟩:∃q,([u]:List (List UInt8)).headD []=q:=⟨_,rfl⟩;rw[hq];obtain rfl:u=q:=hq;by_cases h0:pickE L t=[]
   ·rw [if_pos h0];rcases h34 with rfl | rfl
    ·exact zPz w h t F c ht h0
    ·exact zQm w h t F c ht h0
   ·rw [if_neg h0];obtain⟨bt,T,hM,hP,hl,he⟩:=h.out;obtain⟨y,hy⟩:∃y,findT T t=some y:=by
     cases hf:findT T t with
     | some y=>exact⟨y,rfl⟩
     | none=>exact absurd (by rw[hP.pick];unfold heldT;rw[hf];rfl) h0
    have hym:=(zAk hy).1;have hu:(valV t u).2=0:=hok u (by simp);have hun:(valV t u).1=u:=by have:=(zCr hx h34 hu).1;rw[this]
    obtain⟨g,o,hFe,hgd,hrd⟩:=hF.lie (by simp[formsP]);have fu:=hrd.snd 0 (u,(valV t u).1) (by simp[formsP]);simp only[Nat.zero_mul,Nat.add_zero,hun] at fu;have hhas:decide (pickE L t≠[])=true:=by simp[h0]
    have hheld:heldT T t=y.2.2:=zE7 hy;have hiff:(∃v∈pickE L t,¬∃s,RaiseR x v u s)↔∃z∈y.2.2,¬∃s,RaiseR x z.2.1 u s:=by
     rw[hP.pick,hheld];constructor
     ·rintro ⟨v,hv,q⟩;obtain⟨z,hz,rfl⟩:=List.mem_map.1 hv;exact⟨z,hz,q⟩
     ·rintro ⟨z,hz,q⟩;exact⟨_,List.mem_map_of_mem (f:=fun h:Hd=>h.2.1) hz,q⟩
    have fin:Calls Tryz.prog 72 #[.pointer (some ⟨d,0,none⟩),.string (txt t),.int .i64 x,.slice F 1 c] w fun e w'=>Hid (
   ((∃z∈y.2.2,¬∃s,RaiseR x z.2.1 u s)->e=.returned (.int .i64 19)/\Below B w w'/\KeptC d w w')/\
   ((¬∃z∈y.2.2,¬∃s,RaiseR x z.2.1 u s)->e=.returned (.int .i64 0)/\Below B w w'/\KeptC d w w'/\∃b,DraftM w' B d bt nx (swapT T t b (y.2.2.map (incH x u))))):=by
     rcases h34 with rfl | rfl
     ·exact zR9 w hM hP t u hx y hy F c g o hFe hgd fu hu hhas h ht (by omega) (by have:=(he y hym).1;omega) hT
     ·exact zTt w hM hP t u hx y hy F c g o hFe hgd fu hu hhas h ht (by omega) (by have:=(he y hym).1;omega) hT
    refine fin.mono fun e w' hh=>?_
    by_cases hbad:∃v∈pickE L t,¬∃s,RaiseR x v u s
    ·rw [if_pos hbad];obtain⟨rfl,h2,h3⟩:=hh.out.1 (hiff.1 hbad);exact⟨rfl,h2,h3,fun q=>absurd q (by decide)⟩
    ·rw [if_neg hbad];obtain⟨rfl,h2,h3,b,h4⟩:=hh.out.2 fun q=>hbad (hiff.2 q)
     refine⟨rfl,h2,h3,fun _=>⟨bt,_,h4,?_,?_,?_⟩⟩
     ·have:=hP.swap (u:=u) hx b (by rw[hy];rfl) (fun z hz=>by
       refine Classical.byContradiction fun q=>hbad (hiff.2 ⟨z,?_,q⟩)
       rw[hheld] at hz
       exact hz)
      rw[hheld] at this;exact this
     ·unfold swapT;rw[List.length_map];exact hl
     ·intro z hz;unfold swapT at hz;obtain⟨z0,hz0,rfl⟩:=List.mem_map.1 hz;split
      ·refine ⟨?_,(he z0 hz0).2⟩;simp only[List.length_map];exact (he y hym).1
      ·exact he z0 hz0
  ·rw [if_pos (.inr hn1)];have hn2:n≠1:=by omega
   rcases h34 with rfl | rfl
   ·exact (zTd w h t F n c hn2).mono fun e w' hh=>⟨hh.code,hh.below,hh.kept,fun q=>absurd q (by decide)⟩
   ·exact (zTq w h t F n c hn2).mono fun e w' hh=>⟨hh.code,hh.below,hh.kept,fun q=>absurd q (by decide)⟩
 ·rw [if_pos (.inl h34)];exact dinc_syn w h t x F n c h34
end Go.Proofs.YtadlmhclpaifoaaGreatDoor
