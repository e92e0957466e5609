/- Several texts in one: DForms, DPuts, DDraft, DDrop, DAdd, DSums, DPlus, DPlusP, DInc. By an AI agent. -/
import Derived.Test.YtnccdnfkhohobaaGreatDoorDM
import Derived.Laws.MakeOwn
import Derived.Test.YtnccdnfkhohobaaGreatDoorDP
import Derived.Test.YtnccdnfkhohobaaGreatDoorMB
import Derived.Test.YtnccdnfkhohobaaGreatDoorDX
set_option linter.unusedSimpArgs false
set_option linter.unusedVariables false
set_option maxRecDepth 100000
set_option maxHeartbeats 64000000
namespace Go.Proofs.YtnccdnfkhohobaaGreatDoor
open Go.RowKit Go.Maps
noncomputable def formsP (t:List UInt8) (vs:List (List UInt8)):List P2:=vs.map fun v=>(v,(valV t v).1)
theorem zHo (t:List UInt8) (vs:List (List UInt8)):(formsP t vs).length=vs.length:=by unfold formsP;simp
theorem zKt {t:List UInt8} {vs:List (List UInt8)} {i:Nat} {v:List UInt8} (h:vs[i]?=some v):prs (formsP t (vs.take (i+1)))=prs (formsP t (vs.take i))++[.string (txt v),.string (txt (valV t v).1)]:=by
 have htk:vs.take (i+1)=vs.take i++[v]:=by rw[List.take_add_one,h];rfl
 rw[htk];simp[formsP,prs]
theorem infoF:(Tryz.prog.info? 79).map (fun i=>(i.zero,i.size,i.bytes))=some (some (.agg #[.string .empty,.string .empty]),2,32):=by kernel_rfl
theorem makeF (w:World) (n:Nat) (hn:n<=1000000):
  ∃w',(Instr.makeSlice 69 (.int .i64 0) (.int .i64 (n:Int))).run Tryz.prog w=.ok (.slice (some ⟨w.heap.size,0,none⟩) 0 n) w'/\
   w'.ownsRow w.heap.size 79 2 (.slice (some ⟨w.heap.size,0,none⟩) 0 n) 0 (prs [])/\Below w.heap.size w w':=by
 obtain⟨i0,hi,hz0,hz1,hz2⟩:=info_parts infoF;obtain⟨w',h1,h2,h3⟩:=run_make_own (P:=Tryz.prog) w w.heap.size 69 79 i0 (.agg #[.string .empty,.string .empty]) 2 Tryz.underlying69 hi hz0 hz1 .i64 .i64 n (by rw[hz2];omega) (by unfold maxLen;omega) (Nat.le_refl _);exact⟨w',h1,h2,(Below.refl _ _).grown h3 (Nat.le_refl _) (fun g hg=>by cases hg)⟩
theorem zP2 {w:World} {size n base:Nat} {xs:List Value} {e:TypeId} {v:Value} (h:w.ownsRow base e size v n xs):∃A c,v=.slice A n c/\Has w w.heap.size size A n xs/\∀ad,A=some ad->base<=ad.block:=by
 rcases h.2 with⟨rfl,rfl⟩ | ⟨g,cap,cur,rfl,hg,_,hnc,_⟩
 ·exact ⟨none,0,rfl,Has.own h,fun ad q=>by cases q⟩
 ·exact ⟨_,cap,rfl,Has.own h,fun ad q=>by injection q with q;subst q;exact hg⟩
structure FormsPost (t:List UInt8) (vs:List (List UInt8)) (w:World) (e:Ending) (w':World):Prop where
 yes:(∀v∈vs,(valV t v).2=0)->∃F c,e=.returned (.tuple #[.slice F vs.length c,.bool true])/\Has w' w'.heap.size 2 F vs.length (prs (formsP t vs))/\∀ad,F=some ad->w.heap.size<=ad.block
 no:¬(∀v∈vs,(valV t v).2=0)->e=.returned (.tuple #[.slice none 0 0,.bool false])
 below:Below w.heap.size w w'
def FormsEnd (w:World) (t:List UInt8) (vs:List (List UInt8)) (F:Option Addr) (m cc:Nat) (b:Bool) (w':World):Prop:=(b=true/\m=vs.length/\(∀v∈vs,(valV t v).2=0)/\Has w' w'.heap.size 2 F m (prs (formsP t vs))/\∀ad,F=some ad->w.heap.size<=ad.block)\/(b=false/\F=none/\m=0/\cc=0/\¬(∀v∈vs,(valV t v).2=0))
structure FormsQ (t:List UInt8) (vs:List (List UInt8)) (w:World) (e:Ending) (w':World):Prop where
 out:∃F m cc b,e=.returned (.tuple #[.slice F m cc,.bool b])/\Below w.heap.size w w'/\FormsEnd w t vs F m cc b w'
theorem zOe (t:List UInt8) (vs:List (List UInt8)) (w:World) (V:Option Addr) (n c:Nat) (hV:Has w w.heap.size 1 V n (strs vs)) (hT:TM w) (ht:t.length<=1000000) (hn:n<=1000000) (hvs:∀v∈vs,v.length<=1000000):
  Calls Tryz.prog 35 #[.string (txt t),.slice V n c] w (FormsPost t vs w):=by
 suffices H:Calls Tryz.prog 35 #[.string (txt t),.slice V n c] w (FormsQ t vs w) from
  H.mono fun e w' ⟨⟨F,m,cc,b,h1,h2,h3⟩⟩=>by
   rcases h3 with⟨rfl,rfl,h4,h5⟩ | ⟨rfl,rfl,rfl,rfl,h4⟩
   ·exact ⟨fun _=>⟨F,cc,h1,h5⟩,fun q=>absurd h4 q,h2⟩
   ·exact ⟨fun q=>absurd q h4,fun _=>h1,h2⟩
 have hnl:=hV.strs_n;have hVal:=fun (v:List UInt8) (hv:v∈vs) (w:World) (hT:TM w)=>zBq t v ht (hvs v hv) w hT
 obtain⟨wm,hmake,hom,hbm⟩:=makeF w n hn;have HV:=hide hV;have HVal:=hide hVal;have HN:=hide hnl;have HT:=hide hT;have Hn:=hide hn;have hsz:w.heap.size<=wm.heap.size:=hbm.size;clear hV hVal hnl hT ht hvs hn;obtain⟨TN,hTN⟩:∃TN,txt t=TN:=⟨_,rfl⟩;have HTN:=hide hTN;rw[hTN];clear hTN;go_enter Tryz.func35,Tryz.ntmps35;go_wp2
 go_loopg [6,16] n (fun k s6 s16 wx=>∃i:Nat,i+k=n/\s16=.int .i64 (i:Int)/\wx.ownsRow w.heap.size 79 2 s6 i (prs (formsP t (vs.take i)))/\Hid (∀v∈vs.take i,(valV t v).2=0)/\Below w.heap.size w wx)
 case atStart=>exact⟨0,by omega,rfl,by simpa[formsP] using hom,hide (by simp),hbm⟩
 case round=>
  obtain⟨i,hig,rfl,hor,hok,hbr⟩:=hrel;clear hom hbm hmake hsz;cases gk with
  | zero=>
   obtain rfl:i=n:=by omega
   have hiz:¬((i:Int)<(i:Int)):=by omega
   have htk:vs.take i=vs:=List.take_of_length_le (by rw[HN.out];exact Nat.le_refl _);rw[htk] at hor hok;have Hor:=hide hor;have Hbr:=hide hbr;clear hor hbr HV HVal HT htk;obtain⟨A,cc,rfl,hA⟩:=zP2 Hor.out;have HA:=hide hA;clear hA;go_wp2;go_ret2;exact⟨⟨A,i,cc,true,rfl,Hbr.out,.inl ⟨rfl,HN.out,hok.out,HA.out.1,HA.out.2⟩⟩⟩
  | succ k=>
   have hi:i<n:=by omega
   have hiz:(i:Int)<(n:Int):=by omega
   obtain⟨v,hv⟩:∃v,vs[i]?=some v:=⟨_,List.getElem?_eq_getElem (by rw[<-HN.out];exact hi)⟩;have hvm:=List.mem_of_getElem? hv;obtain⟨gb,o,hVe,hgb,hcell⟩:=HV.out.lies (by unfold strs;rw[List.length_map,<-HN.out];omega);have hcv:=hcell i (.string (txt v)) (by unfold strs;rw[List.getElem?_map,hv];rfl);have hcv:=((hbr.cell (p:=⟨gb,o+i,none⟩) hgb).trans hcv);have HVc:=hide (HVal.out v hvm _ (HT.out.below hbr));have hVe':=hVe;subst hVe';have hnx:=zKt (t:=t) hv;have hall:(valV t v).2=0->∀x∈vs.take (i+1),(valV t x).2=0:=fun h0 x hx=>by
    rw[List.take_add_one,hv] at hx;rcases List.mem_append.1 hx with hx | hx
    ·exact hok.out x hx
    ·simp only[Option.toList,List.mem_singleton] at hx;rw[hx];exact h0
   have hnot:(valV t v).2≠0->¬(∀x∈vs,(valV t x).2=0):=fun h0 q=>h0 (q v hvm)
   generalize hVV:txt v=VV at *;generalize hNV:txt (valV t v).1=NV at *;generalize (valV t v).2=ve at *;rw[HTN.out] at HVc;have Hall:=hide hall;have Hnot:=hide hnot;have Hnx:=hide hnx;have Hor:=hide hor;clear hall hnot hnx hVV hNV hv hvm hcell hor;go_wp2_with (go_at_call 38;fail);refine HVc.out.mono ?_;rintro e w3 ⟨rfl,hb3⟩;have hor3:=zAe Hor.out hb3;have hbr3:=hbr.trans (hb3.mono hbr.size);clear hb3 HVc Hor;by_cases hve:ve=0
   ·subst hve;have hone:=litP w3 VV NV 79;have hH:=Has.own hone;have hor4:=hor3.alloc (.cells #[.string VV,.string NV] 79);have hbr4:=hbr3.alloc hbr3.size (.cells #[.string VV,.string NV] 79);have hs4:=hbr4.size;have h1c:∀u∈[Value.string VV,Value.string NV],u.oneCell'=true:=by simp[Value.oneCell']
    have hi1:i+1<=10000000:=(by have:=Hn.out;omega);clear hone hor3 hbr3;go_wp2_with (at_builtin;go_must (refine appE _ 69 79 _ 2 32 Tryz.underlying69 infoF rfl (by omega) (by omega) rfl (.tmp 28) (.tmp 32) rfl w.heap.size _ i _ rfl hor4 _ _ 1 1 [.string VV,.string NV] rfl hH h1c hi1 hs4 ?_));intro v' w5 hor5 hb5 _;have hbr5:=hbr4.trans hb5;rw[<-Hnx.out] at hor5;clear hor4 hbr4 hs4 hH hb5 h1c;go_wp2
    go_roundg k
    case measure=>omega
    case rel=>exact⟨i+1,by omega,by go_num,hor5,hide (Hall.out (by simp)),hbr5⟩
   ·have hvz:(ve !=0)=true:=by simpa using hve
    have Hbr:=hide hbr3;have Hno:=hide (Hnot.out hve);clear hor3 hbr3 hbr hok Hall Hnot Hnx HV HVal;go_wp2;go_ret2;exact⟨⟨none,0,0,false,rfl,Hbr.out,.inr ⟨rfl,rfl,rfl,rfl,Hno.out⟩⟩⟩
theorem KeptC.reads {d g o:Nat} {l:List P2} {w w':World} (h:KeptC d w w') (hg:g≠d) (hr:Reads w g o l):Reads w' g o l:=
 ⟨fun i a ha=>h.cell hg (hr.fst i a ha),fun i a ha=>h.cell hg (hr.snd i a ha)⟩
structure FormsR (w:World) (d:Nat) (F:Option Addr) (n:Nat) (l:List P2):Prop where
 len:n=l.length
 lie:l≠[]->∃g o,F=some ⟨g,o,none⟩/\g≠d/\Reads w g o l
theorem FormsR.kept {w w':World} {d n:Nat} {F:Option Addr} {l:List P2} (h:FormsR w d F n l) (hk:KeptC d w w'):FormsR w' d F n l:=
 ⟨h.len,fun q=>by obtain⟨g,o,h1,h2,h3⟩:=h.lie q;exact⟨g,o,h1,h2,hk.reads h2 h3⟩⟩
theorem FormsR.of {w:World} {d n:Nat} {F:Option Addr} {l:List P2} (h:Has w w.heap.size 2 F n (prs l)) (hd:∀ad,F=some ad->d<ad.block):FormsR w d F n l:=
 ⟨h.pairs_n,fun q=>by
  obtain⟨g,o,h1,_,h3⟩:=h.reads q
  have:=hd _ h1
  exact⟨g,o,h1,fun e=>by simp only at this;omega,h3⟩⟩
structure PutsPost (w:World) (B d k:Nat) (G:List EA) (g:Int) (e:Ending) (w':World):Prop where
 code:e=.returned (.bool (decide (g=0)))
 below:Below B w w'
 kept:KeptC d w w'
 draft:g=0->Draft w' B d k G
theorem puts_any {B d nx:Nat} {L:List EA} (w:World) (h:Draft w B d nx L) (t:List UInt8) (vs:List (List UInt8)) (F:Option Addr) (n c:Nat) (hF:FormsR w d F n (formsP t vs)) (hok:∀v∈vs,(valV t v).2=0)
  (ht:t.length<=1000000) (hnx:nx+vs.length<=1000000000):
  Calls Tryz.prog 36 #[.pointer (some ⟨d,0,none⟩),.string (txt t),.slice F n c] w (PutsPost w B d (nx+vs.length) (gatherL L t vs).1 (gatherL L t vs).2):=by
 have hn:n=vs.length:=by rw[hF.len,zHo]
 obtain⟨LG,hLG⟩:∃LG,(gatherL L t vs).1=LG:=⟨_,rfl⟩;obtain⟨gc,hgg⟩:∃g,(gatherL L t vs).2=g:=⟨_,rfl⟩;have HG:Hid (gatherL L t vs=(LG,gc)):=hide (Prod.ext hLG hgg);rw[hLG,hgg];have hnb:n<=1000000000:=by omega
 obtain⟨K,hK⟩:∃K,nx+vs.length=K:=⟨_,rfl⟩;have HK:=hide hK;rw[hK];clear hK;have HF:=hide hF;have HD:=hide h;have HN:=hide hn;have HOK:=hide hok;have Ht:=hide ht;have HNX:=hide hnx;clear hLG hgg hF h hn hok ht hnx;obtain⟨TN,hTN⟩:∃TN,txt t=TN:=⟨_,rfl⟩;have HTN:=hide hTN;rw[hTN];clear hTN;go_enter Tryz.func36,Tryz.ntmps36;go_wp2
 go_loopg [11] n (fun r s11 wx=>∃(i:Nat) (Li:List EA),i+r=n/\s11=.int .i64 (i:Int)/\Hid (gatherL Li t (vs.drop i)=(LG,gc))/\Hid (Draft wx B d (nx+i) Li)/\Hid (Below B w wx/\KeptC d w wx))
 case atStart=>exact⟨0,L,by omega,rfl,hide (by rw[List.drop_zero];exact HG.out),hide (by rw[Nat.add_zero];exact HD.out),hide ⟨Below.refl _ _,.refl _ _⟩⟩
 case round=>
  obtain⟨i,Li,hig,rfl,hG,hDi,hBi⟩:=hrel;clear HD HG;cases gk with
  | zero=>
   obtain rfl:i=n:=by omega
   have hiz:¬((i:Int)<(i:Int)):=by omega
   have hGe:=hG.out;rw[List.drop_eq_nil_of_le (by rw[<-HN.out];exact Nat.le_refl _)] at hGe;unfold gatherL at hGe;have HGe:=hide hGe;clear hGe hG HF HOK;go_wp2;go_ret;obtain⟨e1,e2⟩:=Prod.mk.inj HGe.out;exact⟨by rw[<-e2];rfl,hBi.out.1,hBi.out.2,fun _=>by rw[<-HK.out,<-HN.out,<-e1];exact hDi.out⟩
  | succ r=>
   have hi:i<n:=by omega
   have hiz:(i:Int)<(n:Int):=by omega
   obtain⟨v,hv⟩:∃v,vs[i]?=some v:=⟨_,List.getElem?_eq_getElem (by rw[<-HN.out];exact hi)⟩;have hvm:=List.mem_of_getElem? hv;have hdrop:vs.drop i=v::vs.drop (i+1):=by obtain⟨h1,h2⟩:=List.getElem?_eq_some_iff.1 hv;rw[List.drop_eq_getElem_cons h1,h2]
   have hGi:=hG.out;rw[hdrop] at hGi;unfold gatherL at hGi;have hvo:=HOK.out v hvm;rw[if_neg (by simp[hvo])] at hGi;obtain⟨nv,hnv⟩:∃nv,(valV t v).1=nv:=⟨_,rfl⟩;have hvv:valV t v=(nv,0):=Prod.ext hnv hvo;have hnl:nv.length<=1000000:=by have:=zM1 t v;rw[hnv] at this;omega
   have hfa:(formsP t vs)[i]?=some (v,nv):=by unfold formsP;rw[List.getElem?_map,hv,<-hnv];rfl
   obtain⟨gb,o,hFe,hgd,hrd⟩:=(HF.out.kept hBi.out.2).lie (fun q=>by rw[q] at hfa;simp at hfa);have e0:=hrd.fst i _ hfa;have e1:=hrd.snd i _ hfa;simp only at e0 e1;have HFe:=hide hFe;subst hFe;have hba:=below1 wr (.cells #[.string (txt v),.string (txt nv)] 79);have hXa:=BoxF.new wr (txt v) (txt nv) 79;have u0:=hXa.c0;have u1:=hXa.c1;have HP:=hide (zHv _ (hDi.out.grow hba) t nv v hvv Ht.out hnl (by have:=HNX.out;have:=HN.out;omega));have HK1:=hide (And.intro (hBi.out.1.trans (hba.mono (by obtain⟨bt,T,hM,_⟩:=hDi.out.out;exact Nat.le_trans hM.newd (Nat.le_of_lt hM.ltd)))) (hBi.out.2.trans (KeptC.below (d:=d) hba)));obtain⟨NV,hNV⟩:∃NV,txt nv=NV:=⟨_,rfl⟩;obtain⟨VV,hVV⟩:∃VV,txt v=VV:=⟨_,rfl⟩;rw[HTN.out,hVV,hNV] at HP;rw[hVV,hNV] at u0 u1 HK1;rw[hVV] at e0;rw[hNV] at e1;clear hNV hVV hba hXa hfa hrd hvv hvo hnv hnl hv hvm hdrop hG HF HOK;by_cases hin:WithinV t (pickE Li t) v
   ·rw [if_pos hin] at hGi;have HGi:=hide hGi;clear hGi hBi hDi;go_wp2_with (go_at_call 39;fail);refine HP.out.mono ?_;rintro e w4 hp;obtain⟨rfl,_⟩:=hp.no hin;have HB4:=hide (And.intro (HK1.out.1.trans hp.below) (HK1.out.2.trans hp.kept));clear hp HP HK1 e0 e1 u0 u1;go_wp2;go_ret;obtain⟨_,e2⟩:=Prod.mk.inj HGi.out;exact⟨by rw[<-e2];rfl,HB4.out.1,HB4.out.2,fun q=>absurd (e2.trans q) (by decide)⟩
   ·rw [if_neg hin] at hGi;have HGi:=hide hGi;clear hGi hBi hDi;go_wp2_with (go_at_call 39;fail);refine HP.out.mono ?_;rintro e w4 hp;obtain⟨rfl,hd4⟩:=hp.yes hin;have HB4:=hide (And.intro (HK1.out.1.trans hp.below) (HK1.out.2.trans hp.kept));have HD4:=hide hd4;clear hp HP HK1 hd4 e0 e1 u0 u1;go_wp2
    go_roundg r
    case measure=>omega
    case rel=>exact⟨i+1,_,by omega,by go_num,HGi,hide (by have:=HD4.out;rwa [Nat.add_assoc] at this),HB4⟩
theorem zDz {t:List UInt8}:∀{vs:List (List UInt8)} {L:List EA},(gatherL L t vs).2=0->∀v∈vs,(valV t v).2=0
 | [],L,h,v,hv=>by simp at hv
 | u::vs,L,h,v,hv=>by
  unfold gatherL at h;split at h
  ·simp at h
  ·rename_i h1;split at h
   ·simp at h
   ·rcases List.mem_cons.1 hv with rfl | hv
    ·simpa using h1
    ·exact zDz h v hv
theorem zLu {L:List EA} {a:EA} (h:(gather1 L a).2=0):(typ a.1).2≠0/\a.2≠[]/\gather1 L a=gatherL L (typ a.1).1 a.2/\∀v∈a.2,(valV (typ a.1).1 v).2=0:=by
 unfold gather1 at h ⊢;split at h
 ·simp at h
 ·rename_i h1;split at h
  ·simp at h
  ·rename_i h2;rw[if_neg h1,if_neg h2];exact⟨h1,h2,rfl,zDz h⟩
theorem zKv {L:List EA} {a:EA} {r G:List EA} (h:gatherA L (a::r)=(G,0)):(gather1 L a).2=0/\gatherA (gather1 L a).1 r=(G,0):=by
 unfold gatherA at h;by_cases h0:(gather1 L a).2=0
 ·rw [if_neg (by simp[h0])] at h;exact⟨h0,h⟩
 ·rw [if_pos h0] at h;exact absurd (Prod.mk.inj h).2 h0
structure DraftPost (w:World) (k:Nat) (G:List EA) (e:Ending) (w':World):Prop where
 out:∃d,e=.returned (.pointer (some ⟨d,0,none⟩))/\Draft w' w.heap.size d k G/\Below w.heap.size w w'
theorem zKi (L G:List EA) (w:World) (A:Option Addr) (n c:Nat) (xs:List Value) (hA:Has w w.heap.size 2 A n xs) (hL:EAs w w.heap.size xs L) (hT:TM w) (hn:n<=1000000)
  (hts:∀a∈L,a.1.length<=1048576) (hvs:∀a∈L,∀v∈a.2,v.length<=1000000) (hcnt:cntE L<=1000000) (hG:gatherA [] L=(G,0)):
  Calls Tryz.prog 13 #[.slice A n c] w (DraftPost w (cntE L) G):=by
 suffices H:Calls Tryz.prog 13 #[.slice A n c] w fun e w'=>∃d,e=.returned (.pointer (some ⟨d,0,none⟩))/\Draft w' w.heap.size d (cntE L) G/\Below w.heap.size w w' from H.mono fun e w' h=>⟨h⟩
 have hnl:=hA.eas_n hL;have hmm:=@run_makeMap Tryz.prog;have hD:=zIr w 66;have hB:Below w.heap.size w ((w.alloc (.map #[] 0)).alloc (.cells #[.map (some w.heap.size),.int .i64 0] 66)):=((Below.refl _ w).alloc (Nat.le_refl _) _).alloc (by simp) _;have HD:=hide hD;have HB:=hide hB;have HA:=hide hA;have HL:=hide hL;have HT:=hide hT;have Hn:=hide hnl;have Hts:=hide hts;have Hvs:=hide hvs;have Hcnt:=hide hcnt;have HG:=hide hG;clear hD hB hA hL hT hnl hts hvs hcnt hG;obtain⟨K,hK⟩:∃K,cntE L=K:=⟨_,rfl⟩;have HK:=hide hK;rw[hK];clear hK;go_enter Tryz.func13,Tryz.ntmps13;go_wp2;obtain⟨d,hd⟩:∃d,w.heap.size+1=d:=⟨_,rfl⟩;rw[hd] at HD;(try rw[hd]);clear hd
 go_loopg [15] n (fun r s15 wx=>∃(i:Nat) (Li:List EA),i+r=n/\s15=.int .i64 (i:Int)/\Hid (gatherA Li (L.drop i)=(G,0))/\Hid (Draft wx w.heap.size d (cntE (L.take i)) Li)/\Hid (Below w.heap.size w wx))
 case atStart=>exact⟨0,[],by omega,rfl,hide (by rw[List.drop_zero];exact HG.out),hide (by rw[List.take_zero];exact HD.out),HB⟩
 case round=>
  obtain⟨i,Li,hig,rfl,hG,hDi,hBi⟩:=hrel;clear HG HD HB hmm;cases gk with
  | zero=>
   obtain rfl:i=n:=by omega
   have hiz:¬((i:Int)<(i:Int)):=by omega
   have hGe:=hG.out;rw[List.drop_eq_nil_of_le (by rw[<-Hn.out];exact Nat.le_refl _)] at hGe;unfold gatherA at hGe;obtain⟨e1,_⟩:=Prod.mk.inj hGe;have htk:L.take i=L:=List.take_of_length_le (by rw[Hn.out];exact Nat.le_refl _);have HDe:Hid (Draft wr w.heap.size d K G):=hide (by rw[<-HK.out,<-e1,<-htk];rw[htk];have:=hDi.out;rwa [htk] at this);clear hGe e1 hG hDi HA HL htk;go_wp2;go_ret;exact⟨d,rfl,HDe.out,hBi.out⟩
  | succ r=>
   have hi:i<n:=by omega
   have hiz:(i:Int)<(n:Int):=by omega
   obtain⟨a,ha⟩:∃a,L[i]?=some a:=⟨_,List.getElem?_eq_getElem (by rw[<-Hn.out];exact hi)⟩;have ham:=List.mem_of_getElem? ha;have hdrop:L.drop i=a::L.drop (i+1):=by obtain⟨h1,h2⟩:=List.getElem?_eq_some_iff.1 ha;rw[List.drop_eq_getElem_cons h1,h2]
   have hGi:=hG.out;rw[hdrop] at hGi;obtain⟨hg0,hGi⟩:=zKv hGi;obtain⟨hty,hne,hge,hval⟩:=zLu hg0;rw[hge] at hg0 hGi;obtain⟨g,o,hAe,hga,hat⟩:=HA.out.ea HL.out (fun h=>by rw[h] at ha;simp at ha);obtain⟨V,cv,hat⟩:=hat i a ha;have hat2:=hat.below hga hBi.out;have e0:=hat2.e0;have e1:=hat2.e1;have HAe:=hide hAe;subst hAe;have hcn:=zM6 ha;have hcle:=zRl L (i+1);obtain⟨k,hk⟩:∃k,a.2.length=k:=⟨_,rfl⟩;rw[hk] at e1 hcn;have hba:=below1 wr (.cells #[.string (txt a.1),.slice V k cv] 35);have hXa:=BoxE.new wr (txt a.1) V k cv 35;have u0:=hXa.c0;have hVh:=hat.has;rw[hk] at hVh;have hkb:k<=1000000:=by have:=Hcnt.out;omega
   have hTy:=fun w hT=>zBp (txt a.1) w hT
   simp only[zAf] at hTy;obtain⟨t,ht⟩:∃t,(typ a.1).1=t:=⟨_,rfl⟩;have htl:t.length<=1000000:=by rw[<-ht];have:=zFz a.1;omega
   rw[ht] at hTy hge hg0 hGi hval;have HB1:=hTz hBi hba;have HTy:=hide (hTy _ (HT.out.below HB1.out).tt.types);have HX:=hide hXa;have HD1:=hide (hDi.out.grow hba);have Hv:=hide hVh;have HS:=hide (And.intro hg0 (And.intro hGi (And.intro hval (And.intro (Hvs.out a ham) (And.intro htl hcn)))));have Hcl:Hid (cntE (L.take i)+k<=1000000):=hide (by have:=Hcnt.out;omega);have Hk:=hide hk;clear hTy hVh hba hXa hat hat2 ham hk hG hDi hBi hdrop hg0 hGi hty hne hge hval hcn hcle ht htl ha;obtain⟨TA,hTA⟩:∃TA,txt a.1=TA:=⟨_,rfl⟩;obtain⟨TN,hTN⟩:∃TN,txt t=TN:=⟨_,rfl⟩;have HTN:=hide hTN;rw[hTA] at e0 u0 HB1 HX HD1;rw[hTA,hTN] at HTy;clear hTA hTN;generalize (typ a.1).2=ty at *;go_wp2_with (go_at_call 34;fail);refine HTy.out.mono ?_;rintro e w2 ⟨rfl,hb2⟩;have y1:=(HX.out.grow hb2).c1;have HB2:=hTz HB1 hb2;have HD2:=hide (HD1.out.grow hb2);have HF:=hide (zOe t a.2 w2 V k cv ((Hv.out.below HB2.out).upto HB2.out.size) (HT.out.below HB2.out) HS.out.2.2.2.2.1 hkb HS.out.2.2.2.1);rw[HTN.out] at HF;clear hb2 HB1 HD1 HTy HX e0 e1 u0;go_wp2_with (go_at_call 35;fail);refine HF.out.mono ?_;rintro e w3 hp;obtain⟨F,cF,rfl,hFh,hFn⟩:=hp.yes HS.out.2.2.1;rw[Hk.out] at hFh ⊢;have HB3:=hide (HB2.out.trans (hp.below.mono HB2.out.size));have HD3:=hide (HD2.out.grow hp.below);have hFR:FormsR w3 d F k (formsP t a.2):=.of hFh fun ad q=>by
    obtain⟨bt,T,hM,_⟩:=HD2.out.out;have h1:=hM.ltd;have h2:=hFn ad q;omega
   have HP:=hide (puts_any w3 HD3.out t a.2 F k cF hFR HS.out.2.2.1 HS.out.2.2.2.2.1 (by have:=Hcl.out;have:=Hk.out;omega));rw[HTN.out] at HP;have hg0:=HS.out.1;rw[hg0] at HP;clear hp hFh hFn hFR HF HB2 HD2 hg0 y1;go_wp2_with (go_at_call 36;fail);refine HP.out.mono ?_;rintro e w4 hp;obtain rfl:=hp.code;have HD4:=hide (hp.draft rfl);have HB4:=hide (HB3.out.trans hp.below);clear hp HP HB3 HD3;go_wp2
   go_roundg r
   case measure=>omega
   case rel=>exact⟨i+1,_,by omega,by go_num,hide HS.out.2.1,hide (by have h1:=HD4.out;rw[Hk.out] at h1;rw[HS.out.2.2.2.2.2];exact h1),HB4⟩
def lessH (n:List UInt8) (l:List Hd):List Hd:=l.filter fun h=>decide (h.1≠n)
theorem less_map (n:List UInt8) (l:List Hd):(l.map heldP).filter (fun p=>decide (p.1≠n))=(lessH n l).map heldP:=by
 unfold lessH;rw[List.filter_map];rfl
structure DropOk (w:World) (B d bt nx:Nat) (T:List Ty) (u n:List UInt8) (w':World):Prop where
 mem:DraftM w' B d bt nx (turnT T u (lessH n))
 below:Below B w w'
 kept:KeptC d w w'
theorem zI8 (a b:TypeId) (ty:TypeId) (w:World) (v:Array Value):(Builtin.delete_ #[a,b] ty v).run Tryz.prog w=(Builtin.delete_ #[a,b] 9 v).run Tryz.prog w:=rfl
theorem ddrop_no {B d bt nx:Nat} {T:List Ty} (w:World) (h:DraftM w B d bt nx T) (u n:List UInt8) (hu:u.length<=1000000) (hn:n.length<=1000000) (hin:findH (heldT T u) n=none):
  Calls Tryz.prog 41 #[.pointer (some ⟨d,0,none⟩),.string (txt u),.string (txt n)] w fun e w'=>e=.returned (.bool false)/\Below w.heap.size w w':=by
 have hc:=zDb (B:=B) (d:=d) (bt:=bt) (nx:=nx) (T:=T) w h u n hu hn;rw[hin] at hc;have HC:=hide hc;clear hc h hin hu hn;generalize txt u=U at *;generalize txt n=NN at *;go_enter Tryz.func41,Tryz.ntmps41;go_wp2_with (go_at_call 43;fail);refine HC.out.mono ?_;rintro e w2 ⟨rfl,hb2⟩;have HB2:=hide hb2;clear hb2 HC;go_wp2;go_ret;exact⟨rfl,HB2.out⟩
theorem zRv {B d bt nx:Nat} {T:List Ty} (w:World) (h:DraftM w B d bt nx T) (u n:List UInt8) (hu:u.length<=1000000) (hn:n.length<=1000000) (hin:(findH (heldT T u) n).isSome=true):
  Calls Tryz.prog 41 #[.pointer (some ⟨d,0,none⟩),.string (txt u),.string (txt n)] w fun e w'=>e=.returned (.bool true)/\DropOk w B d bt nx T u n w':=by
 have hBw:B<=w.heap.size:=Nat.le_trans h.newd (Nat.le_of_lt h.ltd);have hc:=zDb (B:=B) (d:=d) (bt:=bt) (nx:=nx) (T:=T) w h u n hu hn;rw[hin] at hc;obtain⟨y,hy⟩:∃y,findT T u=some y:=by
  cases hf:findT T u with
  | some y=>exact⟨y,rfl⟩
  | none=>unfold heldT at hin;rw[hf] at hin;simp[findH] at hin
 have HC:=hide hc;have HM:=hide h;have HBw:=hide hBw;have Hu:=hide hu;have Hn:=hide hn;have Hy:=hide hy;clear hc h hin hu hn hBw hy;obtain⟨U,hU⟩:∃U,txt u=U:=⟨_,rfl⟩;obtain⟨NN,hN⟩:∃NN,txt n=NN:=⟨_,rfl⟩;have HU:=hide hU;have HN:=hide hN;rw[hU,hN] at HC;rw[hU,hN];clear hU hN;go_enter Tryz.func41,Tryz.ntmps41;go_wp2_with (go_at_call 43;fail);refine HC.out.mono ?_;rintro e w2 ⟨rfl,hb2⟩;have HM2:=hide (HM.out.grow hb2);have HB2:=hide hb2;clear hb2 HC HM;have p0:=HM2.out.d0;have p2:(Instr.lookup 64 (.map (some bt)) (.string U) false).run Tryz.prog w2=.ok (.map (some y.2.1)) w2:=by have:=HM2.out.at Hu.out;rw[HU.out] at this;rw[this];unfold mapAt;rw[Hy.out];rfl
 obtain⟨w3,hrun,hL,hturn⟩:=(HM2.out.each y (zAp Hy.out).1).drop (s:=n) Tryz.underlying9 Tryz.underlying82 (long_max Hn.out) 9;rw[HN.out] at hrun;have hrunA:=fun ty=>(zI8 82 9 ty w2 #[.map (some y.2.1),.string NN]).trans hrun
 rw[less_map] at hL;have HD3:Hid (DropOk w B d bt nx T u n w3):=hide ⟨HM2.out.turn Hy.out hL hturn,(HB2.out.mono HBw.out).trans (zCu hturn (HM2.out.newe y (zAp Hy.out).1) (HM2.out.each y (zAp Hy.out).1).lt),
  (KeptC.below HB2.out).trans (KeptC.grown hturn.grown (HM2.out.each y (zAp Hy.out).1))⟩
 clear hL hturn hrun HM2 HB2;generalize y.2.1=b at *;go_wp2;go_ret;exact⟨rfl,HD3.out⟩
noncomputable def dropV (t:List UInt8) (l:List (List UInt8)) (n:List UInt8):List (List UInt8):=l.filter fun u=>decide ((valV t u).1≠n)
theorem zQm {t n:List UInt8} {l:List Hd} (h:∀x∈l,valV t x.2.1=(x.1,0)):(lessH n l).map (fun h=>h.2.1)=dropV t (l.map fun h=>h.2.1) n:=by
 unfold lessH dropV;rw[List.filter_map];congr 1;refine List.filter_congr fun x hx=>?_
 simp only[Function.comp,h x hx]
theorem zM3 {n:List UInt8} {l:List Hd} {x:Hd} (h:x∈lessH n l):x∈l:=(List.mem_filter.1 h).1
theorem DraftP.less {T:List Ty} {nx:Nat} {L:List EA} (h:DraftP T nx L) (u n:List UInt8):DraftP (turnT T u (lessH n)) nx (setE L u (dropV u (pickE L u) n)):=by
 have hh:∀x,heldT (turnT T u (lessH n)) x=if x=u then lessH n (heldT T u) else heldT T x:=fun x=>zPv T u x _ rfl
 refine⟨fun x y hy=>?_,fun x=>?_,fun x y hy=>?_,fun x=>?_,zE5 h.rise _ _,zE6 h.full _ _⟩
 ·rw [hh] at hy;split at hy
  ·rename_i e;subst e;exact h.norm x y (zM3 hy)
  ·exact h.norm x y hy
 ·rw [hh];split
  ·exact (h.place u).filter _
  ·exact h.place x
 ·rw [hh] at hy;split at hy
  ·exact h.lt u y (zM3 hy)
  ·exact h.lt x y hy
 ·rw [hh,zCe];split
  ·rw [h.pick,zQm (h.norm u)]
  ·exact h.pick x
structure DropPost (w:World) (B d nx:Nat) (L:List EA) (u n:List UInt8) (e:Ending) (w':World):Prop where
 yes:(∃x∈pickE L u,(valV u x).1=n)->e=.returned (.bool true)/\Draft w' B d nx (setE L u (dropV u (pickE L u) n))
 no:¬(∃x∈pickE L u,(valV u x).1=n)->e=.returned (.bool false)/\Draft w' B d nx L
 below:Below B w w'
 kept:KeptC d w w'
theorem zPn {T:List Ty} {u:List UInt8} {k:Nat} {f:List Hd->List Hd} (hf:∀l,(f l).length<=l.length) (hT:∀t∈T,t.2.2.length<=k/\t.1.length<=1000000):∀t∈turnT T u f,t.2.2.length<=k/\t.1.length<=1000000:=by
 intro t ht;unfold turnT at ht;obtain⟨x,hx,rfl⟩:=List.mem_map.1 ht;have h1:=hT x hx;split
 ·exact ⟨Nat.le_trans (hf _) h1.1,h1.2⟩
 ·exact h1
theorem zPu {B d nx:Nat} {L:List EA} (w:World) (h:Draft w B d nx L) (u n:List UInt8) (hu:u.length<=1000000) (hn:n.length<=1000000):
  Calls Tryz.prog 41 #[.pointer (some ⟨d,0,none⟩),.string (txt u),.string (txt n)] w (DropPost w B d nx L u n):=by
 obtain⟨bt,T,hM,hP,hl,he⟩:=h.out;have hB:B<=w.heap.size:=Nat.le_trans hM.newd (Nat.le_of_lt hM.ltd);have key:(∃x∈pickE L u,(valV u x).1=n)↔(findH (heldT T u) n).isSome=true:=by
  rw[zJ3,hP.pick,List.any_eq_true];constructor
  ·rintro ⟨x,hx,e⟩;obtain⟨y,hy,rfl⟩:=List.mem_map.1 hx;rw[hP.norm u y hy] at e;exact⟨y,hy,by simpa using e⟩
  ·rintro ⟨y,hy,e⟩;exact⟨y.2.1,List.mem_map_of_mem (f:=fun h:Hd=>h.2.1) hy,by rw[hP.norm u y hy];simpa using e⟩
 by_cases hin:(findH (heldT T u) n).isSome=true
 ·refine (zRv w hM u n hu hn hin).mono ?_;rintro e w' ⟨rfl,hd⟩;refine⟨fun _=>⟨rfl,⟨bt,_,hd.mem,hP.less u n,?_,zPn (fun l=>List.length_filter_le _ _) he⟩⟩,fun q=>absurd (key.2 hin) q,hd.below,hd.kept⟩;unfold turnT;rw[List.length_map];exact hl
 ·refine (ddrop_no w hM u n hu hn (by cases hf:findH (heldT T u) n with | none=>rfl | some x=>rw[hf] at hin;simp at hin)).mono ?_;rintro e w' ⟨rfl,hb⟩;exact⟨fun q=>absurd (key.1 q) hin,fun _=>⟨rfl,h.grow hb⟩,hb.mono hB,.below hb⟩
end Go.Proofs.YtnccdnfkhohobaaGreatDoor
namespace Go.Proofs.YtnccdnfkhohobaaGreatDoor
open Go.RowKit Flt
end Go.Proofs.YtnccdnfkhohobaaGreatDoor
namespace Go.Proofs.YtnccdnfkhohobaaGreatDoor
open Go Go.RowKit Go.Maps
end Go.Proofs.YtnccdnfkhohobaaGreatDoor
