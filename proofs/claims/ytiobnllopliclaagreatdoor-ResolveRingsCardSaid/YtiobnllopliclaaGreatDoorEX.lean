/- Several texts in one: Truth, EMath, EVals, EPVals, EPAttr, EHas, EPHas. By an AI agent. -/
import Derived.Test.YtiobnllopliclaaGreatDoorMI
import Derived.Deep.CutRange
import Derived.Test.YtiobnllopliclaaGreatDoorShelf
import Derived.Test.YtiobnllopliclaaGreatDoorGrow
set_option maxRecDepth 100000
set_option maxHeartbeats 32000000
namespace Go.Proofs.YtiobnllopliclaaGreatDoor
open Go.RowKit
noncomputable def Tr (p:Prop):Bool:=@decide p (Classical.propDecidable p)
theorem Tr_yes {p:Prop} (h:p):Tr p=true:=@decide_eq_true p (Classical.propDecidable p) h
theorem Tr_no {p:Prop} (h:¬p):Tr p=false:=@decide_eq_false p (Classical.propDecidable p) h
theorem Tr_iff {p:Prop}:Tr p=true↔p:=⟨fun h=>@of_decide_eq_true p (Classical.propDecidable p) h,Tr_yes⟩
theorem toeq (l m:List UInt8):((txt l).toList==m)=(l==m):=by rw[txt_bytes]
end Go.Proofs.YtiobnllopliclaaGreatDoor
namespace Go.Proofs.YtiobnllopliclaaGreatDoor
open Go.RowKit
set_option linter.unusedVariables false
abbrev EA:=List UInt8 × List (List UInt8)
structure EAs (w:World) (B:Nat) (xs:List Value) (L:List EA):Prop where
 len:xs.length=L.length*2
 each:∀(i:Nat) (a:EA),L[i]?=some a→∃A c,xs[i*2]?=some (.string (txt a.1))∧xs[i*2+1]?=some (.slice A a.2.length c)∧a.2.length≤c∧c≤maxLen∧Has w B 1 A a.2.length (strs a.2)
theorem EAs.below {w w':World} {B:Nat} {xs:List Value} {L:List EA} (h:EAs w B xs L) (hb:Below B w w'):EAs w' B xs L:=
 ⟨h.len,fun i a ha=>by obtain⟨A,c,h1,h2,k1,k2,h3⟩:=h.each i a ha;exact⟨A,c,h1,h2,k1,k2,h3.below hb⟩⟩
theorem EAs.upto {w:World} {B B':Nat} {xs:List Value} {L:List EA} (h:EAs w B xs L) (hB:B≤B'):EAs w B' xs L:=
 ⟨h.len,fun i a ha=>by obtain⟨A,c,h1,h2,k1,k2,h3⟩:=h.each i a ha;exact⟨A,c,h1,h2,k1,k2,h3.upto hB⟩⟩
theorem EAs.grow {w w':World} {xs:List Value} {L:List EA} (h:EAs w w.heap.size xs L) (hb:Below w.heap.size w w'):EAs w' w'.heap.size xs L:=(h.below hb).upto hb.size
theorem EAs.nil {w:World} {B:Nat}:EAs w B [] []:=⟨rfl,fun i a ha=>by simp at ha⟩
structure EaAt (w:World) (B g o:Nat) (a:EA) (V:Option Addr) (c:Nat):Prop where
 e0:w.cell? ⟨g,o,none⟩=some (.string (txt a.1))
 e1:w.cell? ⟨g,o+1,none⟩=some (.slice V a.2.length c)
 cap:a.2.length≤c
 most:c≤maxLen
 has:Has w B 1 V a.2.length (strs a.2)
theorem EaAt.below {w w':World} {B g o:Nat} {a:EA} {V:Option Addr} {c:Nat} (h:EaAt w B g o a V c) (hg:g<B) (hb:Below B w w'):EaAt w' B g o a V c:=
 ⟨(hb.cell (p:=⟨g,o,none⟩) hg).trans h.e0,(hb.cell (p:=⟨g,o+1,none⟩) hg).trans h.e1,h.cap,h.most,h.has.below hb⟩
theorem Has.ea {w:World} {B n:Nat} {A:Option Addr} {xs:List Value} {L:List EA} (h:Has w B 2 A n xs) (hL:EAs w B xs L) (hn:L≠[]):
  ∃g o,A=some ⟨g,o,none⟩∧g<B∧∀(i:Nat) (a:EA),L[i]?=some a→∃V c,EaAt w B g (o+i*2) a V c:=by
 have hp:=List.length_pos_iff.2 hn
 obtain⟨g,o,rfl,hg,hc⟩:=h.lies (by rw[hL.len];omega)
 refine⟨g,o,rfl,hg,fun i a ha=>?_⟩
 obtain⟨V,c,h1,h2,k1,k2,h3⟩:=hL.each i a ha
 exact⟨V,c,hc _ _ h1,by have:=hc _ _ h2;rwa [←Nat.add_assoc] at this,k1,k2,h3⟩
theorem Has.eas_n {w:World} {B n:Nat} {A:Option Addr} {xs:List Value} {L:List EA} (h:Has w B 2 A n xs) (hL:EAs w B xs L):n=L.length:=by
 have h1:=h.1
 have h2:=hL.len
 omega
def pickE:List EA→List UInt8→List (List UInt8)
 | [],_=>[]
 | a::L,t=>if a.1=t then a.2 else pickE L t
noncomputable def valuesE (L:List EA) (name:List UInt8):List (List UInt8):=if (typ name).2=0 then [] else pickE L (typ name).1
theorem typ_nil0 (n:List UInt8):(typ n).2=0↔(typ n).1=[]:=by
 unfold typ
 have key:∀(l:List UInt8) (t:List (List UInt8 × Int)),(∀e∈t,e.2≠0∧e.1≠[])→((typL l t).2=0↔(typL l t).1=[]):=by
  intro l t
  induction t with
  | nil=>intro _;simp[typL]
  | cons e r ih=>
   intro h
   have he:=h e (by simp)
   unfold typL
   split
   ·exact ⟨fun q=>absurd q he.1,fun q=>absurd q he.2⟩
   ·exact ih fun x hx=>h x (by simp[hx])
 exact key _ tab (by decide)
theorem pick_drop {L:List EA} {i:Nat} {a:EA} (h:L[i]?=some a) (t:List UInt8):pickE (L.drop i) t=if a.1=t then a.2 else pickE (L.drop (i+1)) t:=by
 obtain⟨h1,h2⟩:=List.getElem?_eq_some_iff.1 h
 rw[List.drop_eq_getElem_cons h1,h2]
 rfl
theorem pick_mem:∀(L:List EA) (t:List UInt8),pickE L t=[]∨∃a∈L,pickE L t=a.2
 | [],_=>Or.inl rfl
 | a::L,t=>by
  unfold pickE
  split
  ·exact Or.inr ⟨a,by simp,rfl⟩
  ·rcases pick_mem L t with h | ⟨b,hb,h⟩
   ·exact Or.inl h
   ·exact Or.inr ⟨b,by simp[hb],h⟩
def AlikeV (name u v:List UInt8):Prop:=(valV name v).2=0∧(valV name u).2=0∧(valV name u).1=(valV name v).1
def WithinV (name:List UInt8) (L:List (List UInt8)) (v:List UInt8):Prop:=∃u∈L,AlikeV name u v
def HasE (L:List EA) (name v:List UInt8):Prop:=WithinV name (valuesE L name) v
def clsT:List UInt8:=[111,98,106,101,99,116,67,108,97,115,115]
end Go.Proofs.YtiobnllopliclaaGreatDoor
namespace Go.Proofs.YtiobnllopliclaaGreatDoor
open Go.RowKit
set_option linter.unusedVariables false
set_option linter.unusedSimpArgs false
structure ValsPost (R:List (List UInt8)) (w:World) (e:Ending) (w':World):Prop where
 out:∃v,e=.returned v∧w'.ownsRow w.heap.size 9 1 v R.length (strs R)∧Below w.heap.size w w'
structure BoxE (w:World) (q:Nat) (nm:ByteArray) (A:Option Addr) (n c:Nat):Prop where
 lt:q<w.heap.size
 c0:w.cell? ⟨q,0,none⟩=some (.string nm)
 c1:w.cell? ⟨q,1,none⟩=some (.slice A n c)
theorem BoxE.new (w:World) (nm:ByteArray) (A:Option Addr) (n c:Nat) (t:TypeId):BoxE (w.alloc (.cells #[.string nm,.slice A n c] t)) w.heap.size nm A n c:=by
 refine⟨by simp,?_,?_⟩<;>(rw[World.cell?_alloc_at (hn:=by simp)];rfl)
theorem BoxE.below {w w':World} {q E:Nat} {nm:ByteArray} {A:Option Addr} {n c:Nat} (h:BoxE w q nm A n c) (hE:q<E) (hb:Below E w w'):BoxE w' q nm A n c:=
 ⟨Nat.lt_of_lt_of_le h.lt hb.size,(hb.cell (p:=⟨q,0,none⟩) hE).trans h.c0,(hb.cell (p:=⟨q,1,none⟩) hE).trans h.c1⟩
theorem BoxE.grow {w w':World} {q:Nat} {nm:ByteArray} {A:Option Addr} {n c:Nat} (h:BoxE w q nm A n c) (hb:Below w.heap.size w w'):BoxE w' q nm A n c:=h.below h.lt hb
theorem rvals_any (nm:List UInt8) (L:List EA) (name:List UInt8) (w:World) (A:Option Addr) (n c:Nat) (xs:List Value) (hA:Has w w.heap.size 2 A n xs) (hL:EAs w w.heap.size xs L) (hn:n≤1000000)
  (hname:name.length≤281474976710656) (hv:∀a∈L,a.2.length≤1000000):
  Calls Tryz.prog 36 #[.agg #[.string (txt nm),.slice A n c],.string (txt name)] w (ValsPost (valuesE L name) w):=by
 suffices H:Calls Tryz.prog 36 #[.agg #[.string (txt nm),.slice A n c],.string (txt name)] w fun e w'=>∃v,e=.returned v∧w'.ownsRow w.heap.size 9 1 v (valuesE L name).length (strs (valuesE L name))∧Below w.heap.size w w' from H.mono fun e w' h=>⟨h⟩
 have hnl:=hA.eas_n hL
 have hTy:=fun w=>rtype_any (txt name) (by rw[txt_size];exact hname) w
 simp only[txt_toList] at hTy
 have hb1:=below1 w (.cells #[.string (txt nm),.slice A n c] 26)
 have hX:=BoxE.new w (txt nm) A n c 26
 by_cases h0:(typ name).1=[]
 ·have hR:valuesE L name=[]:=by unfold valuesE;rw[if_pos ((typ_nil0 name).2 h0)]
  rw[hR]
  rw[h0] at hTy
  have q0:((txt []).toList==[])=true:=by rw[toeq];rfl
  have HTy:=hide hTy
  have HB:=hide hb1
  generalize (typ name).2=ty at *
  generalize txt name=S at *
  generalize txt nm=SN at *
  generalize txt []=E0 at *
  clear hTy hb1 hX hA hL hname hv h0 hR hnl
  go_enter Tryz.func36,Tryz.ntmps36
  go_wp2_with (go_at_call 35;fail)
  refine (HTy.out _).mono ?_
  rintro e w2 ⟨rfl,hb2⟩
  have HB2:=hide (HB.out.trans (hb2.mono HB.out.size))
  clear hb2 HB HTy
  go_wp2
  go_ret
  exact⟨_,rfl,nil_own _ _ _ _,HB2.out⟩
 ·have q0:((txt (typ name).1).toList==[])=false:=by rw[toeq];simpa using h0
  obtain⟨t,ht⟩:∃t,(typ name).1=t:=⟨_,rfl⟩
  obtain⟨R,hR⟩:∃R,valuesE L name=R:=⟨_,rfl⟩
  have hR0:pickE L t=R:=by rw[←hR,←ht];unfold valuesE;rw[if_neg fun h=>h0 ((typ_nil0 name).1 h)]
  rw[hR]
  rw[ht] at hTy q0
  have HTy:=hide hTy
  have HB:=hide hb1
  have HX:=hide hX
  have HR:=hide hR0
  have HA1:=hide ((hA.below hb1).upto hb1.size)
  have HL1:=hide (hL.grow hb1)
  have HV:=hide hv
  have HN:=hide hnl
  have x1:=hX.c1
  generalize (typ name).2=ty at *
  generalize txt name=S at *
  generalize txt nm=SN at *
  clear hTy hb1 hX hA hL hname hv h0 hR hR0 ht hnl
  obtain⟨T,hT⟩:∃T,txt t=T:=⟨_,rfl⟩
  have HT:=hide hT
  rw[hT] at HTy q0
  clear hT
  go_enter Tryz.func36,Tryz.ntmps36
  go_wp2_with (go_at_call 35;fail)
  refine (HTy.out _).mono ?_
  rintro e w2 ⟨rfl,hb2⟩
  have HB2:=hide (HB.out.trans (hb2.mono HB.out.size))
  have HX2:=hide (HX.out.grow hb2)
  have HA2:=hide ((HA1.out.below hb2).upto hb2.size)
  have HL2:=hide (HL1.out.grow hb2)
  have d1:=HX2.out.c1
  clear hb2 HB HTy HX HA1 HL1 x1
  go_wp2
  go_loopg [18] n (fun r s18 wx=>∃i:Nat,i+r=n∧s18=.int .i64 (i:Int)∧Hid (pickE (L.drop i) t=R)∧Below w2.heap.size w2 wx)
  case atStart=>exact⟨0,by omega,rfl,hide (by rw[List.drop_zero];exact HR.out),Below.refl _ _⟩
  case round=>
   obtain⟨i,hig,rfl,hpre,hbr⟩:=hrel
   have y1:=(HX2.out.below HX2.out.lt hbr).c1
   cases gk with
   | zero=>
    obtain rfl:n=i:=by omega
    have hiz:¬((n:Int)<(n:Int)):=by omega
    have hp:=hpre.out
    rw[List.drop_eq_nil_of_le (by rw[HN.out];exact Nat.le_refl _)] at hp
    have hR1:Hid (R=[]):=hide hp.symm
    have HE:=hide (HB2.out.trans (hbr.mono HB2.out.size))
    clear hp hpre HX2 HA2 HL2 HV HN HR hbr d1
    go_wp2
    go_ret
    exact⟨_,rfl,by rw[hR1.out];exact nil_own _ _ _ _,HE.out⟩
   | succ r=>
    have hi:i<n:=by omega
    have hiz:(i:Int)<(n:Int):=by omega
    obtain⟨a,ha⟩:∃a,L[i]?=some a:=⟨_,List.getElem?_eq_getElem (by rw[←HN.out];exact hi)⟩
    obtain⟨g,o,hAe,hg,hat⟩:=HA2.out.ea HL2.out (fun h=>by rw[h] at ha;simp at ha)
    subst hAe
    obtain⟨V,cv,hat⟩:=hat i a ha
    have hat:=hat.below hg hbr
    have e0:=hat.e0
    have e1:=hat.e1
    have hpd:=pick_drop ha t
    rw[hpre.out] at hpd
    by_cases hat1:a.1=t
    ·rw [if_pos hat1] at hpd
     have q1:((txt a.1).toList==T.toList)=true:=by rw[hat1,HT.out];simp
     obtain⟨k,hk⟩:∃k,a.2.length=k:=⟨_,rfl⟩
     rw[hk] at e1
     have hk1:k≤1000000:=by rw[←hk];exact HV.out a (List.mem_of_getElem? ha)
     have hown:=own_lit wr #[] 9 0 (by unfold maxLen;omega) rfl
     have hba:=below1 wr (.cells #[] 9)
     have y2:=(hba.cell (p:=⟨w.heap.size,1,none⟩) (Nat.lt_of_lt_of_le HX2.out.lt hbr.size)).trans y1
     have e2:=(hba.cell (p:=⟨g,o+i*2+1,none⟩) (Nat.lt_of_lt_of_le hg hbr.size)).trans e1
     have hV:=hat.has
     rw[hk] at hV
     have hV1:=(hV.upto hbr.size).below hba
     have h1s:=strs_one a.2
     have HE:=hide (HB2.out.trans ((hbr.trans (hba.mono hbr.size)).mono HB2.out.size))
     have hs8:=hba.size
     have Hpd:=hide hpd
     have Hk:=hide hk
     have hle:Hid (w.heap.size≤wr.heap.size):=hide (Nat.le_trans HB2.out.size hbr.size)
     generalize txt a.1=TA at *
     clear hba hV hat hpd hk hpre HA2 HL2 HV HN HR HX2 HB2 hbr ha d1
     go_wp2_with (at_builtin;go_must (refine appE _ 50 9 _ 1 16 Tryz.underlying50 infoS rfl (by omega) (by omega) rfl (.tmp 29) (.tmp 35) rfl wr.heap.size _ 0 [] rfl hown _ _ k _ (strs a.2) rfl hV1 h1s (by omega) hs8 ?_))
     intro v' w6 hor6 hb6 _
     have Ho:Hid (w6.ownsRow w.heap.size 9 1 v' R.length (strs R)):=hide (by
      rw[Hpd.out,Hk.out]
      refine own_base (base:=wr.heap.size) ?_ hle.out
      simpa using hor6)
     have HE2:=hide (HE.out.trans (hb6.mono hle.out))
     clear hor6 hb6 hown hV1 h1s hs8 HE e0 e1 y1
     go_wp2
     go_ret
     exact⟨_,rfl,Ho.out,HE2.out⟩
    ·rw [if_neg hat1] at hpd
     have q1:((txt a.1).toList==T.toList)=false:=by rw[←HT.out];exact str_ne hat1
     have Hpd:=hide hpd.symm
     generalize txt a.1=TA at *
     clear hat hpd hpre hat1 ha
     go_wp2
     go_roundg r
     case measure=>omega
     case rel=>exact⟨i+1,by omega,by go_num,Hpd,hbr⟩
theorem rwithin_any (name v:List UInt8) (L:List (List UInt8)) (w:World) (A:Option Addr) (n c:Nat) (hA:Has w w.heap.size 1 A n (strs L)) (hn:n≤1000000) (hname:name.length≤1000000) (hv:v.length≤1000000) (hL:∀u∈L,u.length≤1000000) (hT:TM w):
  Calls Tryz.prog 38 #[.string (txt name),.slice A n c,.string (txt v)] w fun e w'=>e=.returned (.bool (Tr (WithinV name L v)))∧Below w.heap.size w w':=by
 have hnl:=hA.strs_n
 have hV:=fun w hT=>rvalue_big name v hname hv w hT
 have hU:=fun u (hu:u∈L) w hT=>rvalue_big name u hname (hL u hu) w hT
 by_cases h0:(valV name v).2=0
 ·obtain ⟨R,hR⟩:∃R,Tr (WithinV name L v)=R:=⟨_,rfl⟩
  rw[hR]
  rw[h0] at hV
  obtain⟨m,hm⟩:∃m,(valV name v).1=m:=⟨_,rfl⟩
  rw[hm] at hV
  have HR:Hid ((∃u∈L,(valV name u).2=0∧(valV name u).1=m)↔R=true):=hide (by
   rw[←hR,Tr_iff,←hm]
   constructor
   ·rintro ⟨u,hu,h1,h2⟩
    exact⟨u,hu,h0,h1,h2⟩
   ·rintro ⟨u,hu,_,h1,h2⟩
    exact⟨u,hu,h1,h2⟩)
  have HV:=hide hV
  have HU:=hide hU
  have HA:=hide hA
  have HN:=hide hnl
  clear hR hm h0 hV hU hA hnl hname hv hL
  generalize txt name=SN at *
  generalize txt v=SV at *
  obtain⟨M,hM⟩:∃M,txt m=M:=⟨_,rfl⟩
  have HM:=hide hM
  rw[hM] at HV
  clear hM
  go_enter Tryz.func38,Tryz.ntmps38
  go_wp2_with (go_at_call 37;fail)
  refine (HV.out _ hT).mono ?_
  rintro e w2 ⟨rfl,hb2⟩
  have HB2:=hide hb2
  have HT2:=hide (hT.below hb2)
  have HA2:=hide ((HA.out.below hb2).upto hb2.size)
  clear hb2 HA hT HV
  go_wp2
  go_loopg [22] n (fun r s22 wx=>∃i:Nat,i+r=n∧s22=.int .i64 (i:Int)∧Hid (∀u∈L.take i,¬((valV name u).2=0∧(valV name u).1=m))∧Below w2.heap.size w2 wx)
  case atStart=>exact⟨0,by omega,rfl,hide fun u hu=>(by simp at hu),Below.refl _ _⟩
  case round=>
   obtain⟨i,hig,rfl,hpre,hbr⟩:=hrel
   cases gk with
   | zero=>
    obtain rfl:n=i:=by omega
    have hiz:¬((n:Int)<(n:Int)):=by omega
    have hR1:Hid (R=false):=hide (by
     cases hR:R with
     | false=>rfl
     | true=>
      obtain⟨u,hu,h1⟩:=HR.out.2 hR
      have:=hpre.out
      rw[List.take_of_length_le (by rw[HN.out];exact Nat.le_refl _)] at this
      exact absurd h1 (this u hu))
    have HE:=hide (HB2.out.trans (hbr.mono HB2.out.size))
    clear hpre HA2 HU HN HR hbr HT2
    go_wp2
    go_ret
    exact⟨by rw[hR1.out];rfl,HE.out⟩
   | succ r=>
    have hi:i<n:=by omega
    have hiz:(i:Int)<(n:Int):=by omega
    obtain⟨u,hu⟩:∃u,L[i]?=some u:=⟨_,List.getElem?_eq_getElem (by rw[←HN.out];exact hi)⟩
    obtain⟨g,o,hAe,hg,hat⟩:=HA2.out.texts (fun h=>by rw[h] at hu;simp at hu)
    subst hAe
    have e0:=(hbr.cell (p:=⟨g,o+i,none⟩) hg).trans (hat i u hu)
    have hcall:=HU.out u (List.mem_of_getElem? hu)
    have htk:L.take (i+1)=L.take i++[u]:=by rw[List.take_add_one,hu];rfl
    obtain⟨y,hy⟩:∃y,(valV name u).2=y:=⟨_,rfl⟩
    obtain⟨z,hz⟩:∃z,(valV name u).1=z:=⟨_,rfl⟩
    by_cases hok:y=0∧z=m
    ·have hR1:Hid (R=true):=hide (HR.out.1 ⟨u,List.mem_of_getElem? hu,by rw[hy];exact hok.1,by rw[hz];exact hok.2⟩)
     rw[hy,hz] at hcall
     obtain⟨rfl,rfl⟩:=hok
     have q1:((txt z).toList==M.toList)=true:=by rw[HM.out];simp
     generalize txt u=SU at *
     generalize txt z=SZ at *
     clear hat hu htk hy hz hpre HR HN HA2 HU
     go_wp2_with (go_at_call 37;fail)
     refine (hcall _ (HT2.out.below hbr)).mono ?_
     rintro e w3 ⟨rfl,hb3⟩
     have HE:=hide (HB2.out.trans ((hbr.trans (hb3.mono hbr.size)).mono HB2.out.size))
     clear hcall hb3 hbr e0 HT2 HB2
     go_wp2
     go_ret
     exact⟨by rw[hR1.out];rfl,HE.out⟩
    ·have hnext:Hid (∀x∈L.take (i+1),¬((valV name x).2=0∧(valV name x).1=m)):=hide (by
      rw[htk]
      intro x hx
      rcases List.mem_append.1 hx with h | h
      ·exact hpre.out x h
      ·obtain rfl:=List.mem_singleton.1 h
       rw[hy,hz]
       exact hok)
     rw[hy,hz] at hcall
     by_cases hy0:y=0
     ·subst hy0
      have hzm:z≠m:=fun e=>hok ⟨rfl,e⟩
      have q1:((txt z).toList==M.toList)=false:=by rw[←HM.out];exact str_ne hzm
      generalize txt u=SU at *
      generalize txt z=SZ at *
      clear hat hu htk hy hz hpre hok hzm
      go_wp2_with (go_at_call 37;fail)
      refine (hcall _ (HT2.out.below hbr)).mono ?_
      rintro e w3 ⟨rfl,hb3⟩
      have hbn:=hbr.trans (hb3.mono hbr.size)
      clear hcall hb3 hbr e0
      go_wp2
      go_roundg r
      case measure=>omega
      case rel=>exact⟨i+1,by omega,by go_num,hnext,hbn⟩
     ·have q1:(y==0)=false:=beq_false_of_ne hy0
      generalize txt u=SU at *
      generalize txt z=SZ at *
      clear hat hu htk hy hz hpre hok hy0
      go_wp2_with (go_at_call 37;fail)
      refine (hcall _ (HT2.out.below hbr)).mono ?_
      rintro e w3 ⟨rfl,hb3⟩
      have hbn:=hbr.trans (hb3.mono hbr.size)
      clear hcall hb3 hbr e0
      go_wp2
      go_roundg r
      case measure=>omega
      case rel=>exact⟨i+1,by omega,by go_num,hnext,hbn⟩
 ·have hF:¬WithinV name L v:=fun ⟨u,_,h,_⟩=>h0 h
  rw[Tr_no hF]
  have q0:((valV name v).2==0)=false:=beq_false_of_ne h0
  have q1:((valV name v).2 !=0)=true:=by unfold bne;rw[q0];rfl
  have HV:=hide hV
  generalize (valV name v).2=y at *
  generalize txt (valV name v).1=M at *
  generalize txt name=SN at *
  generalize txt v=SV at *
  clear h0 hV hU hA hnl hF
  go_enter Tryz.func38,Tryz.ntmps38
  go_wp2_with (go_at_call 37;fail)
  refine (HV.out _ hT).mono ?_
  rintro e w2 ⟨rfl,hb2⟩
  have HE:=hide hb2
  clear hb2 HV
  go_wp2
  go_ret
  exact⟨rfl,HE.out⟩
end Go.Proofs.YtiobnllopliclaaGreatDoor
namespace Go.Proofs.YtiobnllopliclaaGreatDoor
open Go.RowKit
set_option linter.unusedVariables false
set_option linter.unusedSimpArgs false
structure ViewPost (R:List (List UInt8)) (w:World) (e:Ending) (w':World):Prop where
 out:∃A c,e=.returned (.slice A R.length c)∧Has w' w'.heap.size 1 A R.length (strs R)∧R.length≤c∧c≤maxLen∧Below w.heap.size w w'
theorem pvals_any (nm:List UInt8) (L:List EA) (name:List UInt8) (w:World) (A:Option Addr) (n c:Nat) (xs:List Value) (hA:Has w w.heap.size 2 A n xs) (hL:EAs w w.heap.size xs L) (hn:n≤1000000) (hT:TM w):
  Calls Tryz.prog 44 #[.agg #[.string (txt nm),.slice A n c],.string (txt name)] w (ViewPost (valuesE L name) w):=by
 suffices H:Calls Tryz.prog 44 #[.agg #[.string (txt nm),.slice A n c],.string (txt name)] w fun e w'=>∃A c,e=.returned (.slice A (valuesE L name).length c)∧Has w' w'.heap.size 1 A (valuesE L name).length (strs (valuesE L name))∧(valuesE L name).length≤c∧c≤maxLen∧Below w.heap.size w w' from H.mono fun e w' h=>⟨h⟩
 have hnl:=hA.eas_n hL
 have hTy:=fun w hT=>type_any (txt name) w hT
 simp only[txt_toList] at hTy
 have hb1:=below1 w (.cells #[.string (txt nm),.slice A n c] 26)
 have hX:=BoxE.new w (txt nm) A n c 26
 have hT1:=hT.below hb1
 by_cases h0:(typ name).2=0
 ·have hR:valuesE L name=[]:=by unfold valuesE;rw[if_pos h0]
  rw[hR]
  rw[h0] at hTy
  have HTy:=hide hTy
  have HB:=hide hb1
  have HT:=hide hT1
  generalize txt (typ name).1=TN at *
  generalize txt name=S at *
  generalize txt nm=SN at *
  clear hTy hb1 hX hA hL h0 hR hnl hT hT1
  go_enter Tryz.func44,Tryz.ntmps44
  go_wp2_with (go_at_call 61;fail)
  refine (HTy.out _ HT.out.tt.types).mono ?_
  rintro e w2 ⟨rfl,hb2⟩
  have HB2:=hide (HB.out.trans (hb2.mono HB.out.size))
  clear hb2 HB HTy HT
  go_wp2
  go_ret
  exact⟨none,0,rfl,⟨rfl,.inl rfl⟩,by simp,by unfold maxLen;omega,HB2.out⟩
 ·have q0:((typ name).2==0)=false:=beq_false_of_ne h0
  obtain⟨t,ht⟩:∃t,(typ name).1=t:=⟨_,rfl⟩
  obtain⟨R,hR⟩:∃R,valuesE L name=R:=⟨_,rfl⟩
  have hR0:pickE L t=R:=by rw[←hR,←ht];unfold valuesE;rw[if_neg h0]
  rw[hR]
  rw[ht] at hTy
  have HTy:=hide hTy
  have HB:=hide hb1
  have HX:=hide hX
  have HR:=hide hR0
  have HA1:=hide ((hA.below hb1).upto hb1.size)
  have HL1:=hide (hL.grow hb1)
  have HT:=hide hT1
  have HN:=hide hnl
  have x1:=hX.c1
  generalize (typ name).2=ty at *
  generalize txt name=S at *
  generalize txt nm=SN at *
  clear hTy hb1 hX hA hL h0 hR hR0 ht hnl hT hT1
  obtain⟨T,hT⟩:∃T,txt t=T:=⟨_,rfl⟩
  have HTt:=hide hT
  rw[hT] at HTy
  clear hT
  go_enter Tryz.func44,Tryz.ntmps44
  go_wp2_with (go_at_call 61;fail)
  refine (HTy.out _ HT.out.tt.types).mono ?_
  rintro e w2 ⟨rfl,hb2⟩
  have HB2:=hide (HB.out.trans (hb2.mono HB.out.size))
  have HX2:=hide (HX.out.grow hb2)
  have HA2:=hide ((HA1.out.below hb2).upto hb2.size)
  have HL2:=hide (HL1.out.grow hb2)
  have d1:=HX2.out.c1
  clear hb2 HB HTy HX HA1 HL1 x1 HT
  go_wp2
  go_loopg [19] n (fun r s19 wx=>∃i:Nat,i+r=n∧s19=.int .i64 (i:Int)∧Hid (pickE (L.drop i) t=R)∧Hid (Below w2.heap.size w2 wx))
  case atStart=>exact⟨0,by omega,rfl,hide (by rw[List.drop_zero];exact HR.out),hide (Below.refl _ _)⟩
  case round=>
   obtain⟨i,hig,rfl,hpre,hbr⟩:=hrel
   clear d1
   cases gk with
   | zero=>
    obtain rfl:n=i:=by omega
    have hiz:¬((n:Int)<(n:Int)):=by omega
    have hp:=hpre.out
    rw[List.drop_eq_nil_of_le (by rw[HN.out];exact Nat.le_refl _)] at hp
    have hR1:Hid (R=[]):=hide hp.symm
    have HE:=hide (HB2.out.trans (hbr.out.mono HB2.out.size))
    clear hp hpre HX2 HA2 HL2 HN HR hbr
    go_wp2
    go_ret
    exact⟨none,0,by rw[hR1.out];rfl,by rw[hR1.out];exact⟨rfl,.inl rfl⟩,by rw[hR1.out];simp,by unfold maxLen;omega,HE.out⟩
   | succ r=>
    have hi:i<n:=by omega
    have hiz:(i:Int)<(n:Int):=by omega
    obtain⟨a,ha⟩:∃a,L[i]?=some a:=⟨_,List.getElem?_eq_getElem (by rw[←HN.out];exact hi)⟩
    obtain⟨g,o,hAe,hg,hat⟩:=HA2.out.ea HL2.out (fun h=>by rw[h] at ha;simp at ha)
    subst hAe
    obtain⟨V,cv,hat⟩:=hat i a ha
    have hat:=hat.below hg hbr.out
    have e0:=hat.e0
    have e1:=hat.e1
    have hpd:=pick_drop ha t
    rw[hpre.out] at hpd
    obtain⟨k,hk⟩:∃k,a.2.length=k:=⟨_,rfl⟩
    rw[hk] at e1
    have hba:=below1 wr (.cells #[.string (txt a.1),.slice V k cv] 52)
    have hXa:=BoxE.new wr (txt a.1) V k cv 52
    have u0:=hXa.c0
    have u1:=hXa.c1
    have HE:=hide (hbr.out.trans (hba.mono hbr.out.size))
    have hV1:=((hat.has.upto hbr.out.size).below hba).upto hba.size
    have hcap:=hat.cap
    have hmost:=hat.most
    by_cases hat1:a.1=t
    ·rw [if_pos hat1] at hpd
     have q1:((txt a.1).toList==T.toList)=true:=by rw[hat1,HTt.out];simp
     have Hpd:=hide hpd
     have Hk:=hide hk
     have HV1:=hide hV1
     have Hcap:=hide (And.intro hcap hmost)
     have HE2:=hide (HB2.out.trans (HE.out.mono HB2.out.size))
     generalize txt a.1=TA at *
     clear hba hat hpd hk hpre HA2 HL2 HN HR HX2 HB2 hbr ha hXa hat1 hV1 hcap hmost HE
     go_wp2
     go_ret
     exact⟨V,cv,by rw[Hpd.out,Hk.out];rfl,by rw[Hpd.out];exact HV1.out,by rw[Hpd.out];exact Hcap.out.1,Hcap.out.2,HE2.out⟩
    ·rw [if_neg hat1] at hpd
     have q1:((txt a.1).toList==T.toList)=false:=by rw[←HTt.out];exact str_ne hat1
     have Hpd:=hide hpd.symm
     generalize txt a.1=TA at *
     clear hat hpd hpre hat1 ha hba hXa hV1 hcap hmost hk hbr
     go_wp2
     go_roundg r
     case measure=>omega
     case rel=>exact⟨i+1,by omega,by go_num,Hpd,HE⟩
end Go.Proofs.YtiobnllopliclaaGreatDoor
namespace Go.Proofs.YtiobnllopliclaaGreatDoor
open Go.RowKit
set_option linter.unusedVariables false
set_option linter.unusedSimpArgs false
theorem contains_any (w:World) (B:Nat) (A:Option Addr) (n c:Nat) (L:List (List UInt8)) (u:List UInt8) (hA:Has w B 1 A n (strs L)) (hn:n≤1000000):
  Calls Tryz.prog 93 #[.slice A n c,.string (txt u)] w fun e w'=>e=.returned (.bool (Tr (u∈L)))∧w'=w:=by
 have h1:=hA.strs_n
 by_cases hL:L=[]
 ·subst hL
  obtain rfl:n=0:=by simpa using h1
  rw[Tr_no (by simp)]
  exact Tryz.slices_Contains_string_empty A c (txt u) w
 ·obtain ⟨g,o,rfl,_,hc⟩:=hA.texts hL
  refine (Tryz.slices_Contains_string g o n c (L.map txt) (txt u) w (by rw[List.length_map];omega) (by omega) (texts_getD hc)).mono ?_
  rintro e w' ⟨rfl,rfl⟩
  refine⟨?_,rfl⟩
  rw[List.take_of_length_le (by rw[List.length_map];omega)]
  congr 2
  rw[Bool.eq_iff_iff,Lib.containsS_iff,Tr_iff]
  constructor
  ·intro h
   obtain⟨x,hx,he⟩:=List.mem_map.1 h
   rwa [←txt_inj he]
  ·intro h
   exact List.mem_map.2 ⟨u,h,rfl⟩
end Go.Proofs.YtiobnllopliclaaGreatDoor
namespace Go.Proofs.YtiobnllopliclaaGreatDoor
open Go.RowKit
set_option linter.unusedVariables false
set_option linter.unusedSimpArgs false
theorem rhas_any (nm:List UInt8) (L:List EA) (name v:List UInt8) (w:World) (A:Option Addr) (n c:Nat) (xs:List Value) (hA:Has w w.heap.size 2 A n xs) (hL:EAs w w.heap.size xs L) (hn:n≤1000000)
  (hname:name.length≤1000000) (hv:v.length≤1000000) (hvs:∀a∈L,a.2.length≤1000000∧∀u∈a.2,u.length≤1000000) (hT:TM w):
  Calls Tryz.prog 60 #[.agg #[.string (txt nm),.slice A n c],.string (txt name),.string (txt v)] w fun e w'=>e=.returned (.bool (Tr (HasE L name v)))∧Below w.heap.size w w':=by
 have hb1:=below1 w (.cells #[.string (txt nm),.slice A n c] 26)
 have hX:=BoxE.new w (txt nm) A n c 26
 have HV:=hide (fun w hA hL=>rvals_any nm L name w A n c xs hA hL hn (by omega) (fun a ha=>(hvs a ha).1))
 have hR:(valuesE L name).length≤1000000∧∀u∈valuesE L name,u.length≤1000000:=by
  unfold valuesE
  split
  ·simp
  ·rcases pick_mem L (typ name).1 with h | ⟨a,ha,h⟩
   ·rw [h];simp
   ·rw [h];exact hvs a ha
 have HW:=hide (fun w A n c hA hn hT=>rwithin_any name v (valuesE L name) w A n c hA hn hname hv hR.2 hT)
 unfold HasE
 obtain⟨b,hb⟩:∃b,Tr (WithinV name (valuesE L name) v)=b:=⟨_,rfl⟩
 rw[hb] at HW ⊢
 have HA:=hide ((hA.below hb1).upto hb1.size)
 have HL:=hide (hL.grow hb1)
 have HT:=hide (hT.below hb1)
 have HB:=hide hb1
 have HR:=hide hR.1
 have x0:=hX.c0
 have x1:=hX.c1
 clear hb1 hX hR hA hL hT hb hvs hv hname hn
 generalize valuesE L name=R at *
 generalize txt nm=SN at *
 generalize txt name=S at *
 generalize txt v=U at *
 go_enter Tryz.func60,Tryz.ntmps60
 go_wp2_with (go_at_call 36;fail)
 refine (HV.out _ HA.out HL.out).mono ?_
 rintro e w2 hpost
 obtain⟨vv,rfl,hown,hb2⟩:=hpost.out
 obtain⟨A2,c2,rfl,hc2,hh2⟩:=own_form hown
 have HB2:=hide (HB.out.trans (hb2.mono HB.out.size))
 have HT2:=hide (HT.out.below hb2)
 have HH:=hide hh2
 clear hpost hown hb2 hh2 HB HT HA HL HV x0 x1
 go_wp2_with (go_at_call 38;fail)
 refine (HW.out _ _ _ _ HH.out HR.out HT2.out).mono ?_
 rintro e w3 ⟨rfl,hb3⟩
 have HB3:=hide (HB2.out.trans (hb3.mono HB2.out.size))
 clear hb3 HB2 HT2 HH HW
 go_wp2
 go_ret
 exact⟨rfl,HB3.out⟩
end Go.Proofs.YtiobnllopliclaaGreatDoor
namespace Go.Proofs.YtiobnllopliclaaGreatDoor
open Go.RowKit
set_option linter.unusedVariables false
set_option linter.unusedSimpArgs false
theorem indexf_any (g:Nat) (lb:Array Value) (eg:∀args w,(callFunc g args).run Tryz.prog w=.ok (.enter g args) w) (p:List UInt8→Bool) (L:List (List UInt8)) (w:World) (A:Option Addr) (n c:Nat) (hA:Has w w.heap.size 1 A n (strs L)) (hn:n≤1000000)
  (hp:∀u∈L,∀W,Below w.heap.size w W→Calls Tryz.prog g (#[.string (txt u)]++lb) W fun e w'=>e=.returned (.bool (p u))∧Below W.heap.size W w'):
  Calls Tryz.prog 142 #[.slice A n c,.func (.func g) #[] lb] w fun e w'=>∃x:Int,e=.returned (.int .i64 x)∧(0≤x↔∃u∈L,p u=true)∧Below w.heap.size w w':=by
 have hnl:=hA.strs_n
 have HA:=hide hA
 have HN:=hide hnl
 have HP:=hide hp
 clear hA hnl hp
 go_enter Tryz.func142,Tryz.ntmps142
 go_wp2
 go_loopg [8] n (fun r s8 wx=>∃i:Nat,i+r=n∧s8=.int .i64 (i:Int)∧Hid (∀u∈L.take i,p u=false)∧Hid (Below w.heap.size w wx))
 case atStart=>exact⟨0,by omega,rfl,hide fun u hu=>(by simp at hu),hide (Below.refl _ _)⟩
 case round=>
  obtain⟨i,hig,rfl,hpre,hbr⟩:=hrel
  cases gk with
  | zero=>
   obtain rfl:n=i:=by omega
   have hiz:¬((n:Int)<(n:Int)):=by omega
   have hno:Hid (¬∃u∈L,p u=true):=hide (by
    rintro ⟨u,hu,h⟩
    have:=hpre.out
    rw[List.take_of_length_le (by rw[HN.out];exact Nat.le_refl _)] at this
    rw[this u hu] at h
    cases h)
   clear hpre HA HN HP
   go_wp2
   go_ret
   exact⟨-1,rfl,⟨fun h=>absurd h (by omega),fun h=>absurd h hno.out⟩,hbr.out⟩
  | succ r=>
   have hi:i<n:=by omega
   have hiz:(i:Int)<(n:Int):=by omega
   obtain⟨u,hu⟩:∃u,L[i]?=some u:=⟨_,List.getElem?_eq_getElem (by rw[←HN.out];exact hi)⟩
   obtain⟨g1,o1,hAe,hg,hat⟩:=HA.out.texts (fun h=>by rw[h] at hu;simp at hu)
   subst hAe
   have e0:=(hbr.out.cell (p:=⟨g1,o1+i,none⟩) hg).trans (hat i u hu)
   have hcall:=HP.out u (List.mem_of_getElem? hu) wr hbr.out
   obtain⟨b,hb⟩:∃b,p u=b:=⟨_,rfl⟩
   rw[hb] at hcall
   have Hcall:=hide hcall
   cases b with
   | true=>
    have hyes:Hid (∃u∈L,p u=true):=hide ⟨u,List.mem_of_getElem? hu,hb⟩
    generalize txt u=SU at *
    clear hcall hat hu hb hpre HA HN HP
    go_wp2_with (go_at_fn g;fail)
    refine Hcall.out.mono ?_
    rintro e w3 ⟨rfl,hb3⟩
    have HE:=hide (hbr.out.trans (hb3.mono hbr.out.size))
    clear hb3 hbr Hcall e0
    go_wp2
    go_ret
    exact⟨(i:Int),rfl,⟨fun _=>hyes.out,fun _=>by omega⟩,HE.out⟩
   | false=>
    have hnext:Hid (∀x∈L.take (i+1),p x=false):=hide (by
     rw[List.take_add_one,hu]
     intro x hx
     rcases List.mem_append.1 hx with h | h
     ·exact hpre.out x h
     ·obtain rfl:x=u:=by simpa using h
      exact hb)
    generalize txt u=SU at *
    clear hcall hat hu hb hpre
    go_wp2_with (go_at_fn g;fail)
    refine Hcall.out.mono ?_
    rintro e w3 ⟨rfl,hb3⟩
    have HE:=hide (hbr.out.trans (hb3.mono hbr.out.size))
    clear hb3 hbr Hcall e0
    go_wp2
    go_roundg r
    case measure=>omega
    case rel=>exact⟨i+1,by omega,by go_num,hnext,HE⟩
theorem containsf_any (g:Nat) (lb:Array Value) (eg:∀args w,(callFunc g args).run Tryz.prog w=.ok (.enter g args) w) (p:List UInt8→Bool) (L:List (List UInt8)) (w:World) (A:Option Addr) (n c:Nat) (hA:Has w w.heap.size 1 A n (strs L)) (hn:n≤1000000)
  (hp:∀u∈L,∀W,Below w.heap.size w W→Calls Tryz.prog g (#[.string (txt u)]++lb) W fun e w'=>e=.returned (.bool (p u))∧Below W.heap.size W w'):
  Calls Tryz.prog 109 #[.slice A n c,.func (.func g) #[] lb] w fun e w'=>e=.returned (.bool (Tr (∃u∈L,p u=true)))∧Below w.heap.size w w':=by
 have HI:=hide (indexf_any g lb eg p L w A n c hA hn hp)
 clear hA hn hp
 go_enter Tryz.func109,Tryz.ntmps109
 go_wp2_with (go_at_call 142;fail)
 refine HI.out.mono ?_
 rintro e w2 ⟨x,rfl,hx,hb⟩
 have Hx:=hide hx
 have HB:=hide hb
 clear HI hx hb
 by_cases h:0≤x
 ·go_wp2
  go_ret
  exact⟨by rw[Tr_yes (Hx.out.1 h)];rfl,HB.out⟩
 ·go_wp2
  go_ret
  exact⟨by rw[Tr_no fun q=>absurd (Hx.out.2 q) (by omega)];simp;omega,HB.out⟩
noncomputable def likeB (name m u:List UInt8):Bool:=((valV name u).2==0)&&((valV name u).1==m)
theorem has1_any (name m u:List UInt8) (w:World) (h k:Nat) (hh:w.cell? ⟨h,0,none⟩=some (.string (txt name))) (hk:w.cell? ⟨k,0,none⟩=some (.string (txt m))) (lk:k<w.heap.size) (hname:name.length≤1000000) (hu:u.length≤1000000) (hT:TM w):
  Calls Tryz.prog 110 #[.string (txt u),.pointer (some ⟨h,0,none⟩),.pointer (some ⟨k,0,none⟩)] w fun e w'=>e=.returned (.bool (likeB name m u))∧Below w.heap.size w w':=by
 have hV:=pvalue_big name u hname hu w hT
 unfold likeB
 obtain⟨y,hy⟩:∃y,(valV name u).2=y:=⟨_,rfl⟩
 obtain⟨z,hz⟩:∃z,(valV name u).1=z:=⟨_,rfl⟩
 rw[hy,hz] at hV ⊢
 have q1:((txt z).toList==(txt m).toList)=(z==m):=by rw[txt_bytes,txt_bytes]
 obtain⟨b0,hb0⟩:∃b,(y==0)=b:=⟨_,rfl⟩
 obtain⟨b1,hb1⟩:∃b,(z==m)=b:=⟨_,rfl⟩
 rw[hb1] at q1
 rw[hb0,hb1]
 have HV:=hide hV
 clear hV hy hz hb1 hT
 generalize txt z=Z at *
 generalize txt m=M at *
 generalize txt name=S at *
 generalize txt u=U at *
 cases b0
 all_goals
  go_enter Tryz.func110,Tryz.ntmps110
  go_wp2_with (go_at_call 64;fail)
  refine HV.out.mono ?_
  rintro e w2 ⟨rfl,hb2⟩
  have k2:=(hb2.cell (p:=⟨k,0,none⟩) lk).trans hk
  have HB:=hide hb2
  clear hb2 HV hh hk
  go_wp2
  go_ret
  exact⟨by simp,HB.out⟩
theorem phas_any (nm:List UInt8) (L:List EA) (name v:List UInt8) (w:World) (A:Option Addr) (n c:Nat) (xs:List Value) (hA:Has w w.heap.size 2 A n xs) (hL:EAs w w.heap.size xs L) (hn:n≤1000000)
  (hname:name.length≤1000000) (hv:v.length≤1000000) (hvs:∀a∈L,a.2.length≤1000000∧∀u∈a.2,u.length≤1000000) (hT:TM w):
  Calls Tryz.prog 75 #[.agg #[.string (txt nm),.slice A n c],.string (txt name),.string (txt v)] w fun e w'=>e=.returned (.bool (Tr (HasE L name v)))∧Below w.heap.size w w':=by
 have hR:(valuesE L name).length≤1000000∧∀u∈valuesE L name,u.length≤1000000:=by
  unfold valuesE
  split
  ·simp
  ·rcases pick_mem L (typ name).1 with h | ⟨a,ha,h⟩
   ·rw [h];simp
   ·rw [h];exact hvs a ha
 have hV:=fun w hT=>pvalue_big name v hname hv w hT
 have hb1:=below1 w (.cells #[.string (txt nm),.slice A n c] 26)
 have hX:=BoxE.new w (txt nm) A n c 26
 obtain⟨w1,hw1⟩:∃w1,w.alloc (.cells #[.string (txt nm),.slice A n c] 26)=w1:=⟨_,rfl⟩
 have hs1:w1.heap.size=w.heap.size+1:=by rw[←hw1];simp
 rw[hw1] at hb1 hX
 have hb2:=below1 w1 (.cells #[.string (txt name)] 9)
 have hN:(w1.alloc (.cells #[.string (txt name)] 9)).cell? ⟨w1.heap.size,0,none⟩=some (.string (txt name)):=by rw[World.cell?_alloc_at (hn:=by simp)];rfl
 have hNl:w1.heap.size<(w1.alloc (.cells #[.string (txt name)] 9)).heap.size:=by simp
 obtain⟨w2,hw2⟩:∃w2,w1.alloc (.cells #[.string (txt name)] 9)=w2:=⟨_,rfl⟩
 rw[hw2] at hb2 hN hNl
 rw[hs1] at hN hNl
 have hX2:=hX.grow hb2
 have hbb:=hb1.trans (hb2.mono hb1.size)
 have HX:=hide hX2
 have HB:=hide hbb
 have HT:=hide (hT.below hbb)
 have HA:=hide ((hA.below hbb).upto hbb.size)
 have HL:=hide (hL.grow hbb)
 have Hw1:=hide hw1
 have Hw2:=hide hw2
 have Hs1:=hide hs1
 obtain⟨h,hh⟩:∃h,w.heap.size=h:=⟨_,rfl⟩
 obtain⟨k,hk⟩:∃k,w.heap.size+1=k:=⟨_,rfl⟩
 rw[hh] at HX
 rw[hk] at hN hNl
 have Hh:=hide hh
 have Hk:=hide hk
 have HN:=hide (And.intro hN hNl)
 clear hb1 hX hw1 hs1 hb2 hN hNl hw2 hX2 hbb hh hk hA hL hT
 by_cases h0:(valV name v).2=0
 ·obtain ⟨m,hm⟩:∃m,(valV name v).1=m:=⟨_,rfl⟩
  rw[h0,hm] at hV
  have HPV:=hide (fun w hA hL hT=>pvals_any nm L name w A n c xs hA hL hn hT)
  have HH1:=hide (fun u (hu:u∈valuesE L name) w j hh hk lk hT=>has1_any name m u w k j hh hk lk hname (hR.2 u hu) hT)
  obtain⟨Q,hQ⟩:∃Q,Tr (HasE L name v)=Q:=⟨_,rfl⟩
  have HQ:Hid (Tr (∃u∈valuesE L name,likeB name m u=true)=Q):=hide (by
   rw[←hQ]
   unfold HasE WithinV AlikeV likeB
   by_cases hq:∃u∈valuesE L name,(valV name v).2=0∧(valV name u).2=0∧(valV name u).1=(valV name v).1
   ·rw [Tr_yes hq,Tr_yes]
    obtain⟨u,hu,_,h1,h2⟩:=hq
    exact⟨u,hu,by rw[h1,h2,hm];simp⟩
   ·rw [Tr_no hq,Tr_no]
    rintro ⟨u,hu,h1⟩
    simp only[Bool.and_eq_true,beq_iff_eq] at h1
    exact hq ⟨u,hu,h0,h1.1,h1.2.trans hm.symm⟩)
  rw[hQ]
  have HV:=hide hV
  have HR1:=hide hR.1
  clear hV hR hQ h0 hm hvs hv
  obtain⟨R,hRe⟩:∃R,valuesE L name=R:=⟨_,rfl⟩
  rw[hRe] at HPV HH1 HQ HR1
  generalize txt nm=SN at *
  generalize txt v=SV at *
  generalize txt m=SM at *
  generalize txt name=S at *
  go_enter Tryz.func75,Tryz.ntmps75
  go_upto_region 1 with fail
  rw[Hw1.out,Hw2.out]
  try rw[Hs1.out]
  rw[Hk.out,Hh.out]
  have n0:=HN.out.1
  go_wp2_with (go_at_call 64;fail)
  refine (HV.out _ HT.out).mono ?_
  rintro e w3 ⟨rfl,hb3⟩
  have hX3:=HX.out.grow hb3
  have n3:=(hb3.cell (p:=⟨k,0,none⟩) HN.out.2).trans n0
  have l3:=Nat.lt_of_lt_of_le HN.out.2 hb3.size
  have hba:=below1 w3 (.cells #[.string SM] 9)
  have hM:(w3.alloc (.cells #[.string SM] 9)).cell? ⟨w3.heap.size,0,none⟩=some (.string SM):=by rw[World.cell?_alloc_at (hn:=by simp)];rfl
  have hMl:w3.heap.size<(w3.alloc (.cells #[.string SM] 9)).heap.size:=by simp
  have hX4:=hX3.grow hba
  have n4:=(hba.cell (p:=⟨k,0,none⟩) l3).trans n3
  have l4:=Nat.lt_of_lt_of_le l3 hba.size
  have hb4:=hb3.trans (hba.mono hb3.size)
  have HB4:=hide (HB.out.trans (hb4.mono HB.out.size))
  have HT4:=hide (HT.out.below hb4)
  have HA4:=hide ((HA.out.below hb4).upto hb4.size)
  have HL4:=hide (HL.out.grow hb4)
  obtain⟨j,hj⟩:∃j,w3.heap.size=j:=⟨_,rfl⟩
  have Hj:=hide hj
  rw[hj] at hM hMl
  have x0:=hX4.c0
  have x1:=hX4.c1
  have HM:=hide (And.intro hM hMl)
  have HN4:=hide (And.intro n4 l4)
  clear hX3 n3 l3 hba hX4 l4 hb4 hb3 HB HT HA HL HX HV hj hM hMl n0 HN
  go_wp2_with (go_at_call 44;fail)
  refine (HPV.out _ HA4.out HL4.out HT4.out).mono ?_
  rintro e w5 hpost
  obtain⟨A5,c5,rfl,hh5,_,_,hb5⟩:=hpost.out
  have HB5:=hide (HB4.out.trans (hb5.mono HB4.out.size))
  have HT5:=hide (HT4.out.below hb5)
  have c1:=(hb5.cell (p:=⟨k,0,none⟩) HN4.out.2).trans HN4.out.1
  have c2:=(hb5.cell (p:=⟨j,0,none⟩) HM.out.2).trans HM.out.1
  have l1:=Nat.lt_of_lt_of_le HN4.out.2 hb5.size
  have l2:=Nat.lt_of_lt_of_le HM.out.2 hb5.size
  have hC:=containsf_any 110 #[.pointer (some ⟨k,0,none⟩),.pointer (some ⟨j,0,none⟩)] (fun args w=>by go_simp) (likeB name m) R w5 A5 R.length c5 hh5 HR1.out (fun u hu W hW=>HH1.out u hu W j ((hW.cell (p:=⟨k,0,none⟩) l1).trans c1) ((hW.cell (p:=⟨j,0,none⟩) l2).trans c2) (Nat.lt_of_lt_of_le l2 hW.size) (HT5.out.below hW))
  rw[HQ.out] at hC
  have HC:=hide hC
  clear hpost hh5 hb5 c1 c2 l1 l2 hC HB4 HT4 HA4 HL4 HPV HH1 HQ HR1 x0 x1 n4 HN4 HM HT5
  try rw[Hj.out]
  go_wp2_with (go_at_call 109;fail)
  try rw[Hj.out]
  refine HC.out.mono ?_
  rintro e w6 ⟨rfl,hb6⟩
  have HB6:=hide (HB5.out.trans (hb6.mono HB5.out.size))
  clear hb6 HB5 HC
  go_wp2
  go_ret
  exact⟨rfl,HB6.out⟩
 ·rw [Tr_no (show ¬HasE L name v from fun ⟨u,_,h,_⟩=>h0 h)]
  have q0:((valV name v).2==0)=false:=beq_false_of_ne h0
  have q0':((valV name v).2 !=0)=true:=by unfold bne;rw[q0];rfl
  have HV:=hide hV
  generalize (valV name v).2=y at *
  generalize txt (valV name v).1=SM at *
  generalize txt nm=SN at *
  generalize txt v=SV at *
  generalize txt name=S at *
  clear hV hR h0 hvs hv
  go_enter Tryz.func75,Tryz.ntmps75
  go_upto_region 1 with fail
  rw[Hw1.out,Hw2.out]
  try rw[Hs1.out]
  rw[Hk.out,Hh.out]
  have n0:=HN.out.1
  go_wp2_with (go_at_call 64;fail)
  refine (HV.out _ HT.out).mono ?_
  rintro e w3 ⟨rfl,hb3⟩
  have HB3:=hide (HB.out.trans (hb3.mono HB.out.size))
  have hba:=hide (below1 w3 (.cells #[.string SM] 9))
  clear hb3 n0
  go_wp2
  go_ret
  exact⟨rfl,HB3.out.trans (hba.out.mono HB3.out.size)⟩
end Go.Proofs.YtiobnllopliclaaGreatDoor
