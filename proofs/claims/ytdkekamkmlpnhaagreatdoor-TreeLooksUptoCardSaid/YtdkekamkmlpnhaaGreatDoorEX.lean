/- Several texts in one: Truth, EMath, EVals, EPVals, EPAttr, EHas, EPHas, EPPart, EPAttrs, EPForm, BlkG, VMath, EAwake, EMany. By an AI agent. -/
import Derived.Deep.CutRange
import Derived.Test.YtdkekamkmlpnhaaGreatDoorShelf
import Derived.BigQuiet
import Derived.Deep.CutBlock
import Derived.Deep.MidRow
import Derived.Deep.DeepMust
import Derived.Test.YtdkekamkmlpnhaaGreatDoorMI
import Derived.Test.YtdkekamkmlpnhaaGreatDoorGrow
set_option linter.unusedSimpArgs false
set_option linter.unusedVariables false
set_option maxRecDepth 100000
set_option maxHeartbeats 64000000
namespace Go.Proofs.YtdkekamkmlpnhaaGreatDoor
open Go.RowKit
noncomputable def Tr (p:Prop):Bool:=@decide p (Classical.propDecidable p)
theorem zAm {p:Prop} (h:p):Tr p=true:=@decide_eq_true p (Classical.propDecidable p) h
theorem zAp {p:Prop} (h:¬p):Tr p=false:=@decide_eq_false p (Classical.propDecidable p) h
theorem Tr_iff {p:Prop}:Tr p=true↔p:=⟨fun h=>@of_decide_eq_true p (Classical.propDecidable p) h,zAm⟩
theorem toeq (l m:List UInt8):((txt l).toList==m)=(l==m):=by rw[zAb]
abbrev EA:=List UInt8 × List (List UInt8)
structure EAs (w:World) (B:Nat) (xs:List Value) (L:List EA):Prop where
 len:xs.length=L.length*2
 each:∀(i:Nat) (a:EA),L[i]?=some a->∃A c,xs[i*2]?=some (.string (txt a.1))/\xs[i*2+1]?=some (.slice A a.2.length c)/\a.2.length<=c/\c<=maxLen/\Has w B 1 A a.2.length (strs a.2)
theorem EAs.below {w w':World} {B:Nat} {xs:List Value} {L:List EA} (h:EAs w B xs L) (hb:Below B w w'):EAs w' B xs L:=
 ⟨h.len,fun i a ha=>by obtain⟨A,c,h1,h2,k1,k2,h3⟩:=h.each i a ha;exact⟨A,c,h1,h2,k1,k2,h3.below hb⟩⟩
theorem EAs.upto {w:World} {B B':Nat} {xs:List Value} {L:List EA} (h:EAs w B xs L) (hB:B<=B'):EAs w B' xs L:=
 ⟨h.len,fun i a ha=>by obtain⟨A,c,h1,h2,k1,k2,h3⟩:=h.each i a ha;exact⟨A,c,h1,h2,k1,k2,h3.upto hB⟩⟩
theorem EAs.grow {w w':World} {xs:List Value} {L:List EA} (h:EAs w w.heap.size xs L) (hb:Below w.heap.size w w'):EAs w' w'.heap.size xs L:=(h.below hb).upto hb.size
structure EaAt (w:World) (B g o:Nat) (a:EA) (V:Option Addr) (c:Nat):Prop where
 e0:w.cell? ⟨g,o,none⟩=some (.string (txt a.1))
 e1:w.cell? ⟨g,o+1,none⟩=some (.slice V a.2.length c)
 cap:a.2.length<=c
 most:c<=maxLen
 has:Has w B 1 V a.2.length (strs a.2)
theorem EaAt.below {w w':World} {B g o:Nat} {a:EA} {V:Option Addr} {c:Nat} (h:EaAt w B g o a V c) (hg:g<B) (hb:Below B w w'):EaAt w' B g o a V c:=
 ⟨(hb.cell (p:=⟨g,o,none⟩) hg).trans h.e0,(hb.cell (p:=⟨g,o+1,none⟩) hg).trans h.e1,h.cap,h.most,h.has.below hb⟩
theorem Has.ea {w:World} {B n:Nat} {A:Option Addr} {xs:List Value} {L:List EA} (h:Has w B 2 A n xs) (hL:EAs w B xs L) (hn:L≠[]):
  ∃g o,A=some ⟨g,o,none⟩/\g<B/\∀(i:Nat) (a:EA),L[i]?=some a->∃V c,EaAt w B g (o+i*2) a V c:=by
 have hp:=List.length_pos_iff.2 hn;obtain⟨g,o,rfl,hg,hc⟩:=h.lies (by rw[hL.len];omega);refine⟨g,o,rfl,hg,fun i a ha=>?_⟩;obtain⟨V,c,h1,h2,k1,k2,h3⟩:=hL.each i a ha;exact⟨V,c,hc _ _ h1,by have:=hc _ _ h2;rwa [<-Nat.add_assoc] at this,k1,k2,h3⟩
theorem Has.eas_n {w:World} {B n:Nat} {A:Option Addr} {xs:List Value} {L:List EA} (h:Has w B 2 A n xs) (hL:EAs w B xs L):n=L.length:=by
 have h1:=h.1;have h2:=hL.len;omega
def pickE:List EA->List UInt8->List (List UInt8)
 | [],_=>[]
 | a::L,t=>if a.1=t then a.2 else pickE L t
noncomputable def valuesE (L:List EA) (name:List UInt8):List (List UInt8):=if (typ name).2=0 then [] else pickE L (typ name).1
theorem zFj (n:List UInt8):(typ n).2=0↔(typ n).1=[]:=by
 unfold typ;have key:∀(l:List UInt8) (t:List (List UInt8 × Int)),(∀e∈t,e.2≠0/\e.1≠[])->((typL l t).2=0↔(typL l t).1=[]):=by
  intro l t
  induction t with
  | nil=>intro _;simp[typL]
  | cons e r ih=>
   intro h;have he:=h e (by simp);unfold typL;split
   ·exact ⟨fun q=>absurd q he.1,fun q=>absurd q he.2⟩
   ·exact ih fun x hx=>h x (by simp[hx])
 exact key _ tab (by decide)
theorem zDy {n:List UInt8} (h:(typ n).1=n):n.length<=1000000:=by
 have key:∀(l:List UInt8) (t:List (List UInt8 × Int)),(∀e∈t,e.1.length<=100)->(typL l t).1.length<=100:=by
  intro l t
  induction t with
  | nil=>intro _;simp[typL]
  | cons e r ih=>
   intro h;unfold typL;split
   ·exact h e (by simp)
   ·exact ih fun x hx=>h x (by simp[hx])
 have h2:(typ n).1.length<=100:=key _ tab (by decide);rw[h] at h2;omega
theorem zJl {L:List EA} {i:Nat} {a:EA} (h:L[i]?=some a) (t:List UInt8):pickE (L.drop i) t=if a.1=t then a.2 else pickE (L.drop (i+1)) t:=by
 obtain⟨h1,h2⟩:=List.getElem?_eq_some_iff.1 h;rw[List.drop_eq_getElem_cons h1,h2];rfl
theorem zD2:∀(L:List EA) (t:List UInt8),pickE L t=[]\/∃a∈L,pickE L t=a.2
 | [],_=>Or.inl rfl
 | a::L,t=>by
  unfold pickE;split
  ·exact Or.inr ⟨a,by simp,rfl⟩
  ·rcases zD2 L t with h | ⟨b,hb,h⟩
   ·exact Or.inl h
   ·exact Or.inr ⟨b,by simp[hb],h⟩
def AlikeV (name u v:List UInt8):Prop:=(valV name v).2=0/\(valV name u).2=0/\(valV name u).1=(valV name v).1
def WithinV (name:List UInt8) (L:List (List UInt8)) (v:List UInt8):Prop:=∃u∈L,AlikeV name u v
def HasE (L:List EA) (name v:List UInt8):Prop:=WithinV name (valuesE L name) v
def AloneV (name:List UInt8) (L:List (List UInt8)):Prop:=∀(i:Nat) (v:List UInt8),L[i]?=some v->¬WithinV name (L.take i) v
structure FormedA (a:EA):Prop where
 ne:a.1≠[]
 name:(typ a.1).1=a.1
 lo:1<=a.2.length
 hi:a.2.length<=20
 ok:∀v∈a.2,(valV a.1 v).2=0
 alone:AloneV a.1 a.2
structure FormedL (L:List EA):Prop where
 le:L.length<=14
 rise:∀(i:Nat) (a b:EA),L[i]?=some a->L[i+1]?=some b->a.1<b.1
 each:∀a∈L,FormedA a
def OkAt (L:List EA) (i:Nat):Prop:=∀a,L[i]?=some a->FormedA a/\∀b,0<i->L[i-1]?=some b->b.1<a.1
theorem formed_at {L:List EA}:FormedL L↔L.length<=14/\∀i,i<L.length->OkAt L i:=by
 constructor
 ·intro h;refine⟨h.le,fun i _ a ha=>⟨h.each a (List.mem_of_getElem? ha),fun b h0 hb=>?_⟩⟩;refine h.rise (i-1) b a hb ?_;rw[show i-1+1=i by omega];exact ha
 ·rintro ⟨h1,h2⟩;refine⟨h1,fun i a b ha hb=>?_,fun a ha=>?_⟩
  ·have hlt:=(List.getElem?_eq_some_iff.1 hb).1;exact (h2 (i+1) hlt b hb).2 a (by omega) (by rw[Nat.add_sub_cancel];exact ha)
  ·obtain ⟨i,hi,rfl⟩:=List.mem_iff_getElem.1 ha;exact (h2 i hi _ (List.getElem?_eq_getElem hi)).1
def NamedR (nm:List UInt8) (L:List EA):Prop:=∃p r,nameV nm=(some (p::r),0)/\∀q∈p,HasE L q.1 q.2
def clsT:List UInt8:=[111,98,106,101,99,116,67,108,97,115,115]
structure LooseE (name:List UInt8) (L:List EA):Prop where
 norm:normT name=(name,0)
 ne:name≠[]
 attrs:FormedL L
structure FormedE (name:List UInt8) (L:List EA):Prop where
 loose:LooseE name L
 cls:valuesE L clsT≠[]
 named:NamedR name L
theorem zGt {name:List UInt8} {L:List (List UInt8)} (h:∀v∈L,(valV name v).2=0):AloneV name L↔∀(i:Nat) (v:List UInt8),L[i]?=some v->(valV name v).1 ∉ (L.take i).map fun u=>(valV name u).1:=by
 constructor
 ·intro ha i v hv hm;obtain⟨u,hu,he⟩:=List.mem_map.1 hm;exact ha i v hv ⟨u,hu,h v (List.mem_of_getElem? hv),h u (List.mem_of_mem_take hu),he⟩
 ·intro ha i v hv hw;obtain⟨u,hu,_,_,he⟩:=hw;exact ha i v hv (List.mem_map.2 ⟨u,hu,he⟩)
structure ValsPost (R:List (List UInt8)) (w:World) (e:Ending) (w':World):Prop where
 out:∃v,e=.returned v/\w'.ownsRow w.heap.size 9 1 v R.length (strs R)/\Below w.heap.size w w'
structure BoxE (w:World) (q:Nat) (nm:ByteArray) (A:Option Addr) (n c:Nat):Prop where
 lt:q<w.heap.size
 c0:w.cell? ⟨q,0,none⟩=some (.string nm)
 c1:w.cell? ⟨q,1,none⟩=some (.slice A n c)
theorem BoxE.new (w:World) (nm:ByteArray) (A:Option Addr) (n c:Nat) (t:TypeId):BoxE (w.alloc (.cells #[.string nm,.slice A n c] t)) w.heap.size nm A n c:=by
 refine⟨by simp,?_,?_⟩<;>(rw[World.cell?_alloc_at (hn:=by simp)];rfl)
theorem BoxE.below {w w':World} {q E:Nat} {nm:ByteArray} {A:Option Addr} {n c:Nat} (h:BoxE w q nm A n c) (hE:q<E) (hb:Below E w w'):BoxE w' q nm A n c:=
 ⟨Nat.lt_of_lt_of_le h.lt hb.size,(hb.cell (p:=⟨q,0,none⟩) hE).trans h.c0,(hb.cell (p:=⟨q,1,none⟩) hE).trans h.c1⟩
theorem BoxE.grow {w w':World} {q:Nat} {nm:ByteArray} {A:Option Addr} {n c:Nat} (h:BoxE w q nm A n c) (hb:Below w.heap.size w w'):BoxE w' q nm A n c:=h.below h.lt hb
theorem zGu (nm:List UInt8) (L:List EA) (name:List UInt8) (w:World) (A:Option Addr) (n c:Nat) (xs:List Value) (hA:Has w w.heap.size 2 A n xs) (hL:EAs w w.heap.size xs L) (hn:n<=1000000)
  (hname:name.length<=281474976710656) (hv:∀a∈L,a.2.length<=1000000):
  Calls Tryz.prog 66 #[.agg #[.string (txt nm),.slice A n c],.string (txt name)] w (ValsPost (valuesE L name) w):=by
 suffices H:Calls Tryz.prog 66 #[.agg #[.string (txt nm),.slice A n c],.string (txt name)] w fun e w'=>∃v,e=.returned v/\w'.ownsRow w.heap.size 9 1 v (valuesE L name).length (strs (valuesE L name))/\Below w.heap.size w w' from H.mono fun e w' h=>⟨h⟩
 have hnl:=hA.eas_n hL;have hTy:=fun w=>zB8 (txt name) (by rw[zAg];exact hname) w
 simp only[zAf] at hTy;have hb1:=below1 w (.cells #[.string (txt nm),.slice A n c] 38);have hX:=BoxE.new w (txt nm) A n c 38;by_cases h0:(typ name).1=[]
 ·have hR:valuesE L name=[]:=by unfold valuesE;rw[if_pos ((zFj name).2 h0)]
  rw[hR];rw[h0] at hTy;have q0:((txt []).toList==[])=true:=by rw[toeq];rfl
  have HTy:=hide hTy;have HB:=hide hb1;generalize (typ name).2=ty at *;generalize txt name=S at *;generalize txt nm=SN at *;generalize txt []=E0 at *;clear hTy hb1 hX hA hL hname hv h0 hR hnl;go_enter Tryz.func66,Tryz.ntmps66;go_wp2_with (go_at_call 118;fail);refine (HTy.out _).mono ?_;rintro e w2 ⟨rfl,hb2⟩;have HB2:=hTz HB hb2;clear hb2 HB HTy;go_wp2;go_ret;exact⟨_,rfl,nil_own _ _ _ _,HB2.out⟩
 ·have q0:((txt (typ name).1).toList==[])=false:=by rw[toeq];simpa using h0
  obtain⟨t,ht⟩:∃t,(typ name).1=t:=⟨_,rfl⟩;obtain⟨R,hR⟩:∃R,valuesE L name=R:=⟨_,rfl⟩;have hR0:pickE L t=R:=by rw[<-hR,<-ht];unfold valuesE;rw[if_neg fun h=>h0 ((zFj name).1 h)]
  rw[hR];rw[ht] at hTy q0;have HTy:=hide hTy;have HB:=hide hb1;have HX:=hide hX;have HR:=hide hR0;have HA1:=hide ((hA.below hb1).upto hb1.size);have HL1:=hide (hL.grow hb1);have HV:=hide hv;have HN:=hide hnl;have x1:=hX.c1;generalize (typ name).2=ty at *;generalize txt name=S at *;generalize txt nm=SN at *;clear hTy hb1 hX hA hL hname hv h0 hR hR0 ht hnl;obtain⟨T,hT⟩:∃T,txt t=T:=⟨_,rfl⟩;have HT:=hide hT;rw[hT] at HTy q0;clear hT;go_enter Tryz.func66,Tryz.ntmps66;go_wp2_with (go_at_call 118;fail);refine (HTy.out _).mono ?_;rintro e w2 ⟨rfl,hb2⟩;have HB2:=hTz HB hb2;have HX2:=hide (HX.out.grow hb2);have HA2:=hide ((HA1.out.below hb2).upto hb2.size);have HL2:=hide (HL1.out.grow hb2);have d1:=HX2.out.c1;clear hb2 HB HTy HX HA1 HL1 x1;go_wp2
  go_loopg [18] n (fun r s18 wx=>∃i:Nat,i+r=n/\s18=.int .i64 (i:Int)/\Hid (pickE (L.drop i) t=R)/\Below w2.heap.size w2 wx)
  case atStart=>exact⟨0,by omega,rfl,hide (by rw[List.drop_zero];exact HR.out),Below.refl _ _⟩
  case round=>
   obtain⟨i,hig,rfl,hpre,hbr⟩:=hrel;have y1:=(HX2.out.below HX2.out.lt hbr).c1;cases gk with
   | zero=>
    obtain rfl:n=i:=by omega
    have hiz:¬((n:Int)<(n:Int)):=(by omega);have hp:=hpre.out;rw[List.drop_eq_nil_of_le (by rw[HN.out];exact Nat.le_refl _)] at hp;have hR1:Hid (R=[]):=hide hp.symm;have HE:=hTz HB2 hbr;clear hp hpre HX2 HA2 HL2 HV HN HR hbr d1;go_wp2;go_ret;exact⟨_,rfl,by rw[hR1.out];exact nil_own _ _ _ _,HE.out⟩
   | succ r=>
    have hi:i<n:=(by omega);have hiz:(i:Int)<(n:Int):=(by omega);obtain⟨a,ha⟩:∃a,L[i]?=some a:=⟨_,List.getElem?_eq_getElem (by rw[<-HN.out];exact hi)⟩;obtain⟨g,o,hAe,hg,hat⟩:=HA2.out.ea HL2.out (fun h=>by rw[h] at ha;simp at ha);subst hAe;obtain⟨V,cv,hat⟩:=hat i a ha;have hat:=hat.below hg hbr;have e0:=hat.e0;have e1:=hat.e1;have hpd:=zJl ha t;rw[hpre.out] at hpd;by_cases hat1:a.1=t
    ·rw [if_pos hat1] at hpd;have q1:((txt a.1).toList==T.toList)=true:=by rw[hat1,HT.out];simp
     obtain⟨k,hk⟩:∃k,a.2.length=k:=⟨_,rfl⟩;rw[hk] at e1;have hk1:k<=1000000:=by rw[<-hk];exact HV.out a (List.mem_of_getElem? ha)
     have hown:=zDu wr #[] 9 0 (by unfold maxLen;omega) rfl;have hba:=below1 wr (.cells #[] 9);have y2:=(hba.cell (p:=⟨w.heap.size,1,none⟩) (Nat.lt_of_lt_of_le HX2.out.lt hbr.size)).trans y1;have e2:=(hba.cell (p:=⟨g,o+i*2+1,none⟩) (Nat.lt_of_lt_of_le hg hbr.size)).trans e1;have hV:=hat.has;rw[hk] at hV;have hV1:=(hV.upto hbr.size).below hba;have h1s:=strs_one a.2;have HE:=hide (HB2.out.trans ((hbr.trans (hba.mono hbr.size)).mono HB2.out.size));have hs8:=hba.size;have Hpd:=hide hpd;have Hk:=hide hk;have hle:Hid (w.heap.size<=wr.heap.size):=hide (Nat.le_trans HB2.out.size hbr.size);generalize txt a.1=TA at *;clear hba hV hat hpd hk hpre HA2 HL2 HV HN HR HX2 HB2 hbr ha d1;go_wp2_with (at_builtin;go_must (refine appE _ 43 9 _ 1 16 Tryz.underlying43 infoS rfl (by omega) (by omega) rfl (.tmp 29) (.tmp 35) rfl wr.heap.size _ 0 [] rfl hown _ _ k _ (strs a.2) rfl hV1 h1s (by omega) hs8 ?_));intro v' w6 hor6 hb6 _;have Ho:Hid (w6.ownsRow w.heap.size 9 1 v' R.length (strs R)):=hide (by
      rw[Hpd.out,Hk.out]
      refine zEf (base:=wr.heap.size) ?_ hle.out
      simpa using hor6)
     have HE2:=hide (HE.out.trans (hb6.mono hle.out));clear hor6 hb6 hown hV1 h1s hs8 HE e0 e1 y1;go_wp2;go_ret;exact⟨_,rfl,Ho.out,HE2.out⟩
    ·rw [if_neg hat1] at hpd;have q1:((txt a.1).toList==T.toList)=false:=by rw[<-HT.out];exact zBn hat1
     have Hpd:=hide hpd.symm;generalize txt a.1=TA at *;clear hat hpd hpre hat1 ha;go_wp2
     go_roundg r
     case measure=>omega
     case rel=>exact⟨i+1,by omega,by go_num,Hpd,hbr⟩
theorem zGb (name v:List UInt8) (L:List (List UInt8)) (w:World) (A:Option Addr) (n c:Nat) (hA:Has w w.heap.size 1 A n (strs L)) (hn:n<=1000000) (hname:name.length<=1000000) (hv:v.length<=1000000) (hL:∀u∈L,u.length<=1000000) (hT:TM w):
  Calls Tryz.prog 123 #[.string (txt name),.slice A n c,.string (txt v)] w fun e w'=>e=.returned (.bool (Tr (WithinV name L v)))/\Below w.heap.size w w':=by
 have hnl:=hA.strs_n;have hV:=fun w hT=>zC1 name v hname hv w hT
 have hU:=fun u (hu:u∈L) w hT=>zC1 name u hname (hL u hu) w hT
 by_cases h0:(valV name v).2=0
 ·obtain ⟨R,hR⟩:∃R,Tr (WithinV name L v)=R:=⟨_,rfl⟩;rw[hR];rw[h0] at hV;obtain⟨m,hm⟩:∃m,(valV name v).1=m:=⟨_,rfl⟩;rw[hm] at hV;have HR:Hid ((∃u∈L,(valV name u).2=0/\(valV name u).1=m)↔R=true):=hide (by
   rw[<-hR,Tr_iff,<-hm]
   constructor
   ·rintro ⟨u,hu,h1,h2⟩
    exact⟨u,hu,h0,h1,h2⟩
   ·rintro ⟨u,hu,_,h1,h2⟩
    exact⟨u,hu,h1,h2⟩)
  have HV:=hide hV;have HU:=hide hU;have HA:=hide hA;have HN:=hide hnl;clear hR hm h0 hV hU hA hnl hname hv hL;generalize txt name=SN at *;generalize txt v=SV at *;obtain⟨M,hM⟩:∃M,txt m=M:=⟨_,rfl⟩;have HM:=hide hM;rw[hM] at HV;clear hM;go_enter Tryz.func123,Tryz.ntmps123;go_wp2_with (go_at_call 71;fail);refine (HV.out _ hT).mono ?_;rintro e w2 ⟨rfl,hb2⟩;have HB2:=hide hb2;have HT2:=hide (hT.below hb2);have HA2:=hide ((HA.out.below hb2).upto hb2.size);clear hb2 HA hT HV;go_wp2
  go_loopg [22] n (fun r s22 wx=>∃i:Nat,i+r=n/\s22=.int .i64 (i:Int)/\Hid (∀u∈L.take i,¬((valV name u).2=0/\(valV name u).1=m))/\Below w2.heap.size w2 wx)
  case atStart=>exact⟨0,by omega,rfl,hide fun u hu=>(by simp at hu),Below.refl _ _⟩
  case round=>
   obtain⟨i,hig,rfl,hpre,hbr⟩:=hrel;cases gk with
   | zero=>
    obtain rfl:n=i:=by omega
    have hiz:¬((n:Int)<(n:Int)):=by omega
    have hR1:Hid (R=false):=hide (by
     cases hR:R with
     | false=>rfl
     | true=>
      obtain⟨u,hu,h1⟩:=HR.out.2 hR
      have:=hpre.out
      rw[List.take_of_length_le (by rw[HN.out];exact Nat.le_refl _)] at this
      exact absurd h1 (this u hu))
    have HE:=hTz HB2 hbr;clear hpre HA2 HU HN HR hbr HT2;go_wp2;go_ret;exact⟨by rw[hR1.out];rfl,HE.out⟩
   | succ r=>
    have hi:i<n:=(by omega);have hiz:(i:Int)<(n:Int):=(by omega);obtain⟨u,hu⟩:∃u,L[i]?=some u:=⟨_,List.getElem?_eq_getElem (by rw[<-HN.out];exact hi)⟩;obtain⟨g,o,hAe,hg,hat⟩:=HA2.out.texts (fun h=>by rw[h] at hu;simp at hu);subst hAe;have e0:=(hbr.cell (p:=⟨g,o+i,none⟩) hg).trans (hat i u hu);have hcall:=HU.out u (List.mem_of_getElem? hu);have htk:L.take (i+1)=L.take i++[u]:=by rw[List.take_add_one,hu];rfl
    obtain⟨y,hy⟩:∃y,(valV name u).2=y:=⟨_,rfl⟩;obtain⟨z,hz⟩:∃z,(valV name u).1=z:=⟨_,rfl⟩;by_cases hok:y=0/\z=m
    ·have hR1:Hid (R=true):=hide (HR.out.1 ⟨u,List.mem_of_getElem? hu,by rw[hy];exact hok.1,by rw[hz];exact hok.2⟩);rw[hy,hz] at hcall;obtain⟨rfl,rfl⟩:=hok;have q1:((txt z).toList==M.toList)=true:=by rw[HM.out];simp
     generalize txt u=SU at *;generalize txt z=SZ at *;clear hat hu htk hy hz hpre HR HN HA2 HU;go_wp2_with (go_at_call 71;fail);refine (hcall _ (HT2.out.below hbr)).mono ?_;rintro e w3 ⟨rfl,hb3⟩;have HE:=hide (HB2.out.trans ((hbr.trans (hb3.mono hbr.size)).mono HB2.out.size));clear hcall hb3 hbr e0 HT2 HB2;go_wp2;go_ret;exact⟨by rw[hR1.out];rfl,HE.out⟩
    ·have hnext:Hid (∀x∈L.take (i+1),¬((valV name x).2=0/\(valV name x).1=m)):=hide (by
      rw[htk]
      intro x hx
      rcases List.mem_append.1 hx with h | h
      ·exact hpre.out x h
      ·obtain rfl:=List.mem_singleton.1 h
       rw[hy,hz]
       exact hok)
     rw[hy,hz] at hcall;by_cases hy0:y=0
     ·subst hy0;have hzm:z≠m:=fun e=>hok ⟨rfl,e⟩
      have q1:((txt z).toList==M.toList)=false:=(by rw[<-HM.out];exact zBn hzm);generalize txt u=SU at *;generalize txt z=SZ at *;clear hat hu htk hy hz hpre hok hzm;go_wp2_with (go_at_call 71;fail);refine (hcall _ (HT2.out.below hbr)).mono ?_;rintro e w3 ⟨rfl,hb3⟩;have hbn:=hbr.trans (hb3.mono hbr.size);clear hcall hb3 hbr e0;go_wp2
      go_roundg r
      case measure=>omega
      case rel=>exact⟨i+1,by omega,by go_num,hnext,hbn⟩
     ·have q1:(y==0)=false:=beq_false_of_ne hy0;generalize txt u=SU at *;generalize txt z=SZ at *;clear hat hu htk hy hz hpre hok hy0;go_wp2_with (go_at_call 71;fail);refine (hcall _ (HT2.out.below hbr)).mono ?_;rintro e w3 ⟨rfl,hb3⟩;have hbn:=hbr.trans (hb3.mono hbr.size);clear hcall hb3 hbr e0;go_wp2
      go_roundg r
      case measure=>omega
      case rel=>exact⟨i+1,by omega,by go_num,hnext,hbn⟩
 ·have hF:¬WithinV name L v:=fun ⟨u,_,h,_⟩=>h0 h
  rw[zAp hF];have q0:((valV name v).2==0)=false:=beq_false_of_ne h0;have q1:((valV name v).2 !=0)=true:=by unfold bne;rw[q0];rfl
  have HV:=hide hV;generalize (valV name v).2=y at *;generalize txt (valV name v).1=M at *;generalize txt name=SN at *;generalize txt v=SV at *;clear h0 hV hU hA hnl hF;go_enter Tryz.func123,Tryz.ntmps123;go_wp2_with (go_at_call 71;fail);refine (HV.out _ hT).mono ?_;rintro e w2 ⟨rfl,hb2⟩;have HE:=hide hb2;clear hb2 HV;go_wp2;go_ret;exact⟨rfl,HE.out⟩
structure ViewPost (R:List (List UInt8)) (w:World) (e:Ending) (w':World):Prop where
 out:∃A c,e=.returned (.slice A R.length c)/\Has w' w'.heap.size 1 A R.length (strs R)/\R.length<=c/\c<=maxLen/\Below w.heap.size w w'
theorem zGl (nm:List UInt8) (L:List EA) (name:List UInt8) (w:World) (A:Option Addr) (n c:Nat) (xs:List Value) (hA:Has w w.heap.size 2 A n xs) (hL:EAs w w.heap.size xs L) (hn:n<=1000000) (hT:TM w):
  Calls Tryz.prog 60 #[.agg #[.string (txt nm),.slice A n c],.string (txt name)] w (ViewPost (valuesE L name) w):=by
 suffices H:Calls Tryz.prog 60 #[.agg #[.string (txt nm),.slice A n c],.string (txt name)] w fun e w'=>∃A c,e=.returned (.slice A (valuesE L name).length c)/\Has w' w'.heap.size 1 A (valuesE L name).length (strs (valuesE L name))/\(valuesE L name).length<=c/\c<=maxLen/\Below w.heap.size w w' from H.mono fun e w' h=>⟨h⟩
 have hnl:=hA.eas_n hL;have hTy:=fun w hT=>zB1 (txt name) w hT
 simp only[zAf] at hTy;have hb1:=below1 w (.cells #[.string (txt nm),.slice A n c] 38);have hX:=BoxE.new w (txt nm) A n c 38;have hT1:=hT.below hb1;by_cases h0:(typ name).2=0
 ·have hR:valuesE L name=[]:=by unfold valuesE;rw[if_pos h0]
  rw[hR];rw[h0] at hTy;have HTy:=hide hTy;have HB:=hide hb1;have HT:=hide hT1;generalize txt (typ name).1=TN at *;generalize txt name=S at *;generalize txt nm=SN at *;clear hTy hb1 hX hA hL h0 hR hnl hT hT1;go_enter Tryz.func60,Tryz.ntmps60;go_wp2_with (go_at_call 104;fail);refine (HTy.out _ HT.out.tt.types).mono ?_;rintro e w2 ⟨rfl,hb2⟩;have HB2:=hTz HB hb2;clear hb2 HB HTy HT;go_wp2;go_ret;exact⟨none,0,rfl,⟨rfl,.inl rfl⟩,by simp,by unfold maxLen;omega,HB2.out⟩
 ·have q0:((typ name).2==0)=false:=beq_false_of_ne h0;obtain⟨t,ht⟩:∃t,(typ name).1=t:=⟨_,rfl⟩;obtain⟨R,hR⟩:∃R,valuesE L name=R:=⟨_,rfl⟩;have hR0:pickE L t=R:=by rw[<-hR,<-ht];unfold valuesE;rw[if_neg h0]
  rw[hR];rw[ht] at hTy;have HTy:=hide hTy;have HB:=hide hb1;have HX:=hide hX;have HR:=hide hR0;have HA1:=hide ((hA.below hb1).upto hb1.size);have HL1:=hide (hL.grow hb1);have HT:=hide hT1;have HN:=hide hnl;have x1:=hX.c1;generalize (typ name).2=ty at *;generalize txt name=S at *;generalize txt nm=SN at *;clear hTy hb1 hX hA hL h0 hR hR0 ht hnl hT hT1;obtain⟨T,hT⟩:∃T,txt t=T:=⟨_,rfl⟩;have HTt:=hide hT;rw[hT] at HTy;clear hT;go_enter Tryz.func60,Tryz.ntmps60;go_wp2_with (go_at_call 104;fail);refine (HTy.out _ HT.out.tt.types).mono ?_;rintro e w2 ⟨rfl,hb2⟩;have HB2:=hTz HB hb2;have HX2:=hide (HX.out.grow hb2);have HA2:=hide ((HA1.out.below hb2).upto hb2.size);have HL2:=hide (HL1.out.grow hb2);have d1:=HX2.out.c1;clear hb2 HB HTy HX HA1 HL1 x1 HT;go_wp2
  go_loopg [19] n (fun r s19 wx=>∃i:Nat,i+r=n/\s19=.int .i64 (i:Int)/\Hid (pickE (L.drop i) t=R)/\Hid (Below w2.heap.size w2 wx))
  case atStart=>exact⟨0,by omega,rfl,hide (by rw[List.drop_zero];exact HR.out),hide (Below.refl _ _)⟩
  case round=>
   obtain⟨i,hig,rfl,hpre,hbr⟩:=hrel;clear d1;cases gk with
   | zero=>
    obtain rfl:n=i:=by omega
    have hiz:¬((n:Int)<(n:Int)):=(by omega);have hp:=hpre.out;rw[List.drop_eq_nil_of_le (by rw[HN.out];exact Nat.le_refl _)] at hp;have hR1:Hid (R=[]):=hide hp.symm;have HE:=hide (HB2.out.trans (hbr.out.mono HB2.out.size));clear hp hpre HX2 HA2 HL2 HN HR hbr;go_wp2;go_ret;exact⟨none,0,by rw[hR1.out];rfl,by rw[hR1.out];exact⟨rfl,.inl rfl⟩,by rw[hR1.out];simp,by unfold maxLen;omega,HE.out⟩
   | succ r=>
    have hi:i<n:=(by omega);have hiz:(i:Int)<(n:Int):=(by omega);obtain⟨a,ha⟩:∃a,L[i]?=some a:=⟨_,List.getElem?_eq_getElem (by rw[<-HN.out];exact hi)⟩;obtain⟨g,o,hAe,hg,hat⟩:=HA2.out.ea HL2.out (fun h=>by rw[h] at ha;simp at ha);subst hAe;obtain⟨V,cv,hat⟩:=hat i a ha;have hat:=hat.below hg hbr.out;have e0:=hat.e0;have e1:=hat.e1;have hpd:=zJl ha t;rw[hpre.out] at hpd;obtain⟨k,hk⟩:∃k,a.2.length=k:=⟨_,rfl⟩;rw[hk] at e1;have hba:=below1 wr (.cells #[.string (txt a.1),.slice V k cv] 60);have hXa:=BoxE.new wr (txt a.1) V k cv 60;have u0:=hXa.c0;have u1:=hXa.c1;have HE:=hTz hbr hba;have hV1:=((hat.has.upto hbr.out.size).below hba).upto hba.size;have hcap:=hat.cap;have hmost:=hat.most;by_cases hat1:a.1=t
    ·rw [if_pos hat1] at hpd;have q1:((txt a.1).toList==T.toList)=true:=by rw[hat1,HTt.out];simp
     have Hpd:=hide hpd;have Hk:=hide hk;have HV1:=hide hV1;have Hcap:=hide (And.intro hcap hmost);have HE2:=hide (HB2.out.trans (HE.out.mono HB2.out.size));generalize txt a.1=TA at *;clear hba hat hpd hk hpre HA2 HL2 HN HR HX2 HB2 hbr ha hXa hat1 hV1 hcap hmost HE;go_wp2;go_ret;exact⟨V,cv,by rw[Hpd.out,Hk.out];rfl,by rw[Hpd.out];exact HV1.out,by rw[Hpd.out];exact Hcap.out.1,Hcap.out.2,HE2.out⟩
    ·rw [if_neg hat1] at hpd;have q1:((txt a.1).toList==T.toList)=false:=by rw[<-HTt.out];exact zBn hat1
     have Hpd:=hide hpd.symm;generalize txt a.1=TA at *;clear hat hpd hpre hat1 ha hba hXa hV1 hcap hmost hk hbr;go_wp2
     go_roundg r
     case measure=>omega
     case rel=>exact⟨i+1,by omega,by go_num,Hpd,HE⟩
theorem zE9 (w:World) (B:Nat) (A:Option Addr) (n c:Nat) (L:List (List UInt8)) (u:List UInt8) (hA:Has w B 1 A n (strs L)) (hn:n<=1000000):
  Calls Tryz.prog 154 #[.slice A n c,.string (txt u)] w fun e w'=>e=.returned (.bool (Tr (u∈L)))/\w'=w:=by
 have h1:=hA.strs_n;by_cases hL:L=[]
 ·subst hL;obtain rfl:n=0:=by simpa using h1
  rw[zAp (by simp)];exact Tryz.slices_Contains_string_empty A c (txt u) w
 ·obtain ⟨g,o,rfl,_,hc⟩:=hA.texts hL;refine (Tryz.slices_Contains_string g o n c (L.map txt) (txt u) w (by rw[List.length_map];omega) (by omega) (zEr hc)).mono ?_;rintro e w' ⟨rfl,rfl⟩;refine⟨?_,rfl⟩;rw[List.take_of_length_le (by rw[List.length_map];omega)];congr 2;rw[Bool.eq_iff_iff,Lib.containsS_iff,Tr_iff];constructor
  ·intro h;obtain⟨x,hx,he⟩:=List.mem_map.1 h
   rwa [<-zRs he]
  ·intro h;exact List.mem_map.2 ⟨u,h,rfl⟩
theorem zSl (a:EA) (w:World) (V:Option Addr) (k cv:Nat) (hV:Has w w.heap.size 1 V k (strs a.2)) (h2:k<=1000000) (h3:∀u∈a.2,u.length<=1000000) (hT:TM w):
  Calls Tryz.prog 103 #[.agg #[.string (txt a.1),.slice V k cv]] w fun e w'=>e=.returned (.bool (Tr (FormedA a)))/\Below w.heap.size w w':=by
 have hk:=hV.strs_n;have hTy:=fun w hT=>zB1 (txt a.1) w hT
 simp only[zAf] at hTy;have hb1:=below1 w (.cells #[.string (txt a.1),.slice V k cv] 60);have hX:=BoxE.new w (txt a.1) V k cv 60;have HV1:=hide ((hV.below hb1).upto hb1.size);have HT:=hide (hT.below hb1);have HB:=hide hb1;have HX:=hide hX;have x0:=hX.c0;have x1:=hX.c1;have HVal:=hide (fun (h1:a.1.length<=1000000) u (hu:u∈a.2) w hT=>zB9 a.1 u h1 (h3 u hu) w hT);have Hk:=hide hk;obtain⟨R,hR⟩:∃R,Tr (FormedA a)=R:=⟨_,rfl⟩;rw[hR];have HR:=hide hR;clear hb1 hX hR hT h3 hV hk;by_cases t0:(typ a.1).2=0
 ·have hR1:Hid (R=false):=hide (by rw[<-HR.out];exact zAp fun h=>h.ne (by rw[<-h.name];exact (zFj a.1).1 t0));rw[t0] at hTy;have HTy:=hide hTy;generalize txt (typ a.1).1=TN at *;generalize txt a.1=TA at *;clear hTy t0 HV1 HVal Hk HR;go_enter Tryz.func103,Tryz.ntmps103;go_wp2_with (go_at_call 104;fail);refine (HTy.out _ HT.out.tt.types).mono ?_;rintro e w2 ⟨rfl,hb2⟩;have HB2:=hTz HB hb2;clear hb2 HB HT HX HTy x0 x1;go_wp2;go_ret;exact⟨by rw[hR1.out];rfl,HB2.out⟩
 have q0:((typ a.1).2==0)=false:=beq_false_of_ne t0;by_cases t1:(typ a.1).1=a.1
 ·have HVal:=hide (HVal.out (zDy t1));rw[t1] at hTy;have s1:((txt a.1).toList==(txt a.1).toList)=true:=by simp
  have s1':((txt a.1).toList !=(txt a.1).toList)=false:=by simp
  have hne:Hid (a.1≠[]):=hide fun h=>t0 ((zFj a.1).2 (by rw[t1];exact h))
  have Ht1:=hide t1;have HTy:=hide hTy;clear hTy t0 t1;generalize (typ a.1).2=ty at *;obtain⟨TA,hTA⟩:∃T,txt a.1=T:=⟨_,rfl⟩;rw[hTA] at HTy s1 s1' x0 HX HVal ⊢;rw[hTA] at HB HT HV1 x1;clear hTA;by_cases t3:1<=k
  ·by_cases t4:k<=20
   ·have z3:¬(k:Int)<1:=by omega
    have z4:¬(20:Int)<(k:Int):=(by omega);go_enter Tryz.func103,Tryz.ntmps103;go_wp2_with (go_at_call 104;fail);refine (HTy.out _ HT.out.tt.types).mono ?_;rintro e w2 ⟨rfl,hb2⟩;have HB2:=hTz HB hb2;have hX2:=HX.out.grow hb2;have HT2:=hide (HT.out.below hb2);have HV2:=hide ((HV1.out.below hb2).upto hb2.size);obtain⟨wm,hmake,hom,hbm⟩:=makeS w2 k h2;have y0:=hX2.c0;have y1:=hX2.c1;have y2:=(hbm.cell (p:=⟨w.heap.size,1,none⟩) hX2.lt).trans y1;have hlo:Hid (w.heap.size<=w2.heap.size):=hide HB2.out.size;have HBm:=hide hbm;clear hb2 HB HT HX HTy x0 x1 hX2 HV1 hbm;go_wp2
    go_loopg [5,41] k (fun r s5 s41 wx=>∃i:Nat,i+r=k/\s41=.int .i64 (i:Int)/\Hid (wx.ownsRow w2.heap.size 9 1 s5 i (strs ((a.2.take i).map fun u=>(valV a.1 u).1)))/\Hid ((∀v∈a.2.take i,(valV a.1 v).2=0)/\∀(j:Nat) (v:List UInt8),j<i->a.2[j]?=some v->(valV a.1 v).1 ∉ (a.2.take j).map fun u=>(valV a.1 u).1)/\Hid (Below w2.heap.size w2 wx))
    case atStart=>exact⟨0,by omega,rfl,hide (by simpa[strs] using hom),hide ⟨fun v hv=>(by simp at hv),fun j v hj=>by omega⟩,HBm⟩
    case round=>
     obtain⟨i,hig,rfl,hor,hpre,hbr⟩:=hrel;clear hom hmake y0 y1 y2 HBm;cases gk with
     | zero=>
      obtain rfl:k=i:=by omega
      have hiz:¬((k:Int)<(k:Int)):=by omega
      have hR1:Hid (R=true):=hide (by
       rw[<-HR.out]
       obtain⟨p1,p2⟩:=hpre.out
       rw[List.take_of_length_le (by rw[Hk.out];exact Nat.le_refl _)] at p1
       exact zAm ⟨hne.out,Ht1.out,by rw[<-Hk.out];exact t3,by rw[<-Hk.out];exact t4,p1,(zGt p1).2 fun j v hv=>p2 j v (by rw[Hk.out];exact (List.getElem?_eq_some_iff.1 hv).1) hv⟩)
      have HE:=hide (HB2.out.trans (hbr.out.mono hlo.out));clear hpre hor HV2 HT2 HVal HR hbr;go_wp2;go_ret;exact⟨by rw[hR1.out];rfl,HE.out⟩
     | succ r=>
      have hi:i<k:=(by omega);have hiz:(i:Int)<(k:Int):=(by omega);obtain⟨v,hv⟩:∃v,a.2[i]?=some v:=⟨_,List.getElem?_eq_getElem (by rw[<-Hk.out];exact hi)⟩;obtain⟨g1,o1,hAe,hg,hat⟩:=HV2.out.texts (fun h=>by rw[h] at hv;simp at hv);subst hAe;have e0:=(hbr.out.cell (p:=⟨g1,o1+i,none⟩) hg).trans (hat i v hv);have hcall:=HVal.out v (List.mem_of_getElem? hv) wr (HT2.out.below hbr.out);obtain⟨A5,c5,hs5,_,hH5⟩:=zAh hor.out;subst hs5;have HH5:=hide hH5;have hi6:i<=1000000:=by omega
      clear hat hH5;by_cases hy:(valV a.1 v).2=0
      ·obtain ⟨S,hS⟩:∃S,((a.2.take i).map fun u=>(valV a.1 u).1)=S:=⟨_,rfl⟩;by_cases hin:(valV a.1 v).1∈S
       ·have hR1:Hid (R=false):=hide (by
         rw[<-HR.out]
         exact zAp fun h=>(zGt h.ok).1 h.alone i v hv (by rw[hS];exact hin))
        rw[hS] at HH5;have hC:=fun w hH=>zE9 w w.heap.size A5 i c5 S (valV a.1 v).1 hH hi6
        rw[zAm hin] at hC;have HC:=hide hC;rw[hy] at hcall;have Hcall:=hide hcall;clear hcall hC hpre hor HR HVal hv hy hin hS;generalize txt (valV a.1 v).1=NV at *;generalize txt v=SV at *;go_wp2_with (go_at_call 148;fail);refine Hcall.out.mono ?_;rintro e w4 ⟨rfl,hb4⟩;have hH4:=(HH5.out.below hb4).upto hb4.size;have hcall2:=hide (HC.out w4 hH4);have HE:=hide (HB2.out.trans ((hbr.out.trans (hb4.mono hbr.out.size)).mono hlo.out));clear Hcall hb4 HH5 HC hH4 e0;go_wp2_with (go_at_call 154;fail);refine hcall2.out.mono ?_;rintro e w5 ⟨rfl,rfl⟩;clear hcall2;go_wp2;go_ret;exact⟨by rw[hR1.out];rfl,HE.out⟩
       ·have hnext:Hid ((∀u∈a.2.take (i+1),(valV a.1 u).2=0)/\∀(j:Nat) (u:List UInt8),j<i+1->a.2[j]?=some u->(valV a.1 u).1 ∉ (a.2.take j).map fun u=>(valV a.1 u).1):=hide (by
         refine⟨?_,fun j u hj hu=>?_⟩
         ·rw [List.take_add_one,hv]
          intro x hx
          rcases List.mem_append.1 hx with h | h
          ·exact hpre.out.1 x h
          ·obtain rfl:x=v:=by simpa using h
           exact hy
         ·by_cases hji:j<i
          ·exact hpre.out.2 j u hji hu
          ·obtain rfl:j=i:=by omega
           rw[hv] at hu
           obtain rfl:v=u:=by simpa using hu
           rw[hS]
           exact hin)
        have hmore:Hid (strs S++[.string (txt (valV a.1 v).1)]=strs ((a.2.take (i+1)).map fun u=>(valV a.1 u).1)):=hide (by
         rw[List.take_add_one,hv,List.map_append,hS,zBh]
         rfl)
        have Hor:=hor;rw[hS] at HH5 Hor;have hC:=fun w hH=>zE9 w w.heap.size A5 i c5 S (valV a.1 v).1 hH hi6
        rw[zAp hin] at hC;have HC:=hide hC;rw[hy] at hcall;have Hcall:=hide hcall;clear hcall hC hpre hor HR hv hy hin hS;generalize txt (valV a.1 v).1=NV at *;generalize txt v=SV at *;go_wp2_with (go_at_call 148;fail);refine Hcall.out.mono ?_;rintro e w4 ⟨rfl,hb4⟩;have hH4:=(HH5.out.below hb4).upto hb4.size;have hcall2:=hide (HC.out w4 hH4);have Hor4:=hide (zAc Hor.out hb4);have HE:=hTz hbr hb4;clear Hcall hb4 HH5 HC hH4 e0 Hor;go_wp2_with (go_at_call 154;fail);refine hcall2.out.mono ?_;rintro e w5 ⟨rfl,rfl⟩;have hone:=litS w5 NV;have hH:=Has.own hone;have hor5:=Hor4.out.alloc (.cells #[.string NV] 9);have hbr5:=HE.out.alloc HE.out.size (.cells #[.string NV] 9);have hs5:=hbr5.size;have HE5:=hide hbr5;have h1c:∀u∈[Value.string NV],u.oneCell'=true:=by simp[Value.oneCell']
        clear hcall2 hone HE Hor4 hbr5;go_wp2_with (at_builtin;go_must (refine appE _ 43 9 _ 1 16 Tryz.underlying43 infoS rfl (by omega) (by omega) rfl (.tmp 58) (.tmp 60) rfl w2.heap.size _ i _ rfl hor5 _ _ 1 1 [.string NV] rfl hH h1c (by omega) hs5 ?_));intro v' w6 hor6 hb6 _;have HE6:=hide (HE5.out.trans hb6);rw[hmore.out] at hor6;have Hor6:=hide hor6;clear hor5 hs5 hH hb6 h1c HE5 hor6;go_wp2
        go_roundg r
        case measure=>omega
        case rel=>exact⟨i+1,by omega,by go_num,Hor6,hnext,HE6⟩
      ·have hR1:Hid (R=false):=hide (by
        rw[<-HR.out]
        exact zAp fun h=>hy (h.ok v (List.mem_of_getElem? hv)))
       have q0:((valV a.1 v).2==0)=false:=beq_false_of_ne hy;have q0':((valV a.1 v).2 !=0)=true:=by unfold bne;rw[q0];rfl
       have Hcall:=hide hcall;clear hcall hpre hor HR HVal hv hy HH5;generalize txt (valV a.1 v).1=NV at *;generalize (valV a.1 v).2=y at *;generalize txt v=SV at *;go_wp2_with (go_at_call 148;fail);refine Hcall.out.mono ?_;rintro e w4 ⟨rfl,hb4⟩;have HE:=hide (HB2.out.trans ((hbr.out.trans (hb4.mono hbr.out.size)).mono hlo.out));clear Hcall hb4 e0;go_wp2;go_ret;exact⟨by rw[hR1.out];rfl,HE.out⟩
   ·have z3:¬(k:Int)<1:=by omega
    have z4:(20:Int)<(k:Int):=(by omega);have hR1:Hid (R=false):=hide (by rw[<-HR.out];exact zAp fun h=>t4 (by rw[Hk.out];exact h.hi));clear HV1 HVal Hk HR;go_enter Tryz.func103,Tryz.ntmps103;go_wp2_with (go_at_call 104;fail);refine (HTy.out _ HT.out.tt.types).mono ?_;rintro e w2 ⟨rfl,hb2⟩;have HB2:=hTz HB hb2;have y0:=(HX.out.grow hb2).c0;have y1:=(HX.out.grow hb2).c1;clear hb2 HB HT HX HTy x0 x1;go_wp2;go_ret;exact⟨by rw[hR1.out];rfl,HB2.out⟩
  ·have z3:(k:Int)<1:=by omega
   have hR1:Hid (R=false):=hide (by rw[<-HR.out];exact zAp fun h=>t3 (by rw[Hk.out];exact h.lo));clear HV1 HVal Hk HR;go_enter Tryz.func103,Tryz.ntmps103;go_wp2_with (go_at_call 104;fail);refine (HTy.out _ HT.out.tt.types).mono ?_;rintro e w2 ⟨rfl,hb2⟩;have HB2:=hTz HB hb2;have y0:=(HX.out.grow hb2).c0;have y1:=(HX.out.grow hb2).c1;clear hb2 HB HT HX HTy x0 x1;go_wp2;go_ret;exact⟨by rw[hR1.out];rfl,HB2.out⟩
 ·have hR1:Hid (R=false):=hide (by rw[<-HR.out];exact zAp fun h=>t1 h.name);have s1:=zBn t1;have s1':((txt (typ a.1).1).toList !=(txt a.1).toList)=true:=by unfold bne;rw[s1];rfl
  have HTy:=hide hTy;generalize (typ a.1).2=ty at *;generalize txt (typ a.1).1=TN at *;generalize txt a.1=TA at *;clear hTy t0 t1 HV1 HVal Hk HR;go_enter Tryz.func103,Tryz.ntmps103;go_wp2_with (go_at_call 104;fail);refine (HTy.out _ HT.out.tt.types).mono ?_;rintro e w2 ⟨rfl,hb2⟩;have HB2:=hTz HB hb2;have y0:=(HX.out.grow hb2).c0;clear hb2 HB HT HX HTy x0 x1;go_wp2;go_ret;exact⟨by rw[hR1.out];rfl,HB2.out⟩
theorem zNo (nm:List UInt8) (L:List EA) (name v:List UInt8) (w:World) (A:Option Addr) (n c:Nat) (xs:List Value) (hA:Has w w.heap.size 2 A n xs) (hL:EAs w w.heap.size xs L) (hn:n<=1000000)
  (hname:name.length<=1000000) (hv:v.length<=1000000) (hvs:∀a∈L,a.2.length<=1000000/\∀u∈a.2,u.length<=1000000) (hT:TM w):
  Calls Tryz.prog 70 #[.agg #[.string (txt nm),.slice A n c],.string (txt name),.string (txt v)] w fun e w'=>e=.returned (.bool (Tr (HasE L name v)))/\Below w.heap.size w w':=by
 have hb1:=below1 w (.cells #[.string (txt nm),.slice A n c] 38);have hX:=BoxE.new w (txt nm) A n c 38;have HV:=hide (fun w hA hL=>zGu nm L name w A n c xs hA hL hn (by omega) (fun a ha=>(hvs a ha).1));have hR:(valuesE L name).length<=1000000/\∀u∈valuesE L name,u.length<=1000000:=by
  unfold valuesE;split
  ·simp
  ·rcases zD2 L (typ name).1 with h | ⟨a,ha,h⟩
   ·rw [h];simp
   ·rw [h];exact hvs a ha
 have HW:=hide (fun w A n c hA hn hT=>zGb name v (valuesE L name) w A n c hA hn hname hv hR.2 hT);unfold HasE;obtain⟨b,hb⟩:∃b,Tr (WithinV name (valuesE L name) v)=b:=⟨_,rfl⟩;rw[hb] at HW ⊢;have HA:=hide ((hA.below hb1).upto hb1.size);have HL:=hide (hL.grow hb1);have HT:=hide (hT.below hb1);have HB:=hide hb1;have HR:=hide hR.1;have x0:=hX.c0;have x1:=hX.c1;clear hb1 hX hR hA hL hT hb hvs hv hname hn;generalize valuesE L name=R at *;generalize txt nm=SN at *;generalize txt name=S at *;generalize txt v=U at *;go_enter Tryz.func70,Tryz.ntmps70;go_wp2_with (go_at_call 66;fail);refine (HV.out _ HA.out HL.out).mono ?_;rintro e w2 hpost;obtain⟨vv,rfl,hown,hb2⟩:=hpost.out;obtain⟨A2,c2,rfl,hc2,hh2⟩:=zAh hown;have HB2:=hTz HB hb2;have HT2:=hide (HT.out.below hb2);have HH:=hide hh2;clear hpost hown hb2 hh2 HB HT HA HL HV x0 x1;go_wp2_with (go_at_call 123;fail);refine (HW.out _ _ _ _ HH.out HR.out HT2.out).mono ?_;rintro e w3 ⟨rfl,hb3⟩;have HB3:=hTz HB2 hb3;clear hb3 HB2 HT2 HH HW;go_wp2;go_ret;exact⟨rfl,HB3.out⟩
theorem zOx (name:List UInt8) (L:List (List UInt8)) (w:World) (A:Option Addr) (n c:Nat) (hA:Has w w.heap.size 1 A n (strs L)) (hn:n<=1000000) (hnc:n<=c) (hcm:c<=maxLen) (hname:name.length<=1000000) (hL:∀u∈L,u.length<=1000000) (hT:TM w):
  Calls Tryz.prog 119 #[.string (txt name),.slice A n c] w fun e w'=>e=.returned (.bool (Tr (AloneV name L)))/\Below w.heap.size w w':=by
 have hnl:=hA.strs_n;unfold maxLen at hcm;obtain⟨R,hR⟩:∃R,Tr (AloneV name L)=R:=⟨_,rfl⟩;rw[hR];have HR:=hide hR;have HA:=hide hA;have HN:=hide hnl;have HLn:=hide hL;clear hR hA hnl hL;go_enter Tryz.func119,Tryz.ntmps119;go_wp2
 go_loopg [8] n (fun r s8 wx=>∃i:Nat,i+r=n/\s8=.int .i64 (i:Int)/\Hid (∀(j:Nat) (v:List UInt8),j<i->L[j]?=some v->¬WithinV name (L.take j) v)/\Below w.heap.size w wx)
 case atStart=>exact⟨0,by omega,rfl,hide fun j v hj=>by omega,Below.refl _ _⟩
 case round=>
  obtain⟨i,hig,rfl,hpre,hbr⟩:=hrel;cases gk with
  | zero=>
   obtain rfl:n=i:=by omega
   have hiz:¬((n:Int)<(n:Int)):=by omega
   have hR1:Hid (R=true):=hide (by
    rw[<-HR.out]
    exact zAm fun j v hj=>hpre.out j v (by rw[HN.out];exact (List.getElem?_eq_some_iff.1 hj).1) hj)
   clear hpre HA HN HR HLn hT;go_wp2;go_ret;exact⟨by rw[hR1.out];rfl,hbr⟩
  | succ r=>
   have hi:i<n:=by omega
   have hiz:(i:Int)<(n:Int):=by omega
   have hic:(i:Int)<=(c:Int):=by omega
   have hic':i<=c:=by omega
   have hi0:(0:Int)<=(i:Int):=by omega
   obtain⟨v,hv⟩:∃v,L[i]?=some v:=⟨_,List.getElem?_eq_getElem (by rw[<-HN.out];exact hi)⟩;obtain⟨g,o,hAe,hg,hat⟩:=HA.out.texts (fun h=>by rw[h] at hv;simp at hv);subst hAe;have y0:=(hbr.cell (p:=⟨g,o+i,none⟩) hg).trans (hat i v hv);have hgr:g<wr.heap.size:=Nat.lt_of_lt_of_le hg hbr.size;have hAi:=((take_has HA.out (k:=i) (by omega)).below hbr).upto hbr.size;have HW:=hide (fun w hA hT=>zGb name v (L.take i) w (some ⟨g,o,none⟩) i c hA (by omega) hname (HLn.out v (List.mem_of_getElem? hv)) (fun u hu=>HLn.out u (List.mem_of_mem_take hu)) hT);obtain⟨bw,hbw⟩:∃b,Tr (WithinV name (L.take i) v)=b:=⟨_,rfl⟩;rw[hbw] at HW;cases bw with
   | true=>
    have hR1:Hid (R=false):=hide (by
     rw[<-HR.out]
     exact zAp fun h=>h i v hv (Tr_iff.1 hbw))
    generalize txt name=SN at *;generalize txt v=SV at *;clear hat hv hbw hpre HR HA HN HLn;go_wp2_with fail;refine zAq (by kernel_rfl) ?_;have hdr:Below wr.heap.size wr wr.drew:=(Below.refl _ _).drew;have hgd:g<wr.drew.heap.size:=hgr;have e0:=(hdr.cell (p:=⟨g,o+i,none⟩) hgr).trans y0;have HBd:=hide (hbr.trans (hdr.mono hbr.size));have HTd:=hide ((hT.below hbr).below hdr);have HAt:=hide ((hAi.below hdr).upto hdr.size);clear hdr y0 hbr hAi;generalize wr.drew=wd at *;refine yTk 0 (some 11) ?_;simp only[pUz];refine yTk 1 (some 12) ?_;simp only[pUz];refine yTk 2 (some 13) ?_;simp only[pUz];refine yTk 3 (some 14) ?_;simp only[pUz];refine yTk 4 (some 15) ?_;simp only[pUz];refine yTk 5 (some 16) ?_;simp only[pUz];refine yTk 6 (some 17) ?_;simp only[pUz];refine zAa 7 (some 18) (v:=?va7) rfl rfl (by kernel_rfl) rfl (by rfl) (fun W hW=>?ya7) ?_
    case ya7=>have h1:=(hW.cell (p:=⟨g,o+i,none⟩) hgd).trans e0;go_simp<;>with_reducible rfl
    simp only[pUz];refine zAe 8 rfl (by kernel_rfl) (fun K hK=>?_);go_simp;refine (HW.out _ HAt.out HTd.out).mono ?_;rintro e w5 ⟨rfl,hb5⟩;refine hK.out _ _ hb5 ?_;have HB5:=hTz HBd hb5;clear hK K hb5 HBd HTd HAt;(try simp only[pUz]);refine zAi (by kernel_rfl) ?_ _;go_wp2;go_ret;exact⟨by rw[hR1.out];rfl,HB5.out⟩
   | false=>
    have hnext:Hid (∀(j:Nat) (v:List UInt8),j<i+1->L[j]?=some v->¬WithinV name (L.take j) v):=hide (by
     intro j u hj hu
     rcases Nat.lt_or_ge j i with h | h
     ·exact hpre.out j u h hu
     ·obtain rfl:j=i:=by omega
      rw[hv] at hu
      obtain rfl:=Option.some.inj hu
      intro hw
      rw[zAm hw] at hbw
      cases hbw)
    generalize txt name=SN at *;generalize txt v=SV at *;clear hat hv hbw hpre;go_wp2_with fail;refine zAq (by kernel_rfl) ?_;have hdr:Below wr.heap.size wr wr.drew:=(Below.refl _ _).drew;have hgd:g<wr.drew.heap.size:=hgr;have e0:=(hdr.cell (p:=⟨g,o+i,none⟩) hgr).trans y0;have HBd:=hide (hbr.trans (hdr.mono hbr.size));have HTd:=hide ((hT.below hbr).below hdr);have HAt:=hide ((hAi.below hdr).upto hdr.size);have hbk:=hbr;clear hdr y0 hAi;generalize wr.drew=wd at *;refine yTk 0 (some 11) ?_;simp only[pUz];refine yTk 1 (some 12) ?_;simp only[pUz];refine yTk 2 (some 13) ?_;simp only[pUz];refine yTk 3 (some 14) ?_;simp only[pUz];refine yTk 4 (some 15) ?_;simp only[pUz];refine yTk 5 (some 16) ?_;simp only[pUz];refine yTk 6 (some 17) ?_;simp only[pUz];refine zAa 7 (some 18) (v:=?vb7) rfl rfl (by kernel_rfl) rfl (by rfl) (fun W hW=>?yb7) ?_
    case yb7=>have h1:=(hW.cell (p:=⟨g,o+i,none⟩) hgd).trans e0;go_simp<;>with_reducible rfl
    simp only[pUz];refine zAe 8 rfl (by kernel_rfl) (fun K hK=>?_);go_simp;refine (HW.out _ HAt.out HTd.out).mono ?_;rintro e w5 ⟨rfl,hb5⟩;refine hK.out _ _ hb5 ?_;have HB5:=hTz HBd hb5;clear hK K hb5 HBd HTd HAt;(try simp only[pUz]);refine zAi (by kernel_rfl) ?_ _;go_wp2
    go_roundg r
    case measure=>omega
    case rel=>exact⟨i+1,by omega,by go_num,hnext,HB5.out⟩
theorem zOm (g:Nat) (lb:Array Value) (eg:∀args w,(callFunc g args).run Tryz.prog w=.ok (.enter g args) w) (p:List UInt8->Bool) (L:List (List UInt8)) (w:World) (A:Option Addr) (n c:Nat) (hA:Has w w.heap.size 1 A n (strs L)) (hn:n<=1000000)
  (hp:∀u∈L,∀W,Below w.heap.size w W->Calls Tryz.prog g (#[.string (txt u)]++lb) W fun e w'=>e=.returned (.bool (p u))/\Below W.heap.size W w'):
  Calls Tryz.prog 194 #[.slice A n c,.func (.func g) #[] lb] w fun e w'=>∃x:Int,e=.returned (.int .i64 x)/\(0<=x↔∃u∈L,p u=true)/\Below w.heap.size w w':=by
 have hnl:=hA.strs_n;have HA:=hide hA;have HN:=hide hnl;have HP:=hide hp;clear hA hnl hp;go_enter Tryz.func194,Tryz.ntmps194;go_wp2
 go_loopg [8] n (fun r s8 wx=>∃i:Nat,i+r=n/\s8=.int .i64 (i:Int)/\Hid (∀u∈L.take i,p u=false)/\Hid (Below w.heap.size w wx))
 case atStart=>exact⟨0,by omega,rfl,hide fun u hu=>(by simp at hu),hide (Below.refl _ _)⟩
 case round=>
  obtain⟨i,hig,rfl,hpre,hbr⟩:=hrel;cases gk with
  | zero=>
   obtain rfl:n=i:=by omega
   have hiz:¬((n:Int)<(n:Int)):=by omega
   have hno:Hid (¬∃u∈L,p u=true):=hide (by
    rintro ⟨u,hu,h⟩
    have:=hpre.out
    rw[List.take_of_length_le (by rw[HN.out];exact Nat.le_refl _)] at this
    rw[this u hu] at h
    cases h)
   clear hpre HA HN HP;go_wp2;go_ret;exact⟨-1,rfl,⟨fun h=>absurd h (by omega),fun h=>absurd h hno.out⟩,hbr.out⟩
  | succ r=>
   have hi:i<n:=by omega
   have hiz:(i:Int)<(n:Int):=by omega
   obtain⟨u,hu⟩:∃u,L[i]?=some u:=⟨_,List.getElem?_eq_getElem (by rw[<-HN.out];exact hi)⟩;obtain⟨g1,o1,hAe,hg,hat⟩:=HA.out.texts (fun h=>by rw[h] at hu;simp at hu);subst hAe;have e0:=(hbr.out.cell (p:=⟨g1,o1+i,none⟩) hg).trans (hat i u hu);have hcall:=HP.out u (List.mem_of_getElem? hu) wr hbr.out;obtain⟨b,hb⟩:∃b,p u=b:=⟨_,rfl⟩;rw[hb] at hcall;have Hcall:=hide hcall;cases b with
   | true=>
    have hyes:Hid (∃u∈L,p u=true):=hide ⟨u,List.mem_of_getElem? hu,hb⟩;generalize txt u=SU at *;clear hcall hat hu hb hpre HA HN HP;go_wp2_with (go_at_fn g;fail);refine Hcall.out.mono ?_;rintro e w3 ⟨rfl,hb3⟩;have HE:=hTz hbr hb3;clear hb3 hbr Hcall e0;go_wp2;go_ret;exact⟨(i:Int),rfl,⟨fun _=>hyes.out,fun _=>by omega⟩,HE.out⟩
   | false=>
    have hnext:Hid (∀x∈L.take (i+1),p x=false):=hide (by
     rw[List.take_add_one,hu]
     intro x hx
     rcases List.mem_append.1 hx with h | h
     ·exact hpre.out x h
     ·obtain rfl:x=u:=by simpa using h
      exact hb)
    generalize txt u=SU at *;clear hcall hat hu hb hpre;go_wp2_with (go_at_fn g;fail);refine Hcall.out.mono ?_;rintro e w3 ⟨rfl,hb3⟩;have HE:=hTz hbr hb3;clear hb3 hbr Hcall e0;go_wp2
    go_roundg r
    case measure=>omega
    case rel=>exact⟨i+1,by omega,by go_num,hnext,HE⟩
theorem zId (g:Nat) (lb:Array Value) (eg:∀args w,(callFunc g args).run Tryz.prog w=.ok (.enter g args) w) (p:List UInt8->Bool) (L:List (List UInt8)) (w:World) (A:Option Addr) (n c:Nat) (hA:Has w w.heap.size 1 A n (strs L)) (hn:n<=1000000)
  (hp:∀u∈L,∀W,Below w.heap.size w W->Calls Tryz.prog g (#[.string (txt u)]++lb) W fun e w'=>e=.returned (.bool (p u))/\Below W.heap.size W w'):
  Calls Tryz.prog 156 #[.slice A n c,.func (.func g) #[] lb] w fun e w'=>e=.returned (.bool (Tr (∃u∈L,p u=true)))/\Below w.heap.size w w':=by
 have HI:=hide (zOm g lb eg p L w A n c hA hn hp);clear hA hn hp;go_enter Tryz.func156,Tryz.ntmps156;go_wp2_with (go_at_call 194;fail);refine HI.out.mono ?_;rintro e w2 ⟨x,rfl,hx,hb⟩;have Hx:=hide hx;have HB:=hide hb;clear HI hx hb;by_cases h:0<=x
 ·go_wp2;go_ret;exact⟨by rw[zAm (Hx.out.1 h)];rfl,HB.out⟩
 ·go_wp2;go_ret;exact⟨by rw[zAp fun q=>absurd (Hx.out.2 q) (by omega)];simp;omega,HB.out⟩
noncomputable def likeB (name m u:List UInt8):Bool:=((valV name u).2==0)&&((valV name u).1==m)
theorem has1_any (name m u:List UInt8) (w:World) (h k:Nat) (hh:w.cell? ⟨h,0,none⟩=some (.string (txt name))) (hk:w.cell? ⟨k,0,none⟩=some (.string (txt m))) (lk:k<w.heap.size) (hname:name.length<=1000000) (hu:u.length<=1000000) (hT:TM w):
  Calls Tryz.prog 157 #[.string (txt u),.pointer (some ⟨h,0,none⟩),.pointer (some ⟨k,0,none⟩)] w fun e w'=>e=.returned (.bool (likeB name m u))/\Below w.heap.size w w':=by
 have hV:=zB9 name u hname hu w hT;unfold likeB;obtain⟨y,hy⟩:∃y,(valV name u).2=y:=⟨_,rfl⟩;obtain⟨z,hz⟩:∃z,(valV name u).1=z:=⟨_,rfl⟩;rw[hy,hz] at hV ⊢;have q1:((txt z).toList==(txt m).toList)=(z==m):=by rw[zAb,zAb]
 obtain⟨b0,hb0⟩:∃b,(y==0)=b:=⟨_,rfl⟩;obtain⟨b1,hb1⟩:∃b,(z==m)=b:=⟨_,rfl⟩;rw[hb1] at q1;rw[hb0,hb1];have HV:=hide hV;clear hV hy hz hb1 hT;generalize txt z=Z at *;generalize txt m=M at *;generalize txt name=S at *;generalize txt u=U at *;cases b0
 all_goals
  go_enter Tryz.func157,Tryz.ntmps157;go_wp2_with (go_at_call 148;fail);refine HV.out.mono ?_;rintro e w2 ⟨rfl,hb2⟩;have k2:=(hb2.cell (p:=⟨k,0,none⟩) lk).trans hk;have HB:=hide hb2;clear hb2 HV hh hk;go_wp2;go_ret;exact⟨by simp,HB.out⟩
theorem zNh (nm:List UInt8) (L:List EA) (name v:List UInt8) (w:World) (A:Option Addr) (n c:Nat) (xs:List Value) (hA:Has w w.heap.size 2 A n xs) (hL:EAs w w.heap.size xs L) (hn:n<=1000000)
  (hname:name.length<=1000000) (hv:v.length<=1000000) (hvs:∀a∈L,a.2.length<=1000000/\∀u∈a.2,u.length<=1000000) (hT:TM w):
  Calls Tryz.prog 106 #[.agg #[.string (txt nm),.slice A n c],.string (txt name),.string (txt v)] w fun e w'=>e=.returned (.bool (Tr (HasE L name v)))/\Below w.heap.size w w':=by
 have hR:(valuesE L name).length<=1000000/\∀u∈valuesE L name,u.length<=1000000:=by
  unfold valuesE;split
  ·simp
  ·rcases zD2 L (typ name).1 with h | ⟨a,ha,h⟩
   ·rw [h];simp
   ·rw [h];exact hvs a ha
 have hV:=fun w hT=>zB9 name v hname hv w hT
 have hb1:=below1 w (.cells #[.string (txt nm),.slice A n c] 38);have hX:=BoxE.new w (txt nm) A n c 38;obtain⟨w1,hw1⟩:∃w1,w.alloc (.cells #[.string (txt nm),.slice A n c] 38)=w1:=⟨_,rfl⟩;have hs1:w1.heap.size=w.heap.size+1:=by rw[<-hw1];simp
 rw[hw1] at hb1 hX;have hb2:=below1 w1 (.cells #[.string (txt name)] 9);have hN:(w1.alloc (.cells #[.string (txt name)] 9)).cell? ⟨w1.heap.size,0,none⟩=some (.string (txt name)):=by rw[World.cell?_alloc_at (hn:=by simp)];rfl
 have hNl:w1.heap.size<(w1.alloc (.cells #[.string (txt name)] 9)).heap.size:=by simp
 obtain⟨w2,hw2⟩:∃w2,w1.alloc (.cells #[.string (txt name)] 9)=w2:=⟨_,rfl⟩;rw[hw2] at hb2 hN hNl;rw[hs1] at hN hNl;have hX2:=hX.grow hb2;have hbb:=hb1.trans (hb2.mono hb1.size);have HX:=hide hX2;have HB:=hide hbb;have HT:=hide (hT.below hbb);have HA:=hide ((hA.below hbb).upto hbb.size);have HL:=hide (hL.grow hbb);have Hw1:=hide hw1;have Hw2:=hide hw2;have Hs1:=hide hs1;obtain⟨h,hh⟩:∃h,w.heap.size=h:=⟨_,rfl⟩;obtain⟨k,hk⟩:∃k,w.heap.size+1=k:=⟨_,rfl⟩;rw[hh] at HX;rw[hk] at hN hNl;have Hh:=hide hh;have Hk:=hide hk;have HN:=hide (And.intro hN hNl);clear hb1 hX hw1 hs1 hb2 hN hNl hw2 hX2 hbb hh hk hA hL hT;by_cases h0:(valV name v).2=0
 ·obtain ⟨m,hm⟩:∃m,(valV name v).1=m:=⟨_,rfl⟩;rw[h0,hm] at hV;have HPV:=hide (fun w hA hL hT=>zGl nm L name w A n c xs hA hL hn hT);have HH1:=hide (fun u (hu:u∈valuesE L name) w j hh hk lk hT=>has1_any name m u w k j hh hk lk hname (hR.2 u hu) hT);obtain⟨Q,hQ⟩:∃Q,Tr (HasE L name v)=Q:=⟨_,rfl⟩;have HQ:Hid (Tr (∃u∈valuesE L name,likeB name m u=true)=Q):=hide (by
   rw[<-hQ]
   unfold HasE WithinV AlikeV likeB
   by_cases hq:∃u∈valuesE L name,(valV name v).2=0/\(valV name u).2=0/\(valV name u).1=(valV name v).1
   ·rw [zAm hq,zAm]
    obtain⟨u,hu,_,h1,h2⟩:=hq
    exact⟨u,hu,by rw[h1,h2,hm];simp⟩
   ·rw [zAp hq,zAp]
    rintro ⟨u,hu,h1⟩
    simp only[Bool.and_eq_true,beq_iff_eq] at h1
    exact hq ⟨u,hu,h0,h1.1,h1.2.trans hm.symm⟩)
  rw[hQ];have HV:=hide hV;have HR1:=hide hR.1;clear hV hR hQ h0 hm hvs hv;obtain⟨R,hRe⟩:∃R,valuesE L name=R:=⟨_,rfl⟩;rw[hRe] at HPV HH1 HQ HR1;generalize txt nm=SN at *;generalize txt v=SV at *;generalize txt m=SM at *;generalize txt name=S at *;go_enter Tryz.func106,Tryz.ntmps106;go_upto_region 1 with fail;rw[Hw1.out,Hw2.out];(try rw[Hs1.out]);rw[Hk.out,Hh.out];have n0:=HN.out.1;go_wp2_with (go_at_call 148;fail);refine (HV.out _ HT.out).mono ?_;rintro e w3 ⟨rfl,hb3⟩;have hX3:=HX.out.grow hb3;have n3:=(hb3.cell (p:=⟨k,0,none⟩) HN.out.2).trans n0;have l3:=Nat.lt_of_lt_of_le HN.out.2 hb3.size;have hba:=below1 w3 (.cells #[.string SM] 9);have hM:(w3.alloc (.cells #[.string SM] 9)).cell? ⟨w3.heap.size,0,none⟩=some (.string SM):=by rw[World.cell?_alloc_at (hn:=by simp)];rfl
  have hMl:w3.heap.size<(w3.alloc (.cells #[.string SM] 9)).heap.size:=by simp
  have hX4:=hX3.grow hba;have n4:=(hba.cell (p:=⟨k,0,none⟩) l3).trans n3;have l4:=Nat.lt_of_lt_of_le l3 hba.size;have hb4:=hb3.trans (hba.mono hb3.size);have HB4:=hTz HB hb4;have HT4:=hide (HT.out.below hb4);have HA4:=hide ((HA.out.below hb4).upto hb4.size);have HL4:=hide (HL.out.grow hb4);obtain⟨j,hj⟩:∃j,w3.heap.size=j:=⟨_,rfl⟩;have Hj:=hide hj;rw[hj] at hM hMl;have x0:=hX4.c0;have x1:=hX4.c1;have HM:=hide (And.intro hM hMl);have HN4:=hide (And.intro n4 l4);clear hX3 n3 l3 hba hX4 l4 hb4 hb3 HB HT HA HL HX HV hj hM hMl n0 HN;go_wp2_with (go_at_call 60;fail);refine (HPV.out _ HA4.out HL4.out HT4.out).mono ?_;rintro e w5 hpost;obtain⟨A5,c5,rfl,hh5,_,_,hb5⟩:=hpost.out;have HB5:=hTz HB4 hb5;have HT5:=hide (HT4.out.below hb5);have c1:=(hb5.cell (p:=⟨k,0,none⟩) HN4.out.2).trans HN4.out.1;have c2:=(hb5.cell (p:=⟨j,0,none⟩) HM.out.2).trans HM.out.1;have l1:=Nat.lt_of_lt_of_le HN4.out.2 hb5.size;have l2:=Nat.lt_of_lt_of_le HM.out.2 hb5.size;have hC:=zId 157 #[.pointer (some ⟨k,0,none⟩),.pointer (some ⟨j,0,none⟩)] (fun args w=>by go_simp) (likeB name m) R w5 A5 R.length c5 hh5 HR1.out (fun u hu W hW=>HH1.out u hu W j ((hW.cell (p:=⟨k,0,none⟩) l1).trans c1) ((hW.cell (p:=⟨j,0,none⟩) l2).trans c2) (Nat.lt_of_lt_of_le l2 hW.size) (HT5.out.below hW));rw[HQ.out] at hC;have HC:=hide hC;clear hpost hh5 hb5 c1 c2 l1 l2 hC HB4 HT4 HA4 HL4 HPV HH1 HQ HR1 x0 x1 n4 HN4 HM HT5;(try rw[Hj.out]);go_wp2_with (go_at_call 156;fail);(try rw[Hj.out]);refine HC.out.mono ?_;rintro e w6 ⟨rfl,hb6⟩;have HB6:=hTz HB5 hb6;clear hb6 HB5 HC;go_wp2;go_ret;exact⟨rfl,HB6.out⟩
 ·rw [zAp (show ¬HasE L name v from fun ⟨u,_,h,_⟩=>h0 h)];have q0:((valV name v).2==0)=false:=beq_false_of_ne h0;have q0':((valV name v).2 !=0)=true:=by unfold bne;rw[q0];rfl
  have HV:=hide hV;generalize (valV name v).2=y at *;generalize txt (valV name v).1=SM at *;generalize txt nm=SN at *;generalize txt v=SV at *;generalize txt name=S at *;clear hV hR h0 hvs hv;go_enter Tryz.func106,Tryz.ntmps106;go_upto_region 1 with fail;rw[Hw1.out,Hw2.out];(try rw[Hs1.out]);rw[Hk.out,Hh.out];have n0:=HN.out.1;go_wp2_with (go_at_call 148;fail);refine (HV.out _ HT.out).mono ?_;rintro e w3 ⟨rfl,hb3⟩;have HB3:=hTz HB hb3;have hba:=hide (below1 w3 (.cells #[.string SM] 9));clear hb3 n0;go_wp2;go_ret;exact⟨rfl,HB3.out.trans (hba.out.mono HB3.out.size)⟩
noncomputable def nnB (l:List UInt8):Bool:=((normT l).2==0)&& !((normT l).1==[])
theorem zI6 (l:List UInt8) (hl:l.length<=1000000) (w:World) (hT:TM w):
  Calls Tryz.prog 58 #[.string (txt l)] w fun e w'=>e=.returned (.tuple #[.string (txt (normT l).1),.bool (nnB l)])/\Below w.heap.size w w':=by
 have hN:=zBk l hl w hT;unfold nnB;have q1:((txt (normT l).1).toList==[])=((normT l).1==[]):=toeq _ _;obtain⟨b0,hb0⟩:∃b,((normT l).2==0)=b:=⟨_,rfl⟩;obtain⟨b1,hb1⟩:∃b,((normT l).1==[])=b:=⟨_,rfl⟩;rw[hb1] at q1;have q1':((txt (normT l).1).toList !=[])= !b1:=by unfold bne;rw[q1]
 rw[hb0,hb1];have HN:=hide hN;clear hN hb1 hT hl;generalize (normT l).2=y at *;generalize txt (normT l).1=N at *;generalize txt l=S at *;cases b0
 all_goals cases b1
 all_goals
  go_enter Tryz.func58,Tryz.ntmps58;go_wp2_with (go_at_call 42;fail);refine HN.out.mono ?_;rintro e w2 ⟨rfl,hb2⟩;have HB:=hide hb2;clear hb2 HN;go_wp2;go_ret2;exact⟨rfl,HB.out⟩
noncomputable def pairsE (nm:List UInt8):List P2:=match (nameV nm).1 with
 | some (p::_)=>p
 | _=>[]
theorem zCd {nm:List UInt8} (h:normT nm=(nm,0)) (hne:nm≠[]) (L:List EA):NamedR nm L↔∀p∈pairsE nm,HasE L p.1 p.2:=by
 cases hV:nameV nm with
 | mk o e=>
  cases o with
  | none=>
   have he:=zEd hV;have:partsV nm=(none,e):=by unfold partsV;rw[hV]
   rw[norm_no' this] at h;have:=congrArg Prod.snd h;simp only at this;omega
  | some P=>
   obtain⟨rfl,hok⟩:=zCf hV;cases P with
   | nil=>
    have:partsV nm=(some [],0):=by unfold partsV;rw[hV];simp[joinC]
    rw[norm_yes' this] at h;have:=congrArg Prod.fst h;exact absurd this.symm hne
   | cons p r=>
    unfold NamedR pairsE;rw[hV];simp only;constructor
    ·rintro ⟨p',r',he,h2⟩;injection he with he _
     injection he with he
     injection he with he _
     subst he;exact h2
    ·intro h2;exact⟨p,r,rfl,h2⟩
structure PairsPost (R:List P2) (w:World) (e:Ending) (w':World):Prop where
 out:∃A c,e=.returned (.slice A R.length c)/\Has w' w'.heap.size 2 A R.length (prs R)/\Below w.heap.size w w'
structure PairsPostL (R:List P2) (w:World) (e:Ending) (w':World):Prop where
 out:∃A c,e=.returned (.slice A R.length c)/\Has w' w'.heap.size 2 A R.length (prs R)/\Below w.heap.size w w'/\(R=[]\/∀ad,A=some ad->w.heap.size<=ad.block)
theorem zP6 (l:List UInt8) (hl:l.length<=1000000) (w:World) (hT:TM w):
  Calls Tryz.prog 105 #[.string (txt l)] w (PairsPostL (pairsE l) w):=by
 suffices H:Calls Tryz.prog 105 #[.string (txt l)] w fun e w'=>∃A c,e=.returned (.slice A (pairsE l).length c)/\Has w' w'.heap.size 2 A (pairsE l).length (prs (pairsE l))/\Below w.heap.size w w'/\(pairsE l=[]\/∀ad,A=some ad->w.heap.size<=ad.block) from H.mono fun e w' h=>⟨h⟩
 have hP:=zKn l hl w hT;have HP:=hide hP;unfold pairsE;cases hV:nameV l with
 | mk o er=>
  rw[hV] at HP;have HP':Hid (Calls Tryz.prog 125 #[.string (txt l)] w (NamePostL (o,er) w)):=HP;clear hP hV HP hT hl;generalize txt l=S at *;simp only;cases o with
  | none=>
   simp only;go_enter Tryz.func105,Tryz.ntmps105;go_wp2_with (go_at_call 125;fail);refine HP'.out.mono ?_;rintro e w2 hpost;obtain⟨A,c,vs,rfl,_,_,hb2,_⟩:=hpost.out;simp only[Option.getD_none,List.length_nil];have hba:=below1 w2 (.cells #[.slice A 0 c] 155);have y0:(w2.alloc (.cells #[.slice A 0 c] 155)).cell? ⟨w2.heap.size,0,none⟩=some (.slice A 0 c):=by rw[World.cell?_alloc_at (hn:=by simp)];rfl
   have HB:=hide (hb2.trans (hba.mono hb2.size));clear hpost hb2 hba HP';go_wp2;go_ret;exact⟨none,⟨0,rfl⟩,⟨rfl,.inl rfl⟩,HB.out⟩
  | some P=>
   cases P with
   | nil=>
    simp only;go_enter Tryz.func105,Tryz.ntmps105;go_wp2_with (go_at_call 125;fail);refine HP'.out.mono ?_;rintro e w2 hpost;obtain⟨A,c,vs,rfl,_,_,hb2,_⟩:=hpost.out;simp only[Option.getD_some,List.length_nil];have hba:=below1 w2 (.cells #[.slice A 0 c] 155);have y0:(w2.alloc (.cells #[.slice A 0 c] 155)).cell? ⟨w2.heap.size,0,none⟩=some (.slice A 0 c):=by rw[World.cell?_alloc_at (hn:=by simp)];rfl
    have HB:=hide (hb2.trans (hba.mono hb2.size));clear hpost hb2 hba HP';go_wp2;go_ret;exact⟨none,⟨0,rfl⟩,⟨rfl,.inl rfl⟩,HB.out⟩
   | cons p r=>
    simp only;obtain⟨m,hm⟩:∃m,(p::r).length=m:=⟨_,rfl⟩;have hm0:((m:Int)==0)=false:=beq_false_of_ne (by rw[<-hm,List.length_cons];omega);have hmz:(0:Int)<(m:Int):=by rw[<-hm,List.length_cons];omega
    have Hm:=hide hm;obtain⟨k,hk⟩:∃k,p.length=k:=⟨_,rfl⟩;have Hk:=hide hk;clear hm hk;go_enter Tryz.func105,Tryz.ntmps105;go_wp2_with (go_at_call 125;fail);refine HP'.out.mono ?_;rintro e w2 hpost;obtain⟨A,c,vs,rfl,hvs,hrw,hb2,hlow⟩:=hpost.out;simp only[Option.getD_some] at hvs hrw ⊢;rw[Hm.out] at hvs ⊢;obtain⟨g,o,rfl,hg,hcell⟩:=hvs.lies (by have:=hvs.1;have:=Hm.out;simp at this;omega);obtain⟨Aq,cq,hv0,hHp⟩:=hrw.each 0 p rfl;have y00:=hcell 0 _ hv0;rw[Nat.add_zero,Hk.out] at y00;rw[Hk.out] at hHp;have hba:=below1 w2 (.cells #[.slice (some ⟨g,o,none⟩) m c] 155);have y0:(w2.alloc (.cells #[.slice (some ⟨g,o,none⟩) m c] 155)).cell? ⟨w2.heap.size,0,none⟩=some (.slice (some ⟨g,o,none⟩) m c):=by rw[World.cell?_alloc_at (hn:=by simp)];rfl
    have y1:=(hba.cell (p:=⟨g,o,none⟩) hg).trans y00;have HB:=hide (hb2.trans (hba.mono hb2.size));have HHp:=hide ((hHp.below hba).upto hba.size);have HLow:=hide (hlow 0 p Aq cq rfl hv0);clear hpost hb2 hba HP' hvs hrw hcell hv0 hHp y00 hg hlow;go_wp2;go_ret;exact⟨Aq,cq,by rw[Hk.out];rfl,by rw[Hk.out];exact HHp.out,HB.out,HLow.out⟩
theorem zJs (l:List UInt8) (hl:l.length<=1000000) (w:World) (hT:TM w):
  Calls Tryz.prog 105 #[.string (txt l)] w (PairsPost (pairsE l) w):=(zP6 l hl w hT).mono fun e w' h=>by
 obtain⟨A,c,h1,h2,h3,_⟩:=h.out;exact⟨A,c,h1,h2,h3⟩
theorem zQy (nm:List UInt8) (L:List EA) (w:World) (A:Option Addr) (n c:Nat) (xs:List Value) (hA:Has w w.heap.size 2 A n xs) (hL:EAs w w.heap.size xs L) (hn:n<=1000000)
  (hnm:nm.length<=1000000) (hvs:∀a∈L,a.2.length<=1000000/\∀u∈a.2,u.length<=1000000) (hT:TM w):
  Calls Tryz.prog 61 #[.agg #[.string (txt nm),.slice A n c]] w fun e w'=>e=.returned (.bool (Tr (∀p∈pairsE nm,HasE L p.1 p.2)))/\Below w.heap.size w w':=by
 have hsm:∀q∈pairsE nm,q.1.length<=1000000/\q.2.length<=1000000:=by
  intro q hq;unfold pairsE at hq;cases hV:nameV nm with
  | mk o e=>
   rw[hV] at hq;cases o with
   | none=>cases hq
   | some P=>
    obtain⟨_,hok⟩:=zCf hV;cases P with
    | nil=>cases hq
    | cons p r=>
     have:=((hok.each p (by simp)).each q hq).small;omega
 have hl3:(pairsE nm).length<=1000000:=by
  unfold pairsE;cases hV:nameV nm with
  | mk o e=>
   cases o with
   | none=>simp
   | some P=>
    obtain⟨_,hok⟩:=zCf hV;cases P with
    | nil=>simp
    | cons p r=>have:=(hok.each p (by simp)).le;simp only;omega
 have hF:=fun w hT=>zJs nm hnm w hT
 have HC:=hide (fun q (hq:q∈pairsE nm) w hA hL hT=>zNh nm L q.1 q.2 w A n c xs hA hL hn (hsm q hq).1 (hsm q hq).2 hvs hT);have hb1:=below1 w (.cells #[.string (txt nm),.slice A n c] 38);have hX:=BoxE.new w (txt nm) A n c 38;have HA:=hide ((hA.below hb1).upto hb1.size);have HL:=hide (hL.grow hb1);have HT:=hide (hT.below hb1);have HB:=hide hb1;have HX:=hide hX;have x0:=hX.c0;obtain⟨P,hP⟩:∃P,pairsE nm=P:=⟨_,rfl⟩;rw[hP] at HC hl3 ⊢;have HF:Hid (∀w,TM w->Calls Tryz.prog 105 #[.string (txt nm)] w (PairsPost P w)):=hide (by rw[<-hP];exact hF);obtain⟨R,hR⟩:∃R,Tr (∀p∈P,HasE L p.1 p.2)=R:=⟨_,rfl⟩;rw[hR];have HR:=hide hR;obtain⟨k,hk⟩:∃k,P.length=k:=⟨_,rfl⟩;have Hk:=hide hk;rw[hk] at hl3;clear hP hF hR hsm hb1 hX hA hL hT hnm hvs hk;generalize txt nm=SN at *;go_enter Tryz.func61,Tryz.ntmps61;go_wp2_with (go_at_call 105;fail);refine (HF.out _ HT.out).mono ?_;rintro e w2 hpost;obtain⟨Ap,cp,rfl,hHp,hb2⟩:=hpost.out;rw[Hk.out] at hHp ⊢;have HB2:=hTz HB hb2;have HX2:=hide (HX.out.grow hb2);have HT2:=hide (HT.out.below hb2);have HA2:=hide ((HA.out.below hb2).upto hb2.size);have HL2:=hide (HL.out.grow hb2);have HHp:=hide hHp;clear hpost hHp hb2 HB HT HX HA HL HF x0;go_wp2
 go_loopg [9] k (fun r s9 wx=>∃i:Nat,i+r=k/\s9=.int .i64 (i:Int)/\Hid (∀q∈P.take i,HasE L q.1 q.2)/\Hid (Below w2.heap.size w2 wx))
 case atStart=>exact⟨0,by omega,rfl,hide fun q hq=>(by simp at hq),hide (Below.refl _ _)⟩
 case round=>
  obtain⟨i,hig,rfl,hpre,hbr⟩:=hrel;cases gk with
  | zero=>
   obtain rfl:k=i:=by omega
   have hiz:¬((k:Int)<(k:Int)):=by omega
   have hR1:Hid (R=true):=hide (by
    rw[<-HR.out]
    have:=hpre.out
    rw[List.take_of_length_le (by rw[Hk.out];exact Nat.le_refl _)] at this
    exact zAm this)
   have HE:=hide (HB2.out.trans (hbr.out.mono HB2.out.size));clear hpre HA2 HL2 HT2 HX2 HR HC HHp hbr;go_wp2;go_ret;exact⟨by rw[hR1.out];rfl,HE.out⟩
  | succ r=>
   have hi:i<k:=by omega
   have hiz:(i:Int)<(k:Int):=by omega
   obtain⟨q,hq⟩:∃q,P[i]?=some q:=⟨_,List.getElem?_eq_getElem (by rw[Hk.out];exact hi)⟩;obtain⟨g2,o2,rfl,hg2,hrd⟩:=HHp.out.reads (fun h=>by rw[h] at hq;simp at hq);have y1:=(hbr.out.cell (p:=⟨g2,o2+i*2,none⟩) hg2).trans (hrd.fst i q hq);have y2:=(hbr.out.cell (p:=⟨g2,o2+i*2+1,none⟩) hg2).trans (hrd.snd i q hq);have hba:=below1 wr (.cells #[.string (txt q.1),.string (txt q.2)] 133);obtain⟨p0,p1,_,_,_⟩:=Bx.new wr (txt q.1) (txt q.2) 133;have hX3:=(HX2.out.below HX2.out.lt hbr.out).grow hba;have z0:=hX3.c0;have z1:=hX3.c1;have hb3:=hbr.out.trans (hba.mono hbr.out.size);have HB3:=hide hb3;have HT3:=hide (HT2.out.below hb3);have HA3:=hide ((HA2.out.below hb3).upto hb3.size);have HL3:=hide (HL2.out.grow hb3);have hcall:=HC.out q (List.mem_of_getElem? hq);obtain⟨b,hb⟩:∃b,Tr (HasE L q.1 q.2)=b:=⟨_,rfl⟩;rw[hb] at hcall;have Hcall:=hide hcall;cases b with
   | true=>
    have hnext:Hid (∀x∈P.take (i+1),HasE L x.1 x.2):=hide (by
     rw[List.take_add_one,hq]
     intro x hx
     rcases List.mem_append.1 hx with h | h
     ·exact hpre.out x h
     ·obtain rfl:x=q:=by simpa using h
      exact Tr_iff.1 hb)
    generalize txt q.1=S1 at *;generalize txt q.2=S2 at *;clear hcall hrd hq hb hpre hba hX3 hb3 hbr;go_wp2_with (go_at_call 106;fail);refine (Hcall.out _ HA3.out HL3.out HT3.out).mono ?_;rintro e w4 ⟨rfl,hb4⟩;have HE:=hTz HB3 hb4;clear Hcall hb4 HB3 HT3 HA3 HL3 p0 p1 z0 z1 y1 y2;go_wp2
    go_roundg r
    case measure=>omega
    case rel=>exact⟨i+1,by omega,by go_num,hnext,HE⟩
   | false=>
    have hR1:Hid (R=false):=hide (by
     rw[<-HR.out]
     exact zAp fun h=>by
      have:=h q (List.mem_of_getElem? hq)
      rw[zAm this] at hb
      cases hb)
    generalize txt q.1=S1 at *;generalize txt q.2=S2 at *;clear hcall hrd hq hb hpre hba hX3 hb3 hbr HR HC;go_wp2_with (go_at_call 106;fail);refine (Hcall.out _ HA3.out HL3.out HT3.out).mono ?_;rintro e w4 ⟨rfl,hb4⟩;have HE:=hide (HB2.out.trans ((HB3.out.trans (hb4.mono HB3.out.size)).mono HB2.out.size));clear Hcall hb4 HB3 HT3 HA3 HL3 p0 p1 z0 z1 y1 y2;go_wp2;go_ret;exact⟨by rw[hR1.out];rfl,HE.out⟩
theorem zO1 (L:List EA) (w:World) (A:Option Addr) (n c:Nat) (xs:List Value) (hA:Has w w.heap.size 2 A n xs) (hL:EAs w w.heap.size xs L) (hn:n<=1000000)
  (hvs:∀a∈L,a.2.length<=1000000/\∀u∈a.2,u.length<=1000000) (hT:TM w):
  Calls Tryz.prog 59 #[.slice A n c] w fun e w'=>e=.returned (.bool (Tr (FormedL L)))/\Below w.heap.size w w':=by
 have hnl:=hA.eas_n hL;by_cases h14:n<=14
 ·have z14:¬((14:Int)<(n:Int)):=by omega
  obtain⟨R,hR⟩:∃R,Tr (FormedL L)=R:=⟨_,rfl⟩;rw[hR];have HR:Hid ((∀i,i<n->OkAt L i)↔R=true):=hide (by
   rw[<-hR,Tr_iff,hnl]
   constructor
   ·intro h
    exact formed_at.2 ⟨by omega,h⟩
   ·intro h
    exact (formed_at.1 h).2)
  have HA:=hide hA;have HL:=hide hL;have HT:=hide hT;have HNl:=hide hnl;have HCs:=hide (fun a (ha:a∈L) w V k cv hk hV hT=>zSl a w V k cv hV hk (hvs a ha).2 hT);have HVk:=hide (fun a (ha:a∈L)=>(hvs a ha).1);clear hA hL hT hnl hR hvs;go_enter Tryz.func59,Tryz.ntmps59;go_wp2
  go_loopg [10] n (fun r s10 wx=>∃i:Nat,i+r=n/\s10=.int .i64 (i:Int)/\Hid (∀j,j<i->OkAt L j)/\Hid (Below w.heap.size w wx))
  case atStart=>exact⟨0,by omega,rfl,hide fun j hj=>by omega,hide (Below.refl _ _)⟩
  case round=>
   obtain⟨i,hig,rfl,hpre,hbr⟩:=hrel;cases gk with
   | zero=>
    obtain rfl:n=i:=by omega
    have hiz:¬((n:Int)<(n:Int)):=(by omega);have hR1:Hid (R=true):=hide (HR.out.1 hpre.out);clear hpre HA HL HT HR HNl HCs HVk;go_wp2;go_ret;exact⟨by rw[hR1.out];rfl,hbr.out⟩
   | succ r=>
    have hi:i<n:=(by omega);have hiz:(i:Int)<(n:Int):=(by omega);obtain⟨a,ha⟩:∃a,L[i]?=some a:=⟨_,List.getElem?_eq_getElem (by rw[<-HNl.out];exact hi)⟩;obtain⟨g,o,hAe,hg,hat⟩:=HA.out.ea HL.out (fun h=>by rw[h] at ha;simp at ha);subst hAe;obtain⟨V,cv,hai⟩:=hat i a ha;have hai:=hai.below hg hbr.out;have e0:=hai.e0;have e1:=hai.e1;obtain⟨k,hk⟩:∃k,a.2.length=k:=⟨_,rfl⟩;rw[hk] at e1;have hba:=below1 wr (.cells #[.string (txt a.1),.slice V k cv] 60);have hXa:=BoxE.new wr (txt a.1) V k cv 60;have hV1:=((hai.has.upto hbr.out.size).below hba).upto hba.size;rw[hk] at hV1;have hBa:=hbr.out.trans (hba.mono hbr.out.size);have u0:=hXa.c0;have u1:=hXa.c1;have hk6:k<=1000000:=by rw[<-hk];exact HVk.out a (List.mem_of_getElem? ha)
    have hT1:=HT.out.below hBa;have HC:=hide (fun W' (hW:Below (wr.alloc (.cells #[.string (txt a.1),.slice V k cv] 60)).heap.size (wr.alloc (.cells #[.string (txt a.1),.slice V k cv] 60)) W')=>HCs.out a (List.mem_of_getElem? ha) W' V k cv hk6 ((hV1.below hW).upto hW.size) (hT1.below hW));have HBa:=hide hBa;have HXa:=hide hXa;clear hba hXa hV1 hk hai hBa hk6 hT1;generalize hTAe:txt a.1=TA at *;have HTA:=hide hTAe;clear hTAe;go_upto_region 6 with fail;clear e0 e1;by_cases ti:i=0
    ·subst ti;clear hat;by_cases tf:FormedA a
     ·have hnext:Hid (∀q,q<(0+1)->OkAt L q):=hide (by
       intro q hq
       rcases Nat.lt_or_ge q ((0+1)-1) with h | h
       ·exact hpre.out q h
       ·obtain rfl:q=(0+1)-1:=by omega
        intro a' ha'
        simp only[Nat.add_sub_cancel] at ha'
        rw[ha] at ha'
        obtain rfl:=Option.some.inj ha'
        exact⟨tf,fun b h0=>absurd h0 (by omega)⟩)
      have hcall:=HC.out;rw[zAm tf] at hcall;have Hcall:=hide hcall;clear hcall HC tf hpre ha HR HNl HCs;go_wp2
      go_quiet (fail)
      obtain⟨w5,hw5⟩:∃w5,(wr.alloc (.cells #[.string TA,.slice V k cv] 60)).drewN nq=w5:=⟨_,rfl⟩;have hq:Below (wr.alloc (.cells #[.string TA,.slice V k cv] 60)).heap.size (wr.alloc (.cells #[.string TA,.slice V k cv] 60)) w5:=by rw[<-hw5];exact Below.drewN (Below.refl _ _) _
      rw[hw5];clear hw5;have hXq:=HXa.out.grow hq;have q0:=hXq.c0;have q1:=hXq.c1;have Hcall:=Hcall.out w5 hq;have HB5:=hTz HBa hq;have Hcall:=hide Hcall;clear hXq hq HXa HBa u0 u1;go_wp2_with (go_at_call 103;fail);refine Hcall.out.mono ?_;rintro e w4 ⟨rfl,hb4⟩;have HE:=hTz HB5 hb4;clear Hcall hb4 HB5 q0 q1;go_wp2
      go_roundg r
      case measure=>omega
      case rel=>exact⟨(0+1),by omega,by go_num,hnext,HE⟩
     ·have hR1:Hid (R=false):=hide (by
       cases hR:R with
       | false=>rfl
       | true=>exact absurd ((HR.out.2 hR _ hi) a ha).1 tf)
      have hcall:=HC.out;rw[zAp tf] at hcall;have Hcall:=hide hcall;clear hcall HC tf hpre ha HR HNl HCs;go_wp2
      go_quiet (fail)
      obtain⟨w5,hw5⟩:∃w5,(wr.alloc (.cells #[.string TA,.slice V k cv] 60)).drewN nq=w5:=⟨_,rfl⟩;have hq:Below (wr.alloc (.cells #[.string TA,.slice V k cv] 60)).heap.size (wr.alloc (.cells #[.string TA,.slice V k cv] 60)) w5:=by rw[<-hw5];exact Below.drewN (Below.refl _ _) _
      rw[hw5];clear hw5;have hXq:=HXa.out.grow hq;have q0:=hXq.c0;have q1:=hXq.c1;have Hcall:=Hcall.out w5 hq;have HB5:=hTz HBa hq;have Hcall:=hide Hcall;clear hXq hq HXa HBa u0 u1;go_wp2_with (go_at_call 103;fail);refine Hcall.out.mono ?_;rintro e w4 ⟨rfl,hb4⟩;have HE:=hTz HB5 hb4;clear Hcall hb4 HB5 q0 q1;go_wp2;go_ret;exact⟨by rw[hR1.out];rfl,HE.out⟩
    ·obtain ⟨j,rfl⟩:∃j,i=j+1:=⟨i-1,by omega⟩;obtain⟨b,hb⟩:∃b,L[j]?=some b:=⟨_,List.getElem?_eq_getElem (by rw[<-HNl.out];omega)⟩;obtain⟨Vb,cb,hbt⟩:=hat j b hb;have d1:=(HBa.out.cell (p:=⟨g,o+j*2,none⟩) hg).trans hbt.e0;have hjn:(j:Int)<(n:Int):=by omega
     have hj0:(0:Int)<(j:Int)+1:=(by omega);clear hbt hat;by_cases hlt:b.1<a.1
     ·have hbl:Op.bytesLess (txt b.1).toList TA.toList=true:=by rw[<-HTA.out,zAb,zAb];exact zEi hlt
      generalize txt b.1=TB at *;by_cases tf:FormedA a
      ·have hnext:Hid (∀q,q<(j+1+1)->OkAt L q):=hide (by
        intro q hq
        rcases Nat.lt_or_ge q ((j+1+1)-1) with h | h
        ·exact hpre.out q h
        ·obtain rfl:q=(j+1+1)-1:=by omega
         intro a' ha'
         simp only[Nat.add_sub_cancel] at ha'
         rw[ha] at ha'
         obtain rfl:=Option.some.inj ha'
         exact⟨tf,fun b' _ hb'=>by
          simp only[Nat.add_sub_cancel] at hb'
          rw[hb] at hb'
          obtain rfl:=Option.some.inj hb'
          exact hlt⟩)
       have hcall:=HC.out;rw[zAm tf] at hcall;have Hcall:=hide hcall;clear hcall HC tf hpre ha HR HNl HCs hlt hb;go_wp2
       go_quiet (fail)
       obtain⟨w5,hw5⟩:∃w5,(wr.alloc (.cells #[.string TA,.slice V k cv] 60)).drewN nq=w5:=⟨_,rfl⟩;have hq:Below (wr.alloc (.cells #[.string TA,.slice V k cv] 60)).heap.size (wr.alloc (.cells #[.string TA,.slice V k cv] 60)) w5:=by rw[<-hw5];exact Below.drewN (Below.refl _ _) _
       rw[hw5];clear hw5;have hXq:=HXa.out.grow hq;have q0:=hXq.c0;have q1:=hXq.c1;have Hcall:=Hcall.out w5 hq;have HB5:=hTz HBa hq;have Hcall:=hide Hcall;clear hXq hq HXa HBa u0 u1;go_wp2_with (go_at_call 103;fail);refine Hcall.out.mono ?_;rintro e w4 ⟨rfl,hb4⟩;have HE:=hTz HB5 hb4;clear Hcall hb4 HB5 q0 q1;go_wp2
       go_roundg r
       case measure=>omega
       case rel=>exact⟨(j+1+1),by omega,by go_num,hnext,HE⟩
      ·have hR1:Hid (R=false):=hide (by
        cases hR:R with
        | false=>rfl
        | true=>exact absurd ((HR.out.2 hR _ hi) a ha).1 tf)
       have hcall:=HC.out;rw[zAp tf] at hcall;have Hcall:=hide hcall;clear hcall HC tf hpre ha HR HNl HCs hlt hb;go_wp2
       go_quiet (fail)
       obtain⟨w5,hw5⟩:∃w5,(wr.alloc (.cells #[.string TA,.slice V k cv] 60)).drewN nq=w5:=⟨_,rfl⟩;have hq:Below (wr.alloc (.cells #[.string TA,.slice V k cv] 60)).heap.size (wr.alloc (.cells #[.string TA,.slice V k cv] 60)) w5:=by rw[<-hw5];exact Below.drewN (Below.refl _ _) _
       rw[hw5];clear hw5;have hXq:=HXa.out.grow hq;have q0:=hXq.c0;have q1:=hXq.c1;have Hcall:=Hcall.out w5 hq;have HB5:=hTz HBa hq;have Hcall:=hide Hcall;clear hXq hq HXa HBa u0 u1;go_wp2_with (go_at_call 103;fail);refine Hcall.out.mono ?_;rintro e w4 ⟨rfl,hb4⟩;have HE:=hTz HB5 hb4;clear Hcall hb4 HB5 q0 q1;go_wp2;go_ret;exact⟨by rw[hR1.out];rfl,HE.out⟩
     ·have hbl:Op.bytesLess (txt b.1).toList TA.toList=false:=by rw[<-HTA.out,zAb,zAb];exact zG6 hlt
      have hR1:Hid (R=false):=hide (by
       cases hR:R with
       | false=>rfl
       | true=>exact absurd (((HR.out.2 hR _ hi) a ha).2 b (by omega) (by rw[Nat.add_sub_cancel];exact hb)) hlt)
      generalize txt b.1=TB at *;clear HC hpre ha HR HNl HCs hlt hb hbr HXa u0 u1;go_wp2
      go_quiet (fail)
      go_wp2;go_ret;exact⟨by rw[hR1.out];rfl,Below.drewN HBa.out _⟩
 ·have z14:(14:Int)<(n:Int):=by omega
  rw[zAp (show ¬FormedL L from fun h=>h14 (by rw[hnl];exact h.le))];clear hA hL hT hnl hvs;go_enter Tryz.func59,Tryz.ntmps59;go_wp2;go_ret;exact⟨rfl,Below.refl _ _⟩
theorem zJg (nm:List UInt8) (L:List EA) (w:World) (A:Option Addr) (n c:Nat) (xs:List Value) (hA:Has w w.heap.size 2 A n xs) (hL:EAs w w.heap.size xs L) (hn:n<=1000000)
  (hnm:nm.length<=1000000) (hvs:∀a∈L,a.2.length<=1000000/\∀u∈a.2,u.length<=1000000) (hT:TM w):
  Calls Tryz.prog 25 #[.agg #[.string (txt nm),.slice A n c]] w fun e w'=>e=.returned (.bool (Tr (FormedE nm L)))/\Below w.heap.size w w':=by
 have hb1:=below1 w (.cells #[.string (txt nm),.slice A n c] 38);have hX:=BoxE.new w (txt nm) A n c 38;have hN:=fun w hT=>zI6 nm hnm w hT
 have hF:=fun w hA hL hT=>zO1 L w A n c xs hA hL hn hvs hT
 have hV:=fun w hA hL hT=>zGl nm L clsT w A n c xs hA hL hn hT
 have hP:=fun w hA hL hT=>zQy nm L w A n c xs hA hL hn hnm hvs hT
 have HA1:=hide ((hA.below hb1).upto hb1.size);have HL1:=hide (hL.grow hb1);have HT1:=hide (hT.below hb1);have HB1:=hide hb1;have HX1:=hide hX;have p1:=hX.c0;have q1:=hX.c1;have hcls:txt clsT=(⟨#[111,98,106,101,99,116,67,108,97,115,115]⟩:ByteArray):=rfl;rw[hcls] at hV;by_cases h0:nnB nm=true
 ·rw [h0] at hN;have h00:(normT nm).2=0/\(normT nm).1≠[]:=by
   unfold nnB at h0;simpa using h0
  by_cases h1:(normT nm).1=nm
  ·rw [h1] at hN;have s1:((txt nm).toList==(txt nm).toList)=true:=by simp
   have hnorm:normT nm=(nm,0):=Prod.ext h1 h00.1;have hne:nm≠[]:=by rw[h1] at h00;exact h00.2
   by_cases h2:FormedL L
   ·rw [zAm h2] at hF;obtain⟨R,hR⟩:∃R,valuesE L clsT=R:=⟨_,rfl⟩;rw[hR] at hV;by_cases h3:R=[]
    ·rw [zAp (show ¬FormedE nm L from fun h=>h.cls (hR.trans h3))];have Hm:Hid (R.length=0):=hide (by rw[h3];rfl);have HN:=hide hN;have HF:=hide hF;have HV:=hide hV;clear hN hF hV hP hb1 hX hA hL hT hnm hvs h0 h00 h1 hnorm hne h2 h3 hR;generalize txt nm=SN at *;go_enter Tryz.func25,Tryz.ntmps25;go_wp2_with (go_at_call 58;fail);refine (HN.out _ HT1.out).mono ?_;rintro e w2 ⟨rfl,hb2⟩;have HX2:=hide (HX1.out.grow hb2);have HB2:=hTz HB1 hb2;have HT2:=hide (HT1.out.below hb2);have HA2:=hide ((HA1.out.below hb2).upto hb2.size);have HL2:=hide (HL1.out.grow hb2);have p2:=HX2.out.c0;have q2:=HX2.out.c1;clear hb2 HB1 HT1 HX1 HA1 HL1 p1 q1 HN;go_wp2_with (go_at_call 59;fail);refine (HF.out _ HA2.out HL2.out HT2.out).mono ?_;rintro e w3 ⟨rfl,hb3⟩;have HX3:=hide (HX2.out.grow hb3);have HB3:=hTz HB2 hb3;have HT3:=hide (HT2.out.below hb3);have HA3:=hide ((HA2.out.below hb3).upto hb3.size);have HL3:=hide (HL2.out.grow hb3);have p3:=HX3.out.c0;have q3:=HX3.out.c1;clear hb3 HB2 HT2 HX2 HA2 HL2 p2 q2 HF;go_wp2_with (go_at_call 60;fail);refine (HV.out _ HA3.out HL3.out HT3.out).mono ?_;rintro e w4 hpost;obtain⟨A4,c4,rfl,_,_,_,hb4⟩:=hpost.out;rw[Hm.out];clear hpost;have HX4:=hide (HX3.out.grow hb4);have HB4:=hTz HB3 hb4;have HT4:=hide (HT3.out.below hb4);have HA4:=hide ((HA3.out.below hb4).upto hb4.size);have HL4:=hide (HL3.out.grow hb4);have p4:=HX4.out.c0;have q4:=HX4.out.c1;clear hb4 HB3 HT3 HX3 HA3 HL3 p3 q3 HV;go_wp2;go_ret;exact⟨rfl,HB4.out⟩
    ·have hpos:0<R.length:=List.length_pos_iff.2 h3;obtain⟨b,hb⟩:∃b,Tr (∀p∈pairsE nm,HasE L p.1 p.2)=b:=⟨_,rfl⟩;rw[hb] at hP;rw[show Tr (FormedE nm L)=b by
      rw[<-hb]
      by_cases h4:NamedR nm L
      ·rw [zAm ((zCd hnorm hne L).1 h4),zAm ⟨⟨hnorm,hne,h2⟩,by rw[hR];exact h3,h4⟩]
      ·rw [zAp fun h=>h4 ((zCd hnorm hne L).2 h),zAp fun h=>h4 h.named]]
     obtain⟨m,hm⟩:∃m,R.length=m:=⟨_,rfl⟩;rw[hm] at hpos;have hz:(0:Int)<(m:Int):=by omega
     have Hm:=hide hm;have HN:=hide hN;have HF:=hide hF;have HV:=hide hV;have HP:=hide hP;clear hN hF hV hP hb1 hX hA hL hT hnm hvs h0 h00 h1 hnorm hne h2 h3 hR hb hm;generalize txt nm=SN at *;go_enter Tryz.func25,Tryz.ntmps25;go_wp2_with (go_at_call 58;fail);refine (HN.out _ HT1.out).mono ?_;rintro e w2 ⟨rfl,hb2⟩;have HX2:=hide (HX1.out.grow hb2);have HB2:=hTz HB1 hb2;have HT2:=hide (HT1.out.below hb2);have HA2:=hide ((HA1.out.below hb2).upto hb2.size);have HL2:=hide (HL1.out.grow hb2);have p2:=HX2.out.c0;have q2:=HX2.out.c1;clear hb2 HB1 HT1 HX1 HA1 HL1 p1 q1 HN;go_wp2_with (go_at_call 59;fail);refine (HF.out _ HA2.out HL2.out HT2.out).mono ?_;rintro e w3 ⟨rfl,hb3⟩;have HX3:=hide (HX2.out.grow hb3);have HB3:=hTz HB2 hb3;have HT3:=hide (HT2.out.below hb3);have HA3:=hide ((HA2.out.below hb3).upto hb3.size);have HL3:=hide (HL2.out.grow hb3);have p3:=HX3.out.c0;have q3:=HX3.out.c1;clear hb3 HB2 HT2 HX2 HA2 HL2 p2 q2 HF;go_wp2_with (go_at_call 60;fail);refine (HV.out _ HA3.out HL3.out HT3.out).mono ?_;rintro e w4 hpost;obtain⟨A4,c4,rfl,_,_,_,hb4⟩:=hpost.out;rw[Hm.out];clear hpost;have HX4:=hide (HX3.out.grow hb4);have HB4:=hTz HB3 hb4;have HT4:=hide (HT3.out.below hb4);have HA4:=hide ((HA3.out.below hb4).upto hb4.size);have HL4:=hide (HL3.out.grow hb4);have p4:=HX4.out.c0;have q4:=HX4.out.c1;clear hb4 HB3 HT3 HX3 HA3 HL3 p3 q3 HV;go_wp2_with (go_at_call 61;fail);refine (HP.out _ HA4.out HL4.out HT4.out).mono ?_;rintro e w5 ⟨rfl,hb5⟩;have HX5:=hide (HX4.out.grow hb5);have HB5:=hTz HB4 hb5;have HT5:=hide (HT4.out.below hb5);have HA5:=hide ((HA4.out.below hb5).upto hb5.size);have HL5:=hide (HL4.out.grow hb5);have p5:=HX5.out.c0;have q5:=HX5.out.c1;clear hb5 HB4 HT4 HX4 HA4 HL4 p4 q4 HP;go_wp2;go_ret;exact⟨rfl,HB5.out⟩
   ·rw [zAp h2] at hF;rw[zAp (show ¬FormedE nm L from fun h=>h2 h.loose.attrs)];have HN:=hide hN;have HF:=hide hF;clear hN hF hV hP hb1 hX hA hL hT hnm hvs h0 h00 h1 hnorm hne h2;generalize txt nm=SN at *;go_enter Tryz.func25,Tryz.ntmps25;go_wp2_with (go_at_call 58;fail);refine (HN.out _ HT1.out).mono ?_;rintro e w2 ⟨rfl,hb2⟩;have HX2:=hide (HX1.out.grow hb2);have HB2:=hTz HB1 hb2;have HT2:=hide (HT1.out.below hb2);have HA2:=hide ((HA1.out.below hb2).upto hb2.size);have HL2:=hide (HL1.out.grow hb2);have p2:=HX2.out.c0;have q2:=HX2.out.c1;clear hb2 HB1 HT1 HX1 HA1 HL1 p1 q1 HN;go_wp2_with (go_at_call 59;fail);refine (HF.out _ HA2.out HL2.out HT2.out).mono ?_;rintro e w3 ⟨rfl,hb3⟩;have HX3:=hide (HX2.out.grow hb3);have HB3:=hTz HB2 hb3;have HT3:=hide (HT2.out.below hb3);have HA3:=hide ((HA2.out.below hb3).upto hb3.size);have HL3:=hide (HL2.out.grow hb3);have p3:=HX3.out.c0;have q3:=HX3.out.c1;clear hb3 HB2 HT2 HX2 HA2 HL2 p2 q2 HF;go_wp2;go_ret;exact⟨rfl,HB3.out⟩
  ·rw [zAp (show ¬FormedE nm L from fun h=>h1 (by rw[h.loose.norm]))];have s1:=zBn h1;have HN:=hide hN;clear hN hF hV hP hb1 hX hA hL hT hnm hvs h0 h00 h1;generalize txt (normT nm).1=NN at *;generalize txt nm=SN at *;go_enter Tryz.func25,Tryz.ntmps25;go_wp2_with (go_at_call 58;fail);refine (HN.out _ HT1.out).mono ?_;rintro e w2 ⟨rfl,hb2⟩;have HX2:=hide (HX1.out.grow hb2);have HB2:=hTz HB1 hb2;have HT2:=hide (HT1.out.below hb2);have HA2:=hide ((HA1.out.below hb2).upto hb2.size);have HL2:=hide (HL1.out.grow hb2);have p2:=HX2.out.c0;have q2:=HX2.out.c1;clear hb2 HB1 HT1 HX1 HA1 HL1 p1 q1 HN;go_wp2;go_ret;exact⟨rfl,HB2.out⟩
 ·have h0:nnB nm=false:=by simpa using h0
  rw[h0] at hN;rw[zAp (show ¬FormedE nm L from fun h=>by
   unfold nnB at h0
   rw[h.loose.norm] at h0
   have:=h.loose.ne
   simp[this] at h0)]
  have HN:=hide hN;clear hN hF hV hP hb1 hX hA hL hT hnm hvs h0;generalize txt (normT nm).1=NN at *;generalize txt nm=SN at *;go_enter Tryz.func25,Tryz.ntmps25;go_wp2_with (go_at_call 58;fail);refine (HN.out _ HT1.out).mono ?_;rintro e w2 ⟨rfl,hb2⟩;have HX2:=hide (HX1.out.grow hb2);have HB2:=hTz HB1 hb2;have HT2:=hide (HT1.out.below hb2);have HA2:=hide ((HA1.out.below hb2).upto hb2.size);have HL2:=hide (HL1.out.grow hb2);have p2:=HX2.out.c0;have q2:=HX2.out.c1;clear hb2 HB1 HT1 HX1 HA1 HL1 p1 q1 HN;go_wp2;go_ret;exact⟨rfl,HB2.out⟩
structure Blk (w:World) (h:Nat) (us:List Value):Prop where
 lt:h<w.heap.size
 cells:∀(i:Nat) (u:Value),us[i]?=some u->w.cell? ⟨h,i,none⟩=some u
 fz:∀i,w.frozen? ⟨h,i,none⟩=false
section
variable {w w':World} {h:Nat} {us:List Value}
theorem Blk.new (w:World) (us:List Value) (e:TypeId):Blk (w.alloc (.cells us.toArray e)) w.heap.size us:=
 ⟨by simp,fun i u hu=>by
  have hi:=(List.getElem?_eq_some_iff.1 hu).1
  rw[World.cell?_alloc_at (hn:=by simp)]
  simp[hu],fun i=>World.frozen?_alloc_at _ _ _ _ rfl⟩
theorem Blk.below (t:Blk w h us) {B:Nat} (hB:h<B) (hb:Below B w w'):Blk w' h us:=
 ⟨Nat.lt_of_lt_of_le t.lt hb.size,fun i u hu=>(hb.cell (p:=⟨h,i,none⟩) hB).trans (t.cells i u hu),fun i=>(hb.frozen (p:=⟨h,i,none⟩) hB).trans (t.fz i)⟩
theorem Blk.grow (t:Blk w h us) (hb:Below w.heap.size w w'):Blk w' h us:=t.below t.lt hb
theorem Blk.set (t:Blk w h us) (i:Nat) (u:Value) (hi:i<us.length):Blk (w.setCell ⟨h,i,none⟩ u) h (us.set i u):=by
 refine⟨by simpa[World.setCell] using t.lt,fun j v hv=>?_,fun j=>by rw[World.frozen?_setCell];exact t.fz j⟩;rw[List.getElem?_set] at hv;split at hv
 ·rename_i hij;subst hij;(try rw[if_pos hi] at hv);cases hv;exact World.cell?_setCell_same _ _ _ (t.cells i us[i] (List.getElem?_eq_getElem hi))
 ·rename_i hij;rw[World.cell?_setCell_other _ _ _ _ (by simp;try omega)];exact t.cells j v hv
theorem Blk.there (t:Blk w h us) (o n:Nat) (hn:o+n<=us.length):w.there h o n:=fun j hj=>
 ⟨by rw[t.cells (o+j) us[o+j] (List.getElem?_eq_getElem (by omega))];rfl,t.fz _⟩
theorem Blk.range (t:Blk w h us):w.rangeAt h 0 us:=fun j u hu=>by rw[Nat.zero_add];exact t.cells j u hu
theorem setCells_size (h:Nat):∀(vs:List Value) (o:Nat) (w:World),(w.setCells h o vs).heap.size=w.heap.size
 | [],o,w=>rfl
 | v::r,o,w=>by rw[World.setCells,setCells_size h r];simp[World.setCell]
theorem zCq (h j:Nat):∀(vs:List Value) (o:Nat) (w:World),(j<o\/o+vs.length<=j)->(w.setCells h o vs).cell? ⟨h,j,none⟩=w.cell? ⟨h,j,none⟩
 | [],o,w,_=>rfl
 | v::r,o,w,hj=>by
  simp only[List.length_cons] at hj;rw[World.setCells,zCq h j r (o+1) _ (by omega),World.cell?_setCell_other _ _ _ _ (by simp;try omega)]
theorem Blk.sets (t:Blk w h us) (o:Nat) (cs:List Value) (ho:o+cs.length<=us.length) (vs:List Value) (hv:vs=us.take o++cs++us.drop (o+cs.length)):Blk (w.setCells h o cs) h vs:=by
 subst hv;refine⟨by rw[setCells_size];exact t.lt,fun j v hj=>?_,fun j=>by rw[World.frozen?_setCells];exact t.fz j⟩;have hs:∀j,j<cs.length->(w.cell? ⟨h,o+j,none⟩).isSome=true:=fun j hj=>(t.there o cs.length ho j hj).1
 rw[List.append_assoc] at hj;rcases Nat.lt_or_ge j o with h1 | h1
 ·rw [zCq h j cs o w (.inl h1)];rw[List.getElem?_append_left (by simp;omega),List.getElem?_take] at hj;rw[if_pos h1] at hj;exact t.cells j v hj
 ·rw [List.getElem?_append_right (by simp;omega)] at hj;rw[show j-(us.take o).length=j-o by simp;omega] at hj;rcases Nat.lt_or_ge (j-o) cs.length with h2 | h2
  ·rw [List.getElem?_append_left h2] at hj;have:=World.cell?_setCells_in h cs o w hs (j-o) h2;rw[show o+(j-o)=j by omega] at this;rw[this,<-hj,List.getElem?_eq_getElem h2]
  ·rw [List.getElem?_append_right h2,List.getElem?_drop] at hj;rw[zCq h j cs o w (.inr (by omega))];exact t.cells j v (by rw[<-hj];congr 1;omega)
end
section
variable {w w':World}
theorem zCe (w:World) (h i:Nat) (u:Value):w.grownBy (w.setCell ⟨h,i,none⟩ u) (some h):=⟨rfl,rfl,rfl,by simp[World.setCell],fun k hk hne=>by
 simp only[World.setCell,Array.getElem?_modify]
 rw[if_neg (fun e=>hne (by rw[<-e]))]⟩
theorem zB4 (h:Nat):∀(vs:List Value) (o:Nat) (w:World),w.grownBy (w.setCells h o vs) (some h)
 | [],o,w=>⟨rfl,rfl,rfl,Nat.le_refl _,fun _ _ _=>rfl⟩
 | v::r,o,w=>by
  have h1:=zCe w h o v;have h2:=zB4 h r (o+1) (w.setCell ⟨h,o,none⟩ v);rw[World.setCells];exact⟨h2.os.trans h1.os,h2.tape.trans h1.tape,h2.output.trans h1.output,Nat.le_trans h1.size h2.size,fun k hk hne=>(h2.block k (Nat.lt_of_lt_of_le hk h1.size) hne).trans (h1.block k hk hne)⟩
end
theorem storeB {ops:Array Oper} {rest:List Oper} {o:Oper} {a:Act} {Q:Exit->Act->World->Prop} (w:World) (hgd:o.guard=none) (ty:TypeId) (x y:Operand) (ho:o.op=.store ty x y)
  (h off:Nat) (us:List Value) (cs:List Value) (hx:a.eval x=.pointer (some ⟨h,off,none⟩)) (hy:a.eval y=.agg cs.toArray) (hB:Blk w h us) (hl:off+cs.length<=us.length) (hi:(Tryz.prog.info? ty).map (·.size)=some cs.length) (h1:∀u∈cs,u.oneCell'=true)
  (H:∀wz,wz=w.setCells h off cs->wpList Tryz.prog ops Q rest (a.put o.dst undef) wz):wpList Tryz.prog ops Q (o::rest) a w:=by
 refine wpList_store_mid hgd ty x y ho h off cs.toArray hx hy (by simpa using hB.there off cs.length hl) (by simpa using hi) (all_oneCell_toArray h1) ?_;exact H _ (by simp)
section
variable {P:Program}
theorem zOd {ops:Array Oper} {o:Oper} {a:Act} {K:Act->World->Prop} {Q:Exit->Act->World->Prop} {E:Prop} (W:World) (d:Option Tmp) (hd:o.dst=d) (hgd:o.guard=none) (ty:TypeId) (x y:Operand) (ho:o.op=.store ty x y)
  (b off:Nat) (cells:Array Value) (hx:a.eval x=.pointer (some ⟨b,off,none⟩)) (hy:a.eval y=.agg cells) (ht:W.there b off cells.size) (hi:(P.info? ty).map (·.size)=some cells.size) (h1:cells.all (·.oneCell')=true)
  (h:K (a.put d undef) (W.setCells b off cells.toList)):if Region.wanted o (yielded ops a.tmps)=true then Oper.wp P o a W K Q else E:=by
 subst hd;have hw:Region.wanted o (yielded ops a.tmps)=true:=by simp[Region.wanted,hgd]
 rw[if_pos hw];exact wp_store_mid ty x y ho b off cells hx hy ht hi h1 h
end
theorem zCk {fn:Func} {p:Tmp} {ty:TypeId} (h:fn.results=#[.cell p ty]) (tmps:Array Value) {P:Program} (w:World) (b:Nat) (cs:List Value) (d:TypeDesc)
  (hp:tmps.getD p undef=.pointer (some ⟨b,0,none⟩)) (hc:w.rangeAt b 0 cs) (hu:P.underlying ty=some d) (hd:d.isRow=true) (hi:(P.info? ty).map (·.size)=some cs.length):
  (results fn tmps).run P w=.ok (.agg cs.toArray) w:=by
 have hp':tmps[p]?.getD undef=.pointer (some ⟨b,0,none⟩):=by simpa using hp
 simp[results,h,hp',asAddr,run_loadVar_mid w b 0 ty cs d hc hu hd hi]
theorem zBp {fn:Func} {p u:Tmp} {ty:TypeId} (h:fn.results=#[.cell p ty,.tmp u]) (tmps:Array Value) {P:Program} (w:World) (b:Nat) (cs:List Value) (d:TypeDesc) (x:Value)
  (hp:tmps.getD p undef=.pointer (some ⟨b,0,none⟩)) (hx:tmps.getD u undef=x) (hc:w.rangeAt b 0 cs) (hu:P.underlying ty=some d) (hd:d.isRow=true) (hi:(P.info? ty).map (·.size)=some cs.length):
  (results fn tmps).run P w=.ok (.tuple #[.agg cs.toArray,x]) w:=by
 rw[results_cell_tmp h,hp,hx];simp[asAddr,run_loadVar_mid w b 0 ty cs d hc hu hd hi,Result.andThen]
theorem Blk.keep {w w':World} {h:Nat} {us:List Value} (t:Blk w h us) (hs:w.heap.size<=w'.heap.size) (hb:w'.heap[h]?=w.heap[h]?):Blk w' h us:=
 ⟨Nat.lt_of_lt_of_le t.lt hs,fun i u hu=>(World.cell?_of_block (a:=⟨h,i,none⟩) hb).trans (t.cells i u hu),fun i=>(World.frozen?_of_block (a:=⟨h,i,none⟩) hb).trans (t.fz i)⟩
theorem Blk.grown {w w':World} {h:Nat} {us:List Value} (t:Blk w h us) {row:Option Nat} (hg:w.grownBy w' row) (hne:row≠some h):Blk w' h us:=t.keep hg.size (hg.block h t.lt hne.symm)
theorem zNl:nameV [100,99,61,120]=(some [[([100,99],[120])]],0):=by
 have hc:cuts 44 [100,99,61,120]=[[100,99,61,120]]:=by decide
 have p2:parseP [100,99,61,120]=some [([100,99],[120])]:=by
  have h1:(cuts 43 [100,99,61,120]).length<=3:=by decide
  have h2:(cuts 43 [100,99,61,120]).mapM rdPairT=some [([100,99],[120])]:=by decide
  have h3:sortP [([100,99],[120])]=[([100,99],[120])]:=by decide
  rw[zBr h1 h2,h3,if_pos];refine⟨by decide,by decide,fun a ha=>?_,by decide⟩;obtain rfl:=List.mem_singleton.1 ha;exact⟨by decide,Or.inl (by decide),by rw[zD8 _ _ (by decide) (by decide) (by decide) (by decide)]⟩
 unfold nameV;rw[if_neg (by decide),if_neg (by decide),hc,if_neg (by decide),mapM_cons',p2];rfl
theorem zPp:partsV [100,99,61,120]=(some [[100,99,61,120]],0):=by
 have t2:ptx [([100,99],[120])]=[100,99,61,120]:=by unfold ptx normP;simp only[List.map_cons,List.map_nil];rw[zD8 _ _ (by decide) (by decide) (by decide) (by decide)];decide
 unfold partsV;rw[zNl];simp only[List.map_cons,List.map_nil,t2];rw[if_neg (by decide)]
def awE:List EA:=[([100,99],[[120]]),(clsT,[[111]])]
theorem zIh:valV [100,99] [120]=([120],0):=by
 unfold valV;rw[if_pos (by decide),zD8 _ _ (by decide) (by decide) (by decide) (by decide)];decide
theorem val_clso:valV clsT [111]=([111],0):=by
 unfold valV;rw[if_pos (by decide),zD8 _ _ (by decide) (by decide) (by decide) (by decide)];decide
end Go.Proofs.YtdkekamkmlpnhaaGreatDoor
