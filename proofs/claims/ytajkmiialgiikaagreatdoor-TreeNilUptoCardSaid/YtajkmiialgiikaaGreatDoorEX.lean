/- Several texts in one: Truth, EMath, EVals, EPVals, EPAttr, EHas, EPHas, EPPart, EPAttrs, EPForm, BlkG, VMath, EAwake, EMany. By an AI agent. -/
import Derived.Test.YtajkmiialgiikaaGreatDoorMI
import Derived.Deep.CutRange
import Derived.Test.YtajkmiialgiikaaGreatDoorShelf
import Derived.Test.YtajkmiialgiikaaGreatDoorGrow
import Derived.BigQuiet
import Derived.Deep.CutBlock
import Derived.Deep.MidRow
import Derived.Deep.DeepMust
set_option linter.unusedSimpArgs false
set_option linter.unusedVariables false
set_option maxRecDepth 100000
set_option maxHeartbeats 32000000
namespace Go.Proofs.YtajkmiialgiikaaGreatDoor
open Go.RowKit
noncomputable def Tr (p:Prop):Bool:=@decide p (Classical.propDecidable p)
theorem zGz {p:Prop} (h:p):Tr p=true:=@decide_eq_true p (Classical.propDecidable p) h
theorem zK4 {p:Prop} (h:¬p):Tr p=false:=@decide_eq_false p (Classical.propDecidable p) h
theorem Tr_iff {p:Prop}:Tr p=true↔p:=⟨fun h=>@of_decide_eq_true p (Classical.propDecidable p) h,zGz⟩
theorem toeq (l m:List UInt8):((txt l).toList==m)=(l==m):=by rw[zAc]
abbrev EA:=List UInt8 × List (List UInt8)
structure EAs (w:World) (B:Nat) (xs:List Value) (L:List EA):Prop where
 len:xs.length=L.length*2
 each:∀(i:Nat) (a:EA),L[i]?=some a->∃A c,xs[i*2]?=some (.string (txt a.1))/\xs[i*2+1]?=some (.slice A a.2.length c)/\a.2.length<=c/\c<=maxLen/\Has w B 1 A a.2.length (strs a.2)
theorem EAs.below {w w':World} {B:Nat} {xs:List Value} {L:List EA} (h:EAs w B xs L) (hb:Below B w w'):EAs w' B xs L:=
 ⟨h.len,fun i a ha=>by obtain⟨A,c,h1,h2,k1,k2,h3⟩:=h.each i a ha;exact⟨A,c,h1,h2,k1,k2,h3.below hb⟩⟩
theorem EAs.upto {w:World} {B B':Nat} {xs:List Value} {L:List EA} (h:EAs w B xs L) (hB:B<=B'):EAs w B' xs L:=
 ⟨h.len,fun i a ha=>by obtain⟨A,c,h1,h2,k1,k2,h3⟩:=h.each i a ha;exact⟨A,c,h1,h2,k1,k2,h3.upto hB⟩⟩
theorem EAs.grow {w w':World} {xs:List Value} {L:List EA} (h:EAs w w.heap.size xs L) (hb:Below w.heap.size w w'):EAs w' w'.heap.size xs L:=(h.below hb).upto hb.size
theorem EAs.nil {w:World} {B:Nat}:EAs w B [] []:=⟨rfl,fun i a ha=>by simp at ha⟩
structure EaAt (w:World) (B g o:Nat) (a:EA) (V:Option Addr) (c:Nat):Prop where
 e0:w.cell? ⟨g,o,none⟩=some (.string (txt a.1))
 e1:w.cell? ⟨g,o+1,none⟩=some (.slice V a.2.length c)
 cap:a.2.length<=c
 most:c<=maxLen
 has:Has w B 1 V a.2.length (strs a.2)
theorem EaAt.below {w w':World} {B g o:Nat} {a:EA} {V:Option Addr} {c:Nat} (h:EaAt w B g o a V c) (hg:g<B) (hb:Below B w w'):EaAt w' B g o a V c:=
 ⟨(hb.cell (p:=⟨g,o,none⟩) hg).trans h.e0,(hb.cell (p:=⟨g,o+1,none⟩) hg).trans h.e1,h.cap,h.most,h.has.below hb⟩
theorem Has.ea {w:World} {B n:Nat} {A:Option Addr} {xs:List Value} {L:List EA} (h:Has w B 2 A n xs) (hL:EAs w B xs L) (hn:L≠[]):
  ∃g o,A=some ⟨g,o,none⟩/\g<B/\∀(i:Nat) (a:EA),L[i]?=some a->∃V c,EaAt w B g (o+i*2) a V c:=by
 have hp:=List.length_pos_iff.2 hn;obtain⟨g,o,rfl,hg,hc⟩:=h.lies (by rw[hL.len];omega);refine⟨g,o,rfl,hg,fun i a ha=>?_⟩;obtain⟨V,c,h1,h2,k1,k2,h3⟩:=hL.each i a ha;exact⟨V,c,hc _ _ h1,by have:=hc _ _ h2;rwa [<-Nat.add_assoc] at this,k1,k2,h3⟩
theorem Has.eas_n {w:World} {B n:Nat} {A:Option Addr} {xs:List Value} {L:List EA} (h:Has w B 2 A n xs) (hL:EAs w B xs L):n=L.length:=by
 have h1:=h.1;have h2:=hL.len;omega
def pickE:List EA->List UInt8->List (List UInt8)
 | [],_=>[]
 | a::L,t=>if a.1=t then a.2 else pickE L t
noncomputable def valuesE (L:List EA) (name:List UInt8):List (List UInt8):=if (typ name).2=0 then [] else pickE L (typ name).1
theorem zHr (n:List UInt8):(typ n).2=0↔(typ n).1=[]:=by
 unfold typ;have key:∀(l:List UInt8) (t:List (List UInt8 × Int)),(∀e∈t,e.2≠0/\e.1≠[])->((typL l t).2=0↔(typL l t).1=[]):=by
  intro l t
  induction t with
  | nil=>intro _;simp[typL]
  | cons e r ih=>
   intro h;have he:=h e (by simp);unfold typL;split
   ·exact ⟨fun q=>absurd q he.1,fun q=>absurd q he.2⟩
   ·exact ih fun x hx=>h x (by simp[hx])
 exact key _ tab (by decide)
theorem zOc {n:List UInt8} (h:(typ n).1=n):n.length<=1000000:=by
 have key:∀(l:List UInt8) (t:List (List UInt8 × Int)),(∀e∈t,e.1.length<=100)->(typL l t).1.length<=100:=by
  intro l t
  induction t with
  | nil=>intro _;simp[typL]
  | cons e r ih=>
   intro h;unfold typL;split
   ·exact h e (by simp)
   ·exact ih fun x hx=>h x (by simp[hx])
 have h2:(typ n).1.length<=100:=key _ tab (by decide);rw[h] at h2;omega
theorem zO5 {L:List EA} {i:Nat} {a:EA} (h:L[i]?=some a) (t:List UInt8):pickE (L.drop i) t=if a.1=t then a.2 else pickE (L.drop (i+1)) t:=by
 obtain⟨h1,h2⟩:=List.getElem?_eq_some_iff.1 h;rw[List.drop_eq_getElem_cons h1,h2];rfl
theorem zHf:∀(L:List EA) (t:List UInt8),pickE L t=[]\/∃a∈L,pickE L t=a.2
 | [],_=>Or.inl rfl
 | a::L,t=>by
  unfold pickE;split
  ·exact Or.inr ⟨a,by simp,rfl⟩
  ·rcases zHf L t with h | ⟨b,hb,h⟩
   ·exact Or.inl h
   ·exact Or.inr ⟨b,by simp[hb],h⟩
def AlikeV (name u v:List UInt8):Prop:=(valV name v).2=0/\(valV name u).2=0/\(valV name u).1=(valV name v).1
def WithinV (name:List UInt8) (L:List (List UInt8)) (v:List UInt8):Prop:=∃u∈L,AlikeV name u v
def HasE (L:List EA) (name v:List UInt8):Prop:=WithinV name (valuesE L name) v
def AloneV (name:List UInt8) (L:List (List UInt8)):Prop:=∀(i:Nat) (v:List UInt8),L[i]?=some v->¬WithinV name (L.take i) v
structure FormedA (a:EA):Prop where
 ne:a.1≠[]
 name:(typ a.1).1=a.1
 lo:1<=a.2.length
 hi:a.2.length<=20
 ok:∀v∈a.2,(valV a.1 v).2=0
 alone:AloneV a.1 a.2
structure FormedL (L:List EA):Prop where
 le:L.length<=14
 rise:∀(i:Nat) (a b:EA),L[i]?=some a->L[i+1]?=some b->a.1<b.1
 each:∀a∈L,FormedA a
def NamedR (nm:List UInt8) (L:List EA):Prop:=∃p r,nameV nm=(some (p::r),0)/\∀q∈p,HasE L q.1 q.2
def clsT:List UInt8:=[111,98,106,101,99,116,67,108,97,115,115]
structure LooseE (name:List UInt8) (L:List EA):Prop where
 norm:normT name=(name,0)
 ne:name≠[]
 attrs:FormedL L
structure FormedE (name:List UInt8) (L:List EA):Prop where
 loose:LooseE name L
 cls:valuesE L clsT≠[]
 named:NamedR name L
structure ValsPost (R:List (List UInt8)) (w:World) (e:Ending) (w':World):Prop where
 out:∃v,e=.returned v/\w'.ownsRow w.heap.size 9 1 v R.length (strs R)/\Below w.heap.size w w'
structure BoxE (w:World) (q:Nat) (nm:ByteArray) (A:Option Addr) (n c:Nat):Prop where
 lt:q<w.heap.size
 c0:w.cell? ⟨q,0,none⟩=some (.string nm)
 c1:w.cell? ⟨q,1,none⟩=some (.slice A n c)
theorem BoxE.new (w:World) (nm:ByteArray) (A:Option Addr) (n c:Nat) (t:TypeId):BoxE (w.alloc (.cells #[.string nm,.slice A n c] t)) w.heap.size nm A n c:=by
 refine⟨by simp,?_,?_⟩<;>(rw[World.cell?_alloc_at (hn:=by simp)];rfl)
theorem BoxE.below {w w':World} {q E:Nat} {nm:ByteArray} {A:Option Addr} {n c:Nat} (h:BoxE w q nm A n c) (hE:q<E) (hb:Below E w w'):BoxE w' q nm A n c:=
 ⟨Nat.lt_of_lt_of_le h.lt hb.size,(hb.cell (p:=⟨q,0,none⟩) hE).trans h.c0,(hb.cell (p:=⟨q,1,none⟩) hE).trans h.c1⟩
theorem BoxE.grow {w w':World} {q:Nat} {nm:ByteArray} {A:Option Addr} {n c:Nat} (h:BoxE w q nm A n c) (hb:Below w.heap.size w w'):BoxE w' q nm A n c:=h.below h.lt hb
theorem zFp (nm:List UInt8) (L:List EA) (name:List UInt8) (w:World) (A:Option Addr) (n c:Nat) (xs:List Value) (hA:Has w w.heap.size 2 A n xs) (hL:EAs w w.heap.size xs L) (hn:n<=1000000)
  (hname:name.length<=281474976710656) (hv:∀a∈L,a.2.length<=1000000):
  Calls Tryz.prog 66 #[.agg #[.string (txt nm),.slice A n c],.string (txt name)] w (ValsPost (valuesE L name) w):=by
 suffices H:Calls Tryz.prog 66 #[.agg #[.string (txt nm),.slice A n c],.string (txt name)] w fun e w'=>∃v,e=.returned v/\w'.ownsRow w.heap.size 9 1 v (valuesE L name).length (strs (valuesE L name))/\Below w.heap.size w w' from H.mono fun e w' h=>⟨h⟩
 have hnl:=hA.eas_n hL;have hTy:=fun w=>zBz (txt name) (by rw[zAg];exact hname) w
 simp only[zAi] at hTy;have hb1:=below1 w (.cells #[.string (txt nm),.slice A n c] 38);have hX:=BoxE.new w (txt nm) A n c 38;by_cases h0:(typ name).1=[]
 ·have hR:valuesE L name=[]:=by unfold valuesE;rw[if_pos ((zHr name).2 h0)]
  rw[hR];rw[h0] at hTy;have q0:((txt []).toList==[])=true:=by rw[toeq];rfl
  have HTy:=hide hTy;have HB:=hide hb1;generalize (typ name).2=ty at *;generalize txt name=S at *;generalize txt nm=SN at *;generalize txt []=E0 at *;clear hTy hb1 hX hA hL hname hv h0 hR hnl;go_enter Tryz.func66,Tryz.ntmps66;go_wp2_with (go_at_call 118;fail);refine (HTy.out _).mono ?_;rintro e w2 ⟨rfl,hb2⟩;have HB2:=hTz HB hb2;clear hb2 HB HTy;go_wp2;go_ret;exact⟨_,rfl,nil_own _ _ _ _,HB2.out⟩
 ·have q0:((txt (typ name).1).toList==[])=false:=by rw[toeq];simpa using h0
  obtain⟨t,ht⟩:∃t,(typ name).1=t:=⟨_,rfl⟩;obtain⟨R,hR⟩:∃R,valuesE L name=R:=⟨_,rfl⟩;have hR0:pickE L t=R:=by rw[<-hR,<-ht];unfold valuesE;rw[if_neg fun h=>h0 ((zHr name).1 h)]
  rw[hR];rw[ht] at hTy q0;have HTy:=hide hTy;have HB:=hide hb1;have HX:=hide hX;have HR:=hide hR0;have HA1:=hide ((hA.below hb1).upto hb1.size);have HL1:=hide (hL.grow hb1);have HV:=hide hv;have HN:=hide hnl;have x1:=hX.c1;generalize (typ name).2=ty at *;generalize txt name=S at *;generalize txt nm=SN at *;clear hTy hb1 hX hA hL hname hv h0 hR hR0 ht hnl;obtain⟨T,hT⟩:∃T,txt t=T:=⟨_,rfl⟩;have HT:=hide hT;rw[hT] at HTy q0;clear hT;go_enter Tryz.func66,Tryz.ntmps66;go_wp2_with (go_at_call 118;fail);refine (HTy.out _).mono ?_;rintro e w2 ⟨rfl,hb2⟩;have HB2:=hTz HB hb2;have HX2:=hide (HX.out.grow hb2);have HA2:=hide ((HA1.out.below hb2).upto hb2.size);have HL2:=hide (HL1.out.grow hb2);have d1:=HX2.out.c1;clear hb2 HB HTy HX HA1 HL1 x1;go_wp2
  go_loopg [18] n (fun r s18 wx=>∃i:Nat,i+r=n/\s18=.int .i64 (i:Int)/\Hid (pickE (L.drop i) t=R)/\Below w2.heap.size w2 wx)
  case atStart=>exact⟨0,by omega,rfl,hide (by rw[List.drop_zero];exact HR.out),Below.refl _ _⟩
  case round=>
   obtain⟨i,hig,rfl,hpre,hbr⟩:=hrel;have y1:=(HX2.out.below HX2.out.lt hbr).c1;cases gk with
   | zero=>
    obtain rfl:n=i:=by omega
    have hiz:¬((n:Int)<(n:Int)):=(by omega);have hp:=hpre.out;rw[List.drop_eq_nil_of_le (by rw[HN.out];exact Nat.le_refl _)] at hp;have hR1:Hid (R=[]):=hide hp.symm;have HE:=hTz HB2 hbr;clear hp hpre HX2 HA2 HL2 HV HN HR hbr d1;go_wp2;go_ret;exact⟨_,rfl,by rw[hR1.out];exact nil_own _ _ _ _,HE.out⟩
   | succ r=>
    have hi:i<n:=(by omega);have hiz:(i:Int)<(n:Int):=(by omega);obtain⟨a,ha⟩:∃a,L[i]?=some a:=⟨_,List.getElem?_eq_getElem (by rw[<-HN.out];exact hi)⟩;obtain⟨g,o,hAe,hg,hat⟩:=HA2.out.ea HL2.out (fun h=>by rw[h] at ha;simp at ha);subst hAe;obtain⟨V,cv,hat⟩:=hat i a ha;have hat:=hat.below hg hbr;have e0:=hat.e0;have e1:=hat.e1;have hpd:=zO5 ha t;rw[hpre.out] at hpd;by_cases hat1:a.1=t
    ·rw [if_pos hat1] at hpd;have q1:((txt a.1).toList==T.toList)=true:=by rw[hat1,HT.out];simp
     obtain⟨k,hk⟩:∃k,a.2.length=k:=⟨_,rfl⟩;rw[hk] at e1;have hk1:k<=1000000:=by rw[<-hk];exact HV.out a (List.mem_of_getElem? ha)
     have hown:=zD0 wr #[] 9 0 (by unfold maxLen;omega) rfl;have hba:=below1 wr (.cells #[] 9);have y2:=(hba.cell (p:=⟨w.heap.size,1,none⟩) (Nat.lt_of_lt_of_le HX2.out.lt hbr.size)).trans y1;have e2:=(hba.cell (p:=⟨g,o+i*2+1,none⟩) (Nat.lt_of_lt_of_le hg hbr.size)).trans e1;have hV:=hat.has;rw[hk] at hV;have hV1:=(hV.upto hbr.size).below hba;have h1s:=strs_one a.2;have HE:=hide (HB2.out.trans ((hbr.trans (hba.mono hbr.size)).mono HB2.out.size));have hs8:=hba.size;have Hpd:=hide hpd;have Hk:=hide hk;have hle:Hid (w.heap.size<=wr.heap.size):=hide (Nat.le_trans HB2.out.size hbr.size);generalize txt a.1=TA at *;clear hba hV hat hpd hk hpre HA2 HL2 HV HN HR HX2 HB2 hbr ha d1;go_wp2_with (at_builtin;go_must (refine appE _ 43 9 _ 1 16 Tryz.underlying43 infoS rfl (by omega) (by omega) rfl (.tmp 29) (.tmp 35) rfl wr.heap.size _ 0 [] rfl hown _ _ k _ (strs a.2) rfl hV1 h1s (by omega) hs8 ?_));intro v' w6 hor6 hb6 _;have Ho:Hid (w6.ownsRow w.heap.size 9 1 v' R.length (strs R)):=hide (by
      rw[Hpd.out,Hk.out]
      refine zB7 (base:=wr.heap.size) ?_ hle.out
      simpa using hor6)
     have HE2:=hide (HE.out.trans (hb6.mono hle.out));clear hor6 hb6 hown hV1 h1s hs8 HE e0 e1 y1;go_wp2;go_ret;exact⟨_,rfl,Ho.out,HE2.out⟩
    ·rw [if_neg hat1] at hpd;have q1:((txt a.1).toList==T.toList)=false:=by rw[<-HT.out];exact zC5 hat1
     have Hpd:=hide hpd.symm;generalize txt a.1=TA at *;clear hat hpd hpre hat1 ha;go_wp2
     go_roundg r
     case measure=>omega
     case rel=>exact⟨i+1,by omega,by go_num,Hpd,hbr⟩
theorem zFv (name v:List UInt8) (L:List (List UInt8)) (w:World) (A:Option Addr) (n c:Nat) (hA:Has w w.heap.size 1 A n (strs L)) (hn:n<=1000000) (hname:name.length<=1000000) (hv:v.length<=1000000) (hL:∀u∈L,u.length<=1000000) (hT:TM w):
  Calls Tryz.prog 123 #[.string (txt name),.slice A n c,.string (txt v)] w fun e w'=>e=.returned (.bool (Tr (WithinV name L v)))/\Below w.heap.size w w':=by
 have hnl:=hA.strs_n;have hV:=fun w hT=>zD3 name v hname hv w hT
 have hU:=fun u (hu:u∈L) w hT=>zD3 name u hname (hL u hu) w hT
 by_cases h0:(valV name v).2=0
 ·obtain ⟨R,hR⟩:∃R,Tr (WithinV name L v)=R:=⟨_,rfl⟩;rw[hR];rw[h0] at hV;obtain⟨m,hm⟩:∃m,(valV name v).1=m:=⟨_,rfl⟩;rw[hm] at hV;have HR:Hid ((∃u∈L,(valV name u).2=0/\(valV name u).1=m)↔R=true):=hide (by
   rw[<-hR,Tr_iff,<-hm]
   constructor
   ·rintro ⟨u,hu,h1,h2⟩
    exact⟨u,hu,h0,h1,h2⟩
   ·rintro ⟨u,hu,_,h1,h2⟩
    exact⟨u,hu,h1,h2⟩)
  have HV:=hide hV;have HU:=hide hU;have HA:=hide hA;have HN:=hide hnl;clear hR hm h0 hV hU hA hnl hname hv hL;generalize txt name=SN at *;generalize txt v=SV at *;obtain⟨M,hM⟩:∃M,txt m=M:=⟨_,rfl⟩;have HM:=hide hM;rw[hM] at HV;clear hM;go_enter Tryz.func123,Tryz.ntmps123;go_wp2_with (go_at_call 71;fail);refine (HV.out _ hT).mono ?_;rintro e w2 ⟨rfl,hb2⟩;have HB2:=hide hb2;have HT2:=hide (hT.below hb2);have HA2:=hide ((HA.out.below hb2).upto hb2.size);clear hb2 HA hT HV;go_wp2
  go_loopg [22] n (fun r s22 wx=>∃i:Nat,i+r=n/\s22=.int .i64 (i:Int)/\Hid (∀u∈L.take i,¬((valV name u).2=0/\(valV name u).1=m))/\Below w2.heap.size w2 wx)
  case atStart=>exact⟨0,by omega,rfl,hide fun u hu=>(by simp at hu),Below.refl _ _⟩
  case round=>
   obtain⟨i,hig,rfl,hpre,hbr⟩:=hrel;cases gk with
   | zero=>
    obtain rfl:n=i:=by omega
    have hiz:¬((n:Int)<(n:Int)):=by omega
    have hR1:Hid (R=false):=hide (by
     cases hR:R with
     | false=>rfl
     | true=>
      obtain⟨u,hu,h1⟩:=HR.out.2 hR
      have:=hpre.out
      rw[List.take_of_length_le (by rw[HN.out];exact Nat.le_refl _)] at this
      exact absurd h1 (this u hu))
    have HE:=hTz HB2 hbr;clear hpre HA2 HU HN HR hbr HT2;go_wp2;go_ret;exact⟨by rw[hR1.out];rfl,HE.out⟩
   | succ r=>
    have hi:i<n:=(by omega);have hiz:(i:Int)<(n:Int):=(by omega);obtain⟨u,hu⟩:∃u,L[i]?=some u:=⟨_,List.getElem?_eq_getElem (by rw[<-HN.out];exact hi)⟩;obtain⟨g,o,hAe,hg,hat⟩:=HA2.out.texts (fun h=>by rw[h] at hu;simp at hu);subst hAe;have e0:=(hbr.cell (p:=⟨g,o+i,none⟩) hg).trans (hat i u hu);have hcall:=HU.out u (List.mem_of_getElem? hu);have htk:L.take (i+1)=L.take i++[u]:=by rw[List.take_add_one,hu];rfl
    obtain⟨y,hy⟩:∃y,(valV name u).2=y:=⟨_,rfl⟩;obtain⟨z,hz⟩:∃z,(valV name u).1=z:=⟨_,rfl⟩;by_cases hok:y=0/\z=m
    ·have hR1:Hid (R=true):=hide (HR.out.1 ⟨u,List.mem_of_getElem? hu,by rw[hy];exact hok.1,by rw[hz];exact hok.2⟩);rw[hy,hz] at hcall;obtain⟨rfl,rfl⟩:=hok;have q1:((txt z).toList==M.toList)=true:=by rw[HM.out];simp
     generalize txt u=SU at *;generalize txt z=SZ at *;clear hat hu htk hy hz hpre HR HN HA2 HU;go_wp2_with (go_at_call 71;fail);refine (hcall _ (HT2.out.below hbr)).mono ?_;rintro e w3 ⟨rfl,hb3⟩;have HE:=hide (HB2.out.trans ((hbr.trans (hb3.mono hbr.size)).mono HB2.out.size));clear hcall hb3 hbr e0 HT2 HB2;go_wp2;go_ret;exact⟨by rw[hR1.out];rfl,HE.out⟩
    ·have hnext:Hid (∀x∈L.take (i+1),¬((valV name x).2=0/\(valV name x).1=m)):=hide (by
      rw[htk]
      intro x hx
      rcases List.mem_append.1 hx with h | h
      ·exact hpre.out x h
      ·obtain rfl:=List.mem_singleton.1 h
       rw[hy,hz]
       exact hok)
     rw[hy,hz] at hcall;by_cases hy0:y=0
     ·subst hy0;have hzm:z≠m:=fun e=>hok ⟨rfl,e⟩
      have q1:((txt z).toList==M.toList)=false:=(by rw[<-HM.out];exact zC5 hzm);generalize txt u=SU at *;generalize txt z=SZ at *;clear hat hu htk hy hz hpre hok hzm;go_wp2_with (go_at_call 71;fail);refine (hcall _ (HT2.out.below hbr)).mono ?_;rintro e w3 ⟨rfl,hb3⟩;have hbn:=hbr.trans (hb3.mono hbr.size);clear hcall hb3 hbr e0;go_wp2
      go_roundg r
      case measure=>omega
      case rel=>exact⟨i+1,by omega,by go_num,hnext,hbn⟩
     ·have q1:(y==0)=false:=beq_false_of_ne hy0;generalize txt u=SU at *;generalize txt z=SZ at *;clear hat hu htk hy hz hpre hok hy0;go_wp2_with (go_at_call 71;fail);refine (hcall _ (HT2.out.below hbr)).mono ?_;rintro e w3 ⟨rfl,hb3⟩;have hbn:=hbr.trans (hb3.mono hbr.size);clear hcall hb3 hbr e0;go_wp2
      go_roundg r
      case measure=>omega
      case rel=>exact⟨i+1,by omega,by go_num,hnext,hbn⟩
 ·have hF:¬WithinV name L v:=fun ⟨u,_,h,_⟩=>h0 h
  rw[zK4 hF];have q0:((valV name v).2==0)=false:=beq_false_of_ne h0;have q1:((valV name v).2 !=0)=true:=by unfold bne;rw[q0];rfl
  have HV:=hide hV;generalize (valV name v).2=y at *;generalize txt (valV name v).1=M at *;generalize txt name=SN at *;generalize txt v=SV at *;clear h0 hV hU hA hnl hF;go_enter Tryz.func123,Tryz.ntmps123;go_wp2_with (go_at_call 71;fail);refine (HV.out _ hT).mono ?_;rintro e w2 ⟨rfl,hb2⟩;have HE:=hide hb2;clear hb2 HV;go_wp2;go_ret;exact⟨rfl,HE.out⟩
theorem rhas_any (nm:List UInt8) (L:List EA) (name v:List UInt8) (w:World) (A:Option Addr) (n c:Nat) (xs:List Value) (hA:Has w w.heap.size 2 A n xs) (hL:EAs w w.heap.size xs L) (hn:n<=1000000)
  (hname:name.length<=1000000) (hv:v.length<=1000000) (hvs:∀a∈L,a.2.length<=1000000/\∀u∈a.2,u.length<=1000000) (hT:TM w):
  Calls Tryz.prog 70 #[.agg #[.string (txt nm),.slice A n c],.string (txt name),.string (txt v)] w fun e w'=>e=.returned (.bool (Tr (HasE L name v)))/\Below w.heap.size w w':=by
 have hb1:=below1 w (.cells #[.string (txt nm),.slice A n c] 38);have hX:=BoxE.new w (txt nm) A n c 38;have HV:=hide (fun w hA hL=>zFp nm L name w A n c xs hA hL hn (by omega) (fun a ha=>(hvs a ha).1));have hR:(valuesE L name).length<=1000000/\∀u∈valuesE L name,u.length<=1000000:=by
  unfold valuesE;split
  ·simp
  ·rcases zHf L (typ name).1 with h | ⟨a,ha,h⟩
   ·rw [h];simp
   ·rw [h];exact hvs a ha
 have HW:=hide (fun w A n c hA hn hT=>zFv name v (valuesE L name) w A n c hA hn hname hv hR.2 hT);unfold HasE;obtain⟨b,hb⟩:∃b,Tr (WithinV name (valuesE L name) v)=b:=⟨_,rfl⟩;rw[hb] at HW ⊢;have HA:=hide ((hA.below hb1).upto hb1.size);have HL:=hide (hL.grow hb1);have HT:=hide (hT.below hb1);have HB:=hide hb1;have HR:=hide hR.1;have x0:=hX.c0;have x1:=hX.c1;clear hb1 hX hR hA hL hT hb hvs hv hname hn;generalize valuesE L name=R at *;generalize txt nm=SN at *;generalize txt name=S at *;generalize txt v=U at *;go_enter Tryz.func70,Tryz.ntmps70;go_wp2_with (go_at_call 66;fail);refine (HV.out _ HA.out HL.out).mono ?_;rintro e w2 hpost;obtain⟨vv,rfl,hown,hb2⟩:=hpost.out;obtain⟨A2,c2,rfl,hc2,hh2⟩:=zAh hown;have HB2:=hTz HB hb2;have HT2:=hide (HT.out.below hb2);have HH:=hide hh2;clear hpost hown hb2 hh2 HB HT HA HL HV x0 x1;go_wp2_with (go_at_call 123;fail);refine (HW.out _ _ _ _ HH.out HR.out HT2.out).mono ?_;rintro e w3 ⟨rfl,hb3⟩;have HB3:=hTz HB2 hb3;clear hb3 HB2 HT2 HH HW;go_wp2;go_ret;exact⟨rfl,HB3.out⟩
noncomputable def nnB (l:List UInt8):Bool:=((normT l).2==0)&& !((normT l).1==[])
theorem zQg (l:List UInt8) (hl:l.length<=1000000) (w:World) (hT:TM w):
  Calls Tryz.prog 58 #[.string (txt l)] w fun e w'=>e=.returned (.tuple #[.string (txt (normT l).1),.bool (nnB l)])/\Below w.heap.size w w':=by
 have hN:=zCo l hl w hT;unfold nnB;have q1:((txt (normT l).1).toList==[])=((normT l).1==[]):=toeq _ _;obtain⟨b0,hb0⟩:∃b,((normT l).2==0)=b:=⟨_,rfl⟩;obtain⟨b1,hb1⟩:∃b,((normT l).1==[])=b:=⟨_,rfl⟩;rw[hb1] at q1;have q1':((txt (normT l).1).toList !=[])= !b1:=by unfold bne;rw[q1]
 rw[hb0,hb1];have HN:=hide hN;clear hN hb1 hT hl;generalize (normT l).2=y at *;generalize txt (normT l).1=N at *;generalize txt l=S at *;cases b0
 all_goals cases b1
 all_goals
  go_enter Tryz.func58,Tryz.ntmps58;go_wp2_with (go_at_call 42;fail);refine HN.out.mono ?_;rintro e w2 ⟨rfl,hb2⟩;have HB:=hide hb2;clear hb2 HN;go_wp2;go_ret2;exact⟨rfl,HB.out⟩
noncomputable def pairsE (nm:List UInt8):List P2:=match (nameV nm).1 with
 | some (p::_)=>p
 | _=>[]
theorem zEy {nm:List UInt8} (h:normT nm=(nm,0)) (hne:nm≠[]) (L:List EA):NamedR nm L↔∀p∈pairsE nm,HasE L p.1 p.2:=by
 cases hV:nameV nm with
 | mk o e=>
  cases o with
  | none=>
   have he:=zDt hV;have:partsV nm=(none,e):=by unfold partsV;rw[hV]
   rw[norm_no' this] at h;have:=congrArg Prod.snd h;simp only at this;omega
  | some P=>
   obtain⟨rfl,hok⟩:=zDe hV;cases P with
   | nil=>
    have:partsV nm=(some [],0):=by unfold partsV;rw[hV];simp[joinC]
    rw[norm_yes' this] at h;have:=congrArg Prod.fst h;exact absurd this.symm hne
   | cons p r=>
    unfold NamedR pairsE;rw[hV];simp only;constructor
    ·rintro ⟨p',r',he,h2⟩;injection he with he _
     injection he with he
     injection he with he _
     subst he;exact h2
    ·intro h2;exact⟨p,r,rfl,h2⟩
structure PairsPost (R:List P2) (w:World) (e:Ending) (w':World):Prop where
 out:∃A c,e=.returned (.slice A R.length c)/\Has w' w'.heap.size 2 A R.length (prs R)/\Below w.heap.size w w'
structure PairsPostL (R:List P2) (w:World) (e:Ending) (w':World):Prop where
 out:∃A c,e=.returned (.slice A R.length c)/\Has w' w'.heap.size 2 A R.length (prs R)/\Below w.heap.size w w'/\(R=[]\/∀ad,A=some ad->w.heap.size<=ad.block)
theorem zN5 (l:List UInt8) (hl:l.length<=1000000) (w:World) (hT:TM w):
  Calls Tryz.prog 105 #[.string (txt l)] w (PairsPostL (pairsE l) w):=by
 suffices H:Calls Tryz.prog 105 #[.string (txt l)] w fun e w'=>∃A c,e=.returned (.slice A (pairsE l).length c)/\Has w' w'.heap.size 2 A (pairsE l).length (prs (pairsE l))/\Below w.heap.size w w'/\(pairsE l=[]\/∀ad,A=some ad->w.heap.size<=ad.block) from H.mono fun e w' h=>⟨h⟩
 have hP:=zIn l hl w hT;have HP:=hide hP;unfold pairsE;cases hV:nameV l with
 | mk o er=>
  rw[hV] at HP;have HP':Hid (Calls Tryz.prog 125 #[.string (txt l)] w (NamePostL (o,er) w)):=HP;clear hP hV HP hT hl;generalize txt l=S at *;simp only;cases o with
  | none=>
   simp only;go_enter Tryz.func105,Tryz.ntmps105;go_wp2_with (go_at_call 125;fail);refine HP'.out.mono ?_;rintro e w2 hpost;obtain⟨A,c,vs,rfl,_,_,hb2,_⟩:=hpost.out;simp only[Option.getD_none,List.length_nil];have hba:=below1 w2 (.cells #[.slice A 0 c] 155);have y0:(w2.alloc (.cells #[.slice A 0 c] 155)).cell? ⟨w2.heap.size,0,none⟩=some (.slice A 0 c):=by rw[World.cell?_alloc_at (hn:=by simp)];rfl
   have HB:=hide (hb2.trans (hba.mono hb2.size));clear hpost hb2 hba HP';go_wp2;go_ret;exact⟨none,⟨0,rfl⟩,⟨rfl,.inl rfl⟩,HB.out⟩
  | some P=>
   cases P with
   | nil=>
    simp only;go_enter Tryz.func105,Tryz.ntmps105;go_wp2_with (go_at_call 125;fail);refine HP'.out.mono ?_;rintro e w2 hpost;obtain⟨A,c,vs,rfl,_,_,hb2,_⟩:=hpost.out;simp only[Option.getD_some,List.length_nil];have hba:=below1 w2 (.cells #[.slice A 0 c] 155);have y0:(w2.alloc (.cells #[.slice A 0 c] 155)).cell? ⟨w2.heap.size,0,none⟩=some (.slice A 0 c):=by rw[World.cell?_alloc_at (hn:=by simp)];rfl
    have HB:=hide (hb2.trans (hba.mono hb2.size));clear hpost hb2 hba HP';go_wp2;go_ret;exact⟨none,⟨0,rfl⟩,⟨rfl,.inl rfl⟩,HB.out⟩
   | cons p r=>
    simp only;obtain⟨m,hm⟩:∃m,(p::r).length=m:=⟨_,rfl⟩;have hm0:((m:Int)==0)=false:=beq_false_of_ne (by rw[<-hm,List.length_cons];omega);have hmz:(0:Int)<(m:Int):=by rw[<-hm,List.length_cons];omega
    have Hm:=hide hm;obtain⟨k,hk⟩:∃k,p.length=k:=⟨_,rfl⟩;have Hk:=hide hk;clear hm hk;go_enter Tryz.func105,Tryz.ntmps105;go_wp2_with (go_at_call 125;fail);refine HP'.out.mono ?_;rintro e w2 hpost;obtain⟨A,c,vs,rfl,hvs,hrw,hb2,hlow⟩:=hpost.out;simp only[Option.getD_some] at hvs hrw ⊢;rw[Hm.out] at hvs ⊢;obtain⟨g,o,rfl,hg,hcell⟩:=hvs.lies (by have:=hvs.1;have:=Hm.out;simp at this;omega);obtain⟨Aq,cq,hv0,hHp⟩:=hrw.each 0 p rfl;have y00:=hcell 0 _ hv0;rw[Nat.add_zero,Hk.out] at y00;rw[Hk.out] at hHp;have hba:=below1 w2 (.cells #[.slice (some ⟨g,o,none⟩) m c] 155);have y0:(w2.alloc (.cells #[.slice (some ⟨g,o,none⟩) m c] 155)).cell? ⟨w2.heap.size,0,none⟩=some (.slice (some ⟨g,o,none⟩) m c):=by rw[World.cell?_alloc_at (hn:=by simp)];rfl
    have y1:=(hba.cell (p:=⟨g,o,none⟩) hg).trans y00;have HB:=hide (hb2.trans (hba.mono hb2.size));have HHp:=hide ((hHp.below hba).upto hba.size);have HLow:=hide (hlow 0 p Aq cq rfl hv0);clear hpost hb2 hba HP' hvs hrw hcell hv0 hHp y00 hg hlow;go_wp2;go_ret;exact⟨Aq,cq,by rw[Hk.out];rfl,by rw[Hk.out];exact HHp.out,HB.out,HLow.out⟩
theorem zQ0 (l:List UInt8) (hl:l.length<=1000000) (w:World) (hT:TM w):
  Calls Tryz.prog 105 #[.string (txt l)] w (PairsPost (pairsE l) w):=(zN5 l hl w hT).mono fun e w' h=>by
 obtain⟨A,c,h1,h2,h3,_⟩:=h.out;exact⟨A,c,h1,h2,h3⟩
structure Blk (w:World) (h:Nat) (us:List Value):Prop where
 lt:h<w.heap.size
 cells:∀(i:Nat) (u:Value),us[i]?=some u->w.cell? ⟨h,i,none⟩=some u
 fz:∀i,w.frozen? ⟨h,i,none⟩=false
section
variable {w w':World} {h:Nat} {us:List Value}
theorem Blk.new (w:World) (us:List Value) (e:TypeId):Blk (w.alloc (.cells us.toArray e)) w.heap.size us:=
 ⟨by simp,fun i u hu=>by
  have hi:=(List.getElem?_eq_some_iff.1 hu).1
  rw[World.cell?_alloc_at (hn:=by simp)]
  simp[hu],fun i=>World.frozen?_alloc_at _ _ _ _ rfl⟩
theorem Blk.below (t:Blk w h us) {B:Nat} (hB:h<B) (hb:Below B w w'):Blk w' h us:=
 ⟨Nat.lt_of_lt_of_le t.lt hb.size,fun i u hu=>(hb.cell (p:=⟨h,i,none⟩) hB).trans (t.cells i u hu),fun i=>(hb.frozen (p:=⟨h,i,none⟩) hB).trans (t.fz i)⟩
theorem Blk.grow (t:Blk w h us) (hb:Below w.heap.size w w'):Blk w' h us:=t.below t.lt hb
theorem Blk.set (t:Blk w h us) (i:Nat) (u:Value) (hi:i<us.length):Blk (w.setCell ⟨h,i,none⟩ u) h (us.set i u):=by
 refine⟨by simpa[World.setCell] using t.lt,fun j v hv=>?_,fun j=>by rw[World.frozen?_setCell];exact t.fz j⟩;rw[List.getElem?_set] at hv;split at hv
 ·rename_i hij;subst hij;(try rw[if_pos hi] at hv);cases hv;exact World.cell?_setCell_same _ _ _ (t.cells i us[i] (List.getElem?_eq_getElem hi))
 ·rename_i hij;rw[World.cell?_setCell_other _ _ _ _ (by simp;try omega)];exact t.cells j v hv
theorem Blk.there (t:Blk w h us) (o n:Nat) (hn:o+n<=us.length):w.there h o n:=fun j hj=>
 ⟨by rw[t.cells (o+j) us[o+j] (List.getElem?_eq_getElem (by omega))];rfl,t.fz _⟩
theorem Blk.range (t:Blk w h us):w.rangeAt h 0 us:=fun j u hu=>by rw[Nat.zero_add];exact t.cells j u hu
theorem setCells_size (h:Nat):∀(vs:List Value) (o:Nat) (w:World),(w.setCells h o vs).heap.size=w.heap.size
 | [],o,w=>rfl
 | v::r,o,w=>by rw[World.setCells,setCells_size h r];simp[World.setCell]
theorem zCe (h j:Nat):∀(vs:List Value) (o:Nat) (w:World),(j<o\/o+vs.length<=j)->(w.setCells h o vs).cell? ⟨h,j,none⟩=w.cell? ⟨h,j,none⟩
 | [],o,w,_=>rfl
 | v::r,o,w,hj=>by
  simp only[List.length_cons] at hj;rw[World.setCells,zCe h j r (o+1) _ (by omega),World.cell?_setCell_other _ _ _ _ (by simp;try omega)]
theorem Blk.sets (t:Blk w h us) (o:Nat) (cs:List Value) (ho:o+cs.length<=us.length) (vs:List Value) (hv:vs=us.take o++cs++us.drop (o+cs.length)):Blk (w.setCells h o cs) h vs:=by
 subst hv;refine⟨by rw[setCells_size];exact t.lt,fun j v hj=>?_,fun j=>by rw[World.frozen?_setCells];exact t.fz j⟩;have hs:∀j,j<cs.length->(w.cell? ⟨h,o+j,none⟩).isSome=true:=fun j hj=>(t.there o cs.length ho j hj).1
 rw[List.append_assoc] at hj;rcases Nat.lt_or_ge j o with h1 | h1
 ·rw [zCe h j cs o w (.inl h1)];rw[List.getElem?_append_left (by simp;omega),List.getElem?_take] at hj;rw[if_pos h1] at hj;exact t.cells j v hj
 ·rw [List.getElem?_append_right (by simp;omega)] at hj;rw[show j-(us.take o).length=j-o by simp;omega] at hj;rcases Nat.lt_or_ge (j-o) cs.length with h2 | h2
  ·rw [List.getElem?_append_left h2] at hj;have:=World.cell?_setCells_in h cs o w hs (j-o) h2;rw[show o+(j-o)=j by omega] at this;rw[this,<-hj,List.getElem?_eq_getElem h2]
  ·rw [List.getElem?_append_right h2,List.getElem?_drop] at hj;rw[zCe h j cs o w (.inr (by omega))];exact t.cells j v (by rw[<-hj];congr 1;omega)
end
section
variable {w w':World}
theorem zBd (w:World) (h i:Nat) (u:Value):w.grownBy (w.setCell ⟨h,i,none⟩ u) (some h):=⟨rfl,rfl,rfl,by simp[World.setCell],fun k hk hne=>by
 simp only[World.setCell,Array.getElem?_modify]
 rw[if_neg (fun e=>hne (by rw[<-e]))]⟩
theorem zBi (h:Nat):∀(vs:List Value) (o:Nat) (w:World),w.grownBy (w.setCells h o vs) (some h)
 | [],o,w=>⟨rfl,rfl,rfl,Nat.le_refl _,fun _ _ _=>rfl⟩
 | v::r,o,w=>by
  have h1:=zBd w h o v;have h2:=zBi h r (o+1) (w.setCell ⟨h,o,none⟩ v);rw[World.setCells];exact⟨h2.os.trans h1.os,h2.tape.trans h1.tape,h2.output.trans h1.output,Nat.le_trans h1.size h2.size,fun k hk hne=>(h2.block k (Nat.lt_of_lt_of_le hk h1.size) hne).trans (h1.block k hk hne)⟩
theorem zBh {base:Nat} {row:Option Nat} (hg:w.grownBy w' row) (hrow:∀k,row=some k->base<=k) (hb:base<=w.heap.size):Below base w w':=
 (Below.refl _ _).grown hg hb hrow
end
theorem storeB {ops:Array Oper} {rest:List Oper} {o:Oper} {a:Act} {Q:Exit->Act->World->Prop} (w:World) (hgd:o.guard=none) (ty:TypeId) (x y:Operand) (ho:o.op=.store ty x y)
  (h off:Nat) (us:List Value) (cs:List Value) (hx:a.eval x=.pointer (some ⟨h,off,none⟩)) (hy:a.eval y=.agg cs.toArray) (hB:Blk w h us) (hl:off+cs.length<=us.length) (hi:(Tryz.prog.info? ty).map (·.size)=some cs.length) (h1:∀u∈cs,u.oneCell'=true)
  (H:∀wz,wz=w.setCells h off cs->wpList Tryz.prog ops Q rest (a.put o.dst undef) wz):wpList Tryz.prog ops Q (o::rest) a w:=by
 refine wpList_store_mid hgd ty x y ho h off cs.toArray hx hy (by simpa using hB.there off cs.length hl) (by simpa using hi) (all_oneCell_toArray h1) ?_;exact H _ (by simp)
section
variable {P:Program}
theorem zMp {ops:Array Oper} {o:Oper} {a:Act} {K:Act->World->Prop} {Q:Exit->Act->World->Prop} {E:Prop} (W:World) (d:Option Tmp) (hd:o.dst=d) (hgd:o.guard=none) (ty:TypeId) (x y:Operand) (ho:o.op=.store ty x y)
  (b off:Nat) (cells:Array Value) (hx:a.eval x=.pointer (some ⟨b,off,none⟩)) (hy:a.eval y=.agg cells) (ht:W.there b off cells.size) (hi:(P.info? ty).map (·.size)=some cells.size) (h1:cells.all (·.oneCell')=true)
  (h:K (a.put d undef) (W.setCells b off cells.toList)):if Region.wanted o (yielded ops a.tmps)=true then Oper.wp P o a W K Q else E:=by
 subst hd;have hw:Region.wanted o (yielded ops a.tmps)=true:=by simp[Region.wanted,hgd]
 rw[if_pos hw];exact wp_store_mid ty x y ho b off cells hx hy ht hi h1 h
end
theorem zB6 {fn:Func} {p:Tmp} {ty:TypeId} (h:fn.results=#[.cell p ty]) (tmps:Array Value) {P:Program} (w:World) (b:Nat) (cs:List Value) (d:TypeDesc)
  (hp:tmps.getD p undef=.pointer (some ⟨b,0,none⟩)) (hc:w.rangeAt b 0 cs) (hu:P.underlying ty=some d) (hd:d.isRow=true) (hi:(P.info? ty).map (·.size)=some cs.length):
  (results fn tmps).run P w=.ok (.agg cs.toArray) w:=by
 have hp':tmps[p]?.getD undef=.pointer (some ⟨b,0,none⟩):=by simpa using hp
 simp[results,h,hp',asAddr,run_loadVar_mid w b 0 ty cs d hc hu hd hi]
theorem Blk.keep {w w':World} {h:Nat} {us:List Value} (t:Blk w h us) (hs:w.heap.size<=w'.heap.size) (hb:w'.heap[h]?=w.heap[h]?):Blk w' h us:=
 ⟨Nat.lt_of_lt_of_le t.lt hs,fun i u hu=>(World.cell?_of_block (a:=⟨h,i,none⟩) hb).trans (t.cells i u hu),fun i=>(World.frozen?_of_block (a:=⟨h,i,none⟩) hb).trans (t.fz i)⟩
theorem Blk.grown {w w':World} {h:Nat} {us:List Value} (t:Blk w h us) {row:Option Nat} (hg:w.grownBy w' row) (hne:row≠some h):Blk w' h us:=t.keep hg.size (hg.block h t.lt hne.symm)
theorem zLf:nameV [100,99,61,120]=(some [[([100,99],[120])]],0):=by
 have hc:cuts 44 [100,99,61,120]=[[100,99,61,120]]:=by decide
 have p2:parseP [100,99,61,120]=some [([100,99],[120])]:=by
  have h1:(cuts 43 [100,99,61,120]).length<=3:=by decide
  have h2:(cuts 43 [100,99,61,120]).mapM rdPairT=some [([100,99],[120])]:=by decide
  have h3:sortP [([100,99],[120])]=[([100,99],[120])]:=by decide
  rw[zBp h1 h2,h3,if_pos];refine⟨by decide,by decide,fun a ha=>?_,by decide⟩;obtain rfl:=List.mem_singleton.1 ha;exact⟨by decide,Or.inl (by decide),by rw[zDm _ _ (by decide) (by decide) (by decide) (by decide)]⟩
 unfold nameV;rw[if_neg (by decide),if_neg (by decide),hc,if_neg (by decide),mapM_cons',p2];rfl
theorem zO0:partsV [100,99,61,120]=(some [[100,99,61,120]],0):=by
 have t2:ptx [([100,99],[120])]=[100,99,61,120]:=by unfold ptx normP;simp only[List.map_cons,List.map_nil];rw[zDm _ _ (by decide) (by decide) (by decide) (by decide)];decide
 unfold partsV;rw[zLf];simp only[List.map_cons,List.map_nil,t2];rw[if_neg (by decide)]
def awE:List EA:=[([100,99],[[120]]),(clsT,[[111]])]
theorem zHg:valV [100,99] [120]=([120],0):=by
 unfold valV;rw[if_pos (by decide),zDm _ _ (by decide) (by decide) (by decide) (by decide)];decide
theorem val_clso:valV clsT [111]=([111],0):=by
 unfold valV;rw[if_pos (by decide),zDm _ _ (by decide) (by decide) (by decide) (by decide)];decide
theorem zQb (nm:ByteArray) (L:List EA) (w:World) (A:Option Addr) (n c:Nat) (xs:List Value) (hA:Has w w.heap.size 2 A n xs) (hL:EAs w w.heap.size xs L) (hn:n<=1000000000000) (hs:∀a∈L,a.2.length<=1000000000000):
  Calls Tryz.prog 129 #[.agg #[.string nm,.slice A n c]] w fun e w'=>e=.returned (.bool (Tr (∃a∈L,20<a.2.length)))/\Below w.heap.size w w':=by
 have hnl:=hA.eas_n hL;have hb1:=below1 w (.cells #[.string nm,.slice A n c] 38);have hX:=BoxE.new w nm A n c 38;obtain⟨R,hR⟩:∃R,Tr (∃a∈L,20<a.2.length)=R:=⟨_,rfl⟩;rw[hR];have HR:=hide hR;have HA:=hide ((hA.below hb1).upto hb1.size);have HL:=hide (hL.grow hb1);have HB:=hide hb1;have HN:=hide hnl;have HS:=hide hs;have HX:=hide hX;have x1:=hX.c1;clear hb1 hX hA hL hnl hs hR;go_enter Tryz.func129,Tryz.ntmps129;go_upto_region 1 with fail;obtain⟨w1,hw1⟩:∃w1,w.alloc (.cells #[.string nm,.slice A n c] 38)=w1:=⟨_,rfl⟩;rw[hw1] at HA HL HB HX x1;rw[hw1];clear hw1;go_wp2
 go_loopg [7] n (fun r s7 wx=>∃i:Nat,i+r=n/\s7=.int .i64 (i:Int)/\Hid (∀a∈L.take i,¬20<a.2.length)/\wx=w1)
 case atStart=>exact⟨0,by omega,rfl,hide fun a ha=>(by simp at ha),rfl⟩
 case round=>
  obtain⟨i,hig,rfl,hpre,rfl⟩:=hrel;cases gk with
  | zero=>
   obtain rfl:n=i:=by omega
   have hiz:¬((n:Int)<(n:Int)):=by omega
   have hR1:Hid (R=false):=hide (by
    rw[<-HR.out]
    refine zK4 fun ⟨a,ha,h⟩=>hpre.out a ?_ h
    rw[List.take_of_length_le (by rw[HN.out];exact Nat.le_refl _)]
    exact ha)
   clear HA HL HN HS HX hpre HR;go_wp2;go_ret;exact⟨by rw[hR1.out];rfl,HB.out⟩
  | succ r=>
   have hi:i<n:=by omega
   have hiz:(i:Int)<(n:Int):=by omega
   obtain⟨a,ha⟩:∃a,L[i]?=some a:=⟨_,List.getElem?_eq_getElem (by rw[<-HN.out];exact hi)⟩;obtain⟨g,o,hAe,hg,hat⟩:=HA.out.ea HL.out (fun h=>by rw[h] at ha;simp at ha);subst hAe;obtain⟨V,cv,hai⟩:=hat i a ha;have e1:=hai.e1;obtain⟨k,hk⟩:∃k,a.2.length=k:=⟨_,rfl⟩;rw[hk] at e1;by_cases h20:20<k
   ·have z:(20:Int)<(k:Int):=by omega
    have hR1:Hid (R=true):=hide (by
     rw[<-HR.out]
     exact zGz ⟨a,List.mem_of_getElem? ha,by rw[hk];exact h20⟩)
    clear HA HL HN HS HX hpre HR hat hai ha;go_wp2;go_ret;exact⟨by rw[hR1.out];rfl,HB.out⟩
   ·have z:¬(20:Int)<(k:Int):=by omega
    have hnext:Hid (∀b∈L.take (i+1),¬20<b.2.length):=hide (by
     rw[List.take_add_one,ha]
     intro b hb
     rcases List.mem_append.1 hb with h | h
     ·exact hpre.out b h
     ·obtain rfl:b=a:=by simpa using h
      rw[hk]
      exact h20)
    clear hat hai ha hpre;go_wp2
    go_roundg r
    case measure=>omega
    case rel=>exact⟨i+1,by omega,by go_num,hnext,rfl⟩
end Go.Proofs.YtajkmiialgiikaaGreatDoor
