/- Sizes of entries; a name's parent, again (split off YOf, YRow, YMath: no view, no policy). By an AI agent. -/
import Derived.Test.YtdkekamkmlpnhaaGreatDoorEY
import Derived.Test.YtdkekamkmlpnhaaGreatDoorMI
import Derived.Test.YtdkekamkmlpnhaaGreatDoorG23
import Derived.Test.YtdkekamkmlpnhaaGreatDoorEN
import Derived.Test.YtdkekamkmlpnhaaGreatDoorG24
import Derived.Test.YtdkekamkmlpnhaaGreatDoorG18
import Derived.Test.YtdkekamkmlpnhaaGreatDoorG25
set_option linter.unusedSimpArgs false
set_option linter.unusedVariables false
namespace Go.Proofs.YtdkekamkmlpnhaaGreatDoor
open Go.RowKit
def WeeN (e:EN):Prop:=e.1.length<=1000000/\e.2.length<=1000000/\∀a∈e.2,a.2.length<=1000000/\∀u∈a.2,u.length<=1000000
theorem EnAt.below {w w':World} {B g o:Nat} {e:EN} {V:Option Addr} {c:Nat} {ys:List Value} (h:EnAt w B g o e V c ys) (hg:g<B) (hb:Below B w w'):EnAt w' B g o e V c ys:=
 ⟨(hb.cell (p:=⟨g,o,none⟩) hg).trans h.e0,(hb.cell (p:=⟨g,o+1,none⟩) hg).trans h.e1,h.cap,h.most,h.has.below hb,h.attrs.below hb⟩
def TypesN (L:List EN):Prop:=∀e∈L,∀a∈e.2,a.1.length<=1048576
theorem zJ2 (n:List UInt8):(parentV n).1.length<=1000:=by
 rcases zJa n with⟨p,hp,ha⟩ | hp
 ·rw [hp];exact ha.len
 ·rw [hp];simp
def RootOr (m:List UInt8):Prop:=normT m=(m,0)
theorem zLf {m:List UInt8} (h:RootOr m):RootOr (parentV m).1:=by
 unfold RootOr at h ⊢;cases pt m with
 | no e he h'=>rw[norm_no' h'] at h;injection h with _ h2;omega
 | ok T ho h'=>
  cases T with
  | nil=>rw[show parentV m=([],false) by unfold parentV;rw[h']];exact norm_yes' (T:=[]) (zBf TextsOk.root)
  | cons t T=>rw[show parentV m=(joinC T,true) by unfold parentV;rw[h']];exact norm_yes' (zBf ho.tail)
theorem EntsPost.read {X:List EN} {w w':World} {e:Ending} (h:EntsPost X w e w'):∃A c ys,e=.returned (.slice A X.length c)/\X.length<=c/\c<=maxLen/\Has w' w'.heap.size 2 A X.length ys/\ENs w' w'.heap.size ys X/\Below w.heap.size w w':=by
 obtain⟨A,c,ys,h1,h2,h3,h4,h5,h6⟩:=h.out;exact⟨A,c,ys,h1,h2,h3,h4.has fun b hb=>hb.2,h5.ens fun b hb=>hb.2,h6⟩
end Go.Proofs.YtdkekamkmlpnhaaGreatDoor
set_option maxRecDepth 100000
set_option maxHeartbeats 64000000
namespace Go.Proofs.YtdkekamkmlpnhaaGreatDoor
open Go Go.RowKit
theorem zJ3 (L:List EN) (w:World) (A:Option Addr) (n c:Nat) (xs:List Value) (hA:Has w w.heap.size 2 A n xs) (hL:ENs w w.heap.size xs L) (hn:n<=1000000) (hwe:∀e∈L,WeeN e):
  Calls Tryz.prog 36 #[.slice A n c] w (EntsPost L w):=by
 have hnl:=hA.ens_n hL;have hCp:∀e∈L,∀(w:World) (U:Option Addr) (cu:Nat) (ys:List Value),Has w w.heap.size 2 U e.2.length ys->EAs w w.heap.size ys e.2->Calls Tryz.prog 40 #[.agg #[.string (txt e.1),.slice U e.2.length cu]] w (EntPost e w):=fun e he w U cu ys hA hL=>
  zHz e.1 e.2 w U _ cu ys hA hL (hwe e he).2.1 (fun a ha=>((hwe e he).2.2 a ha).1)
 have HC:=hide hCp;have HA:=hide hA;have HL:=hide hL;have HN:=hide hnl;clear hCp hA hL hnl hwe
 suffices H:Calls Tryz.prog 36 #[.slice A n c] w fun e w'=>∃v,e=.returned v/\(∃zs,RowN w' w.heap.size 38 v zs L)/\Below w.heap.size w w' from H.mono fun e w' ⟨v,h1,⟨zs,h2⟩,h3⟩=>by
  subst h1;exact h2.told h3
 go_enter Tryz.func36,Tryz.ntmps36;go_wp2
 go_loopg [3,7] n (fun k s3 s7 wx=>∃(i:Nat) (zs:List Value),i+k=n/\s7=.int .i64 (i:Int)/\Hid (RowN wx w.heap.size 38 s3 zs (L.take i))/\Hid (Below w.heap.size w wx))
 case atStart=>exact⟨0,[],by omega,rfl,hide (RowN.start (World.ownsRow_nil _ _ _ _)),hide (Below.refl _ _)⟩
 case round=>
  obtain⟨i,zs,hig,rfl,hro,hbr⟩:=hrel;cases gk with
  | zero=>
   obtain rfl:i=n:=by omega
   have hiz:¬((i:Int)<(i:Int)):=by omega
   have ho:=hro.out;rw[List.take_of_length_le (by rw[<-HN.out];exact Nat.le_refl _)] at ho;have Ho:=hide ho;clear HA HL HC HN hro ho;go_wp2;go_ret;exact⟨_,rfl,⟨zs,Ho.out⟩,hbr.out⟩
  | succ r=>
   have hi:i<n:=by omega
   have hiz:(i:Int)<(n:Int):=by omega
   obtain⟨e,he⟩:∃e,L[i]?=some e:=⟨_,List.getElem?_eq_getElem (by rw[<-HN.out];exact hi)⟩;have hem:=List.mem_of_getElem? he;obtain⟨g,o,hAe,hg,hat⟩:=HA.out.en HL.out (fun h=>by rw[h] at he;simp at he);subst hAe;obtain⟨U,cu,ys,hat⟩:=hat i e he;have hat:=hat.below hg hbr.out;have e0:=hat.e0;have e1:=hat.e1;have Hcall:=hide (HC.out e hem wr U cu ys (hat.has.upto hbr.out.size) (hat.attrs.upto hbr.out.size));have hlen:(L.take i).length<=1000000:=by rw[List.length_take];omega
   have Htk:Hid (L.take (i+1)=L.take i++[e]):=hide (by rw[List.take_add_one,he];rfl);have Hk:Hid (∃TE k,txt e.1=TE/\e.2.length=k):=hide ⟨_,_,rfl,rfl⟩;obtain⟨TE,k,hTE,hk⟩:=Hk.out;rw[hTE] at e0;rw[hk] at e1;have Hcall2:Hid (Calls Tryz.prog 40 #[.agg #[.string TE,.slice U k cu]] wr (EntPost e wr)):=hide (by rw[<-hTE,<-hk];exact Hcall.out);have HTk:=hide (And.intro hTE hk);clear hat he hem hTE hk Hk Hcall;go_wp2_with (go_at_call 40;fail);refine Hcall2.out.mono ?_;rintro e9 w3 hpost;obtain⟨A3,c3,ys3,rfl,hc3,hm3,hh3,he3,hb3⟩:=hpost.out;rw[HTk.out.1,HTk.out.2];have HV3:=hide (And.intro hc3 (And.intro hm3 (And.intro hh3 (And.intro he3 hb3))));have hbc:=below1 w3 (.cells #[.string TE,.slice A3 k c3] 38);have hlit:=litY w3 (.string TE) (.slice A3 k c3) 38 rfl rfl;have h1c:∀u∈[Value.string TE,Value.slice A3 k c3],u.oneCell'=true:=by simp[Value.oneCell']
   have hown6:=zAc (zAc hro.out.own hb3) hbc;have hs6:w.heap.size<=(w3.alloc (.cells #[.string TE,.slice A3 k c3] 38)).heap.size:=Nat.le_trans (Nat.le_trans hbr.out.size hb3.size) hbc.size;have Hbc:=hide hbc;clear hpost hc3 hm3 hh3 he3 hb3 hbc Hcall2 e0 e1;go_wp2_with (at_builtin;go_must (refine appN _ 22 38 _ 2 40 Tryz.underlying22 infoEN rfl (by omega) (by omega) rfl (.tmp 10) (.tmp 16) rfl w.heap.size _ _ zs rfl hown6 _ _ 1 1 [.string TE,.slice A3 k c3] rfl (Has.own hlit) h1c (by omega) hs6 ?_));intro v7 w7 hown7 hb7 hg7 ht7;have HR7:Hid (RowN w7 w.heap.size 38 v7 (zs++[.string TE,.slice A3 k c3]) (L.take (i+1))):=hide (by
    rw[Htk.out]
    obtain⟨ht,hk⟩:=HTk.out
    subst ht hk
    exact hro.out.more hbr.out.size HV3.out.2.2.2.2 HV3.out.1 HV3.out.2.1 Hbc.out HV3.out.2.2.1 HV3.out.2.2.2.1 (by rw[List.length_take];exact hown7) hg7 (ht7.imp id fun h=>h.trans (by simp)))
   have HB7:=hide ((hbr.out.trans (HV3.out.2.2.2.2.mono hbr.out.size)).trans ((Hbc.out.mono (Nat.le_trans hbr.out.size HV3.out.2.2.2.2.size)).trans hb7));clear hown7 hb7 hg7 ht7 HV3 hlit h1c hown6 hs6 hlen Hbc;go_wp2
   go_roundg r
   case measure=>omega
   case rel=>exact⟨i+1,_,by omega,by go_num,HR7,HB7⟩
end Go.Proofs.YtdkekamkmlpnhaaGreatDoor
namespace Go.Proofs.YtdkekamkmlpnhaaGreatDoor
open Go.RowKit
structure VE (w0 w:World) (A:Option Addr) (n:Nat) (xs:List Value) (L:List EN):Prop where
 base:Below w0.heap.size w0 w
 tm:TM w
 has:Has w w.heap.size 2 A n xs
 ents:ENs w w.heap.size xs L
theorem VE.grow {w0 w w':World} {A:Option Addr} {n:Nat} {xs:List Value} {L:List EN} (h:VE w0 w A n xs L) (hb:Below w.heap.size w w'):VE w0 w' A n xs L:=
 ⟨h.base.trans (hb.mono h.base.size),h.tm.below hb,(h.has.below hb).upto hb.size,h.ents.grow hb⟩
theorem zIz {L:List EN} {nm:List UInt8} (h:0<=atN L nm):∃(k:Nat) (e:EN),L[k]?=some e/\e.1=(normT nm).1/\atN L nm=(k:Int):=by
 unfold atN at h ⊢;split
 ·rename_i h0;rw[if_pos h0] at h;obtain⟨k,e,h1,h2,h3⟩:=zEm 0 h;exact⟨k,e,h1,h2,by rw[h3];simp⟩
 ·rename_i h0;rw[if_neg h0] at h;omega
end Go.Proofs.YtdkekamkmlpnhaaGreatDoor
namespace Go.Proofs.YtdkekamkmlpnhaaGreatDoor
open Go.RowKit
def AboveX (L:List EN) (p:List UInt8):Prop:=p≠[]->0<=atN L p/\∀(k:Nat) (f:EN),atN L p=(k:Int)->L[k]?=some f->(aliasE f.2).2=false
structure TreeXOk (L:List EN):Prop where
 len:L.length<=400
 formed:∀e∈L,FormedE e.1 e.2
 at_:∀(i:Nat) (e:EN),i<L.length->L[i]?=some e->atN L e.1=(i:Int)
 above:∀e∈L,AboveX L (parentV e.1).1
structure TreePostX (L:List EN) (w:World) (e:Ending) (w':World):Prop where
 out:∃p y,e=.returned (.tuple #[p,.int .i64 y])/\((p=.pointer none/\y=2/\¬TreeXOk L)\/(y=0/\TreeXOk L/\∃q A c ys,p=.pointer (some ⟨q,0,none⟩)/\q<w'.heap.size/\w'.cell? ⟨q,0,none⟩=some (.slice A (sortN L).length c)/\(sortN L).length<=c/\c<=maxLen/\Has w' w'.heap.size 2 A (sortN L).length ys/\ENs w' w'.heap.size ys (sortN L)))/\Below w.heap.size w w'
theorem zD9 (L:List EN) (w w':World) (hn:¬TreeXOk L) (hb:Below w.heap.size w w'):TreePostX L w (.returned (.tuple #[.pointer none,.int .i64 2])) w':=⟨⟨_,_,rfl,Or.inl ⟨rfl,rfl,hn⟩,hb⟩⟩
theorem zNt (L:List EN) (w:World) (A:Option Addr) (n c:Nat) (xs:List Value) (hA:Has w w.heap.size 2 A n xs) (hL:ENs w w.heap.size xs L) (hn:n<=100000) (hwe:∀e∈L,WeeN e) (hty:TypesN L) (hT:TM w):
  Calls Tryz.prog 9 #[.slice A n c] w (TreePostX L w):=by
 have hnl:=hA.ens_n hL;have hC:VE w w A n xs L:=⟨Below.refl _ _,hT,hA,hL⟩;have hFo:∀e∈L,∀(w:World) (U:Option Addr) (cu:Nat) (ys:List Value),Has w w.heap.size 2 U e.2.length ys->EAs w w.heap.size ys e.2->TM w->Calls Tryz.prog 32 #[.agg #[.string (txt e.1),.slice U e.2.length cu]] w fun e' w'=>e'=.returned (.bool (Tr (FormedE e.1 e.2)))/\Below w.heap.size w w':=fun e he w U cu ys hA hL hT=>by
  obtain⟨h1,h2,h3⟩:=hwe e he;exact zKc e.1 e.2 w U _ cu ys hA hL h2 h1 (fun a ha=>⟨by have:=hty e he a ha;omega,h3 a ha⟩) hT
 have hAl:∀e∈L,∀(w:World) (U:Option Addr) (cu:Nat) (ys:List Value),Has w w.heap.size 2 U e.2.length ys->EAs w w.heap.size ys e.2->TM w->Calls Tryz.prog 35 #[.agg #[.string (txt e.1),.slice U e.2.length cu]] w fun e' w'=>e'=.returned (.tuple #[.string (txt (aliasE e.2).1),.bool (aliasE e.2).2])/\Below w.heap.size w w':=fun e he w U cu ys hA hL hT=>by
  obtain⟨h1,h2,h3⟩:=hwe e he;exact zOh e.1 e.2 w U _ cu ys hA hL h2 h3 hT
 have hAt:∀(nm:List UInt8),nm.length<=1000000->∀w,Has w w.heap.size 2 A n xs->ENs w w.heap.size xs L->TM w->Calls Tryz.prog 33 #[.slice A n c,.string (txt nm)] w fun e w'=>e=.returned (.int .i64 (atN L nm))/\Below w.heap.size w w':=fun nm h w hA hL hT=>zP4 L nm w A n c xs hA hL (by omega) h hT
 have hPa:∀e∈L,∀w,TM w->Calls Tryz.prog 34 #[.string (txt e.1)] w fun e' w'=>e'=.returned (.tuple #[.string (txt (parentV e.1).1),.bool (parentV e.1).2])/\Below w.heap.size w w':=fun e he w hT=>zF7 e.1 (hwe e he).1 w hT
 have hSo:=fun w hA hL hT=>zO7 L w A n c xs hA hL hn (fun e he=>(hwe e he).1) hT
 have hCo:∀(w:World) (A':Option Addr) (c':Nat) (ys:List Value),Has w w.heap.size 2 A' (sortN L).length ys->ENs w w.heap.size ys (sortN L)->Calls Tryz.prog 36 #[.slice A' (sortN L).length c'] w (EntsPost (sortN L) w):=fun w A' c' ys hA hL=>
  zJ3 (sortN L) w A' _ c' ys hA hL (by have:=zF3 L;omega) (fun e he=>hwe e (zBm he))
 have hwn:∀e∈L,e.1.length<=1000000:=fun e he=>(hwe e he).1
 have HC:=hide hC;have HFo:=hide hFo;have HAl:=hide hAl;have HAt:=hide hAt;have HPa:=hide hPa;have HSo:=hide hSo;have HCo:=hide hCo;have HN:=hide hnl;have HW:=hide hwn;clear hC hFo hAl hAt hPa hSo hCo hnl hwn hA hL hwe hty hT
 suffices H:Calls Tryz.prog 9 #[.slice A n c] w fun e w'=>Hid (TreePostX L w e w') from H.mono fun e w' h=>h.out
 by_cases h400:400<n
 ·have z:(400:Int)<(n:Int):=by omega
  have HNo:Hid (¬TreeXOk L):=hide fun h=>by have:=h.len;have:=HN.out;omega
  clear HC HFo HAl HAt HPa HSo HCo HN HW;go_enter Tryz.func9,Tryz.ntmps9;go_wp2;go_ret2;exact hide (zD9 L w _ HNo.out (Below.refl _ _))
 ·have z:¬(400:Int)<(n:Int):=by omega
  have H4:Hid (n<=400):=hide (by omega);go_enter Tryz.func9,Tryz.ntmps9;go_wp2
  go_loopg [16] n (fun k s16 wx=>∃i:Nat,i+k=n/\s16=.int .i64 (i:Int)/\Hid (∀e∈L.take i,FormedE e.1 e.2)/\Hid (∀(k':Nat) (e:EN),k'<i->L[k']?=some e->atN L e.1=(k':Int))/\Hid (Below w.heap.size w wx))
  case atStart=>exact⟨0,by omega,rfl,hide fun e he=>(by simp at he),hide (fun k' e h=>by omega),hide (Below.refl _ _)⟩
  case round=>
   obtain⟨i,hig,rfl,hpre,hatI,hbr⟩:=hrel;cases gk with
   | zero=>
    obtain rfl:i=n:=by omega
    have hiz:¬((i:Int)<(i:Int)):=by omega
    have HFm:Hid (∀e∈L,FormedE e.1 e.2):=hide (by
     have:=hpre.out
     rwa [List.take_of_length_le (by rw[<-HN.out];exact Nat.le_refl _)] at this)
    have HC2:=hide (HC.out.grow hbr.out);obtain⟨w2,rfl⟩:∃w2,w2=wr:=⟨wr,rfl⟩;clear hpre HFo HC;go_wp2
    go_loopg [39] i (fun k s39 wx=>∃j:Nat,j+k=i/\s39=.int .i64 (j:Int)/\Hid (∀e∈L.take j,AboveX L (parentV e.1).1)/\Hid (Below w2.heap.size w2 wx))
    case atStart=>exact⟨0,by omega,rfl,hide fun e he=>(by simp at he),hide (Below.refl _ _)⟩
    case round=>
     obtain⟨j,hjg,rfl,hpre,hbj⟩:=hrel;cases gk with
     | zero=>
      obtain rfl:j=i:=by omega
      have hjz:¬((j:Int)<(j:Int)):=by omega
      have HOk:Hid (TreeXOk L):=hide ⟨by have:=H4.out;have:=HN.out;omega,HFm.out,fun k' e h1 h2=>hatI.out k' e (by have:=HN.out;omega) h2,by
       have:=hpre.out
       rwa [List.take_of_length_le (by rw[<-HN.out];exact Nat.le_refl _)] at this⟩
      have HC3:=hide (HC2.out.grow hbj.out);have HX:Hid (∃ks,(sortN L).length=ks):=hide ⟨_,rfl⟩;clear hpre HAl HAt HPa HC2 HFm hbj;go_wp2_with (go_at_call 37;fail);refine (HSo.out _ HC3.out.has HC3.out.ents HC3.out.tm).mono ?_;rintro e w4 hpost;obtain⟨A4,c4,ys4,rfl,hc4,hm4,hh4,he4,hb4⟩:=hpost.out;have HC4:=hide (HC3.out.grow hb4);have HE4:=hide (And.intro hh4 he4);obtain⟨ks,hks⟩:=HX.out;rw[hks] at HCo HE4 ⊢;have Hks:=hide hks;clear hpost hc4 hm4 hh4 he4 hb4 HSo HC3 HX hks;go_wp2_with (go_at_call 36;fail);refine (HCo.out _ _ _ _ HE4.out.1 HE4.out.2).mono ?_;rintro e w5 hpost;obtain⟨A5,c5,ys5,rfl,hc5,hm5,hh5,he5,hb5⟩:=hpost.read;have HC5:=hide (HC4.out.grow hb5);rw[Hks.out] at hh5 hc5 ⊢;have hba:=below1 w5 (.cells #[.slice A5 ks c5] 54);have hX5:=Blk.new w5 [.slice A5 ks c5] 54;have HP:Hid (TreePostX L w (.returned (.tuple #[.pointer (some ⟨w5.heap.size,0,none⟩),.int .i64 0])) (w5.alloc (.cells #[.slice A5 ks c5] 54))):=hide ⟨⟨_,_,rfl,Or.inr ⟨rfl,HOk.out,w5.heap.size,A5,c5,ys5,rfl,hX5.lt,by rw[Hks.out];exact hX5.cells 0 _ rfl,by rw[Hks.out];exact hc5,hm5,by rw[Hks.out];exact (hh5.below hba).upto hba.size,he5.grow hba⟩,(HC5.out.grow hba).base⟩⟩;clear hpost hc5 hm5 hh5 he5 hb5 HC4 HE4 HCo HC5 hba hX5 HOk;go_wp2;go_ret2;exact HP
     | succ k2=>
      have hj:j<i:=(by omega);have hjz:(j:Int)<(i:Int):=(by omega);obtain⟨e,he⟩:∃e,L[j]?=some e:=⟨_,List.getElem?_eq_getElem (by rw[<-HN.out];exact hj)⟩;have hem:=List.mem_of_getElem? he;obtain⟨g,o,hAe,hg,hat⟩:=HC2.out.has.en HC2.out.ents (fun h=>by rw[h] at he;simp at he);subst hAe;obtain⟨U,cu,ys,hat0⟩:=hat j e he;have hatr:=hat0.below hg hbj.out;have e0:=hatr.e0;have htk:L.take (j+1)=L.take j++[e]:=by rw[List.take_add_one,he];rfl
      have HCr:=hide (HC2.out.grow hbj.out);have Hpar:=hide (HPa.out e hem);have hro:normT (parentV e.1).1=((parentV e.1).1,0):=zLf (HFm.out e hem).loose.norm;have hps:=zJ2 e.1;have Hcat:=hide (HAt.out (parentV e.1).1 (by omega));obtain⟨p,hp⟩:∃p,(parentV e.1).1=p:=⟨_,rfl⟩;rw[hp] at Hpar Hcat hro;have Hbad:Hid (¬AboveX L p->¬TreeXOk L):=hide fun hn h=>hn (by rw[<-hp];exact h.above e hem)
      have Hnext:Hid (AboveX L p->∀e∈L.take (j+1),AboveX L (parentV e.1).1):=hide fun h x hx=>by
       rw[htk] at hx;rcases List.mem_append.1 hx with hx | hx
       ·exact hpre.out x hx
       ·obtain rfl:=List.mem_singleton.1 hx;rw[hp];exact h
      have q1:((txt p).toList==[])=(p==[]):=toeq _ _;have Hro:=hide hro;have Hat:=hide hat;obtain⟨TP,hTP⟩:∃TP,txt p=TP:=⟨_,rfl⟩;rw[hTP] at Hpar Hcat q1;generalize (parentV e.1).2=pb at *;generalize txt e.1=TE at *;clear hpre hat hat0 hatr he htk hps hp hro hTP HPa HAt;go_wp2_with (go_at_call 34;fail);refine (Hpar.out _ HCr.out.tm).mono ?_;rintro e' w5 ⟨rfl,hb5⟩;have hbj5:=hbj.out.trans (hb5.mono hbj.out.size);have Hbj5:=hide hbj5;have HC5:=hide (HCr.out.grow hb5);clear hb5 hbj5 Hpar e0 hbj HCr;by_cases hp0:p=[]
      ·have e1:(p==[])=true:=by rw[hp0];rfl
       rw[e1] at q1;have Hn2:=hide (Hnext.out fun h=>absurd hp0 h);clear Hnext Hcat Hro e1 hp0 HC5 Hat;go_wp2
       go_roundg k2
       case measure=>omega
       case rel=>exact⟨j+1,by omega,by go_num,Hn2,Hbj5⟩
      ·have e1:(p==[])=false:=by simpa using hp0
       rw[e1] at q1;go_wp2_with (go_at_call 33;fail);refine (Hcat.out _ HC5.out.has HC5.out.ents HC5.out.tm).mono ?_;rintro e' w6 ⟨rfl,hb6⟩;have hbj6:=Hbj5.out.trans (hb6.mono Hbj5.out.size);have Hbj6:=hide hbj6;have HC6:=hide (HC5.out.grow hb6);clear hb6 HC5 Hcat Hbj5;by_cases hneg:atN L p<0
       ·have HNo:Hid (¬TreeXOk L):=hide (Hbad.out fun h=>by have:=(h hp0).1;omega);clear Hbad;generalize atN L p=ai at *;clear Hnext Hro HCo HSo HAl Hat e1 hp0 q1;go_wp2;go_ret2;exact hide (zD9 L w _ HNo.out HC6.out.base)
       ·obtain ⟨kk,f,hkk,hf1,hke⟩:=zIz (show 0<=atN L p by omega);have hkn:kk<i:=by rw[HN.out];exact (List.getElem?_eq_some_iff.1 hkk).1
        have hkz:(kk:Int)<(i:Int):=(by omega);have hkz0:¬((kk:Int)<0):=by omega
        rw[hke];rw[Hro.out] at hf1;obtain⟨U2,cu2,ys2,hat2⟩:=Hat.out kk f hkk;have hat6:=hat2.below hg hbj6;have d0:=hat6.e0;have d1:=hat6.e1;have Hal:=hide (HAl.out f (List.mem_of_getElem? hkk) w6 U2 cu2 ys2 (hat6.has.upto hbj6.size) (hat6.attrs.upto hbj6.size) HC6.out.tm);generalize txt f.1=TF at *;generalize f.2.length=kf at *;generalize txt (aliasE f.2).1=TA at *;obtain⟨al,hal⟩:∃al,(aliasE f.2).2=al:=⟨_,rfl⟩;have Hn2:Hid (al=false->∀e∈L.take (j+1),AboveX L (parentV e.1).1):=hide fun h0=>Hnext.out fun _=>⟨by rw[hke];omega,fun k' f2 hk' hf2=>by
         rw[hke] at hk'
         obtain rfl:kk=k':=by omega
         rw[hkk] at hf2
         rw[<-Option.some.inj hf2,hal,h0]⟩
        have Hbad2:Hid (al=true->¬TreeXOk L):=hide fun h0=>Hbad.out fun ha=>by
         have:=(ha hp0).2 kk f hke hkk;rw[hal,h0] at this;cases this
        clear Hbad;rw[hal] at Hal;clear Hnext Hro hkk hf1 hke hat2 hat6 hneg hbj6 e1 hp0 hal Hat;go_wp2_with (go_at_call 35;fail);refine Hal.out.mono ?_;rintro e' w7 ⟨rfl,hb7⟩;have Hbj7:=hTz Hbj6 hb7;have HC7:=hide (HC6.out.grow hb7);clear hb7 HC6 Hal Hbj6 d0 d1;cases al with
        | true=>
         clear Hn2 HCo HSo HAl;go_wp2;go_ret2;exact hide (zD9 L w _ (Hbad2.out (by trivial)) HC7.out.base)
        | false=>
         have Hn4:=hide (Hn2.out (by trivial));clear HC7 Hn2 Hbad2;go_wp2
         go_roundg k2
         case measure=>omega
         case rel=>exact⟨j+1,by omega,by go_num,Hn4,Hbj7⟩
   | succ k=>
    have hi:i<n:=(by omega);have hiz:(i:Int)<(n:Int):=(by omega);obtain⟨e,he⟩:∃e,L[i]?=some e:=⟨_,List.getElem?_eq_getElem (by rw[<-HN.out];exact hi)⟩;have hem:=List.mem_of_getElem? he;obtain⟨g,o,hAe,hg,hat⟩:=HC.out.has.en HC.out.ents (fun h=>by rw[h] at he;simp at he);subst hAe;obtain⟨U,cu,ys,hat⟩:=hat i e he;have hatr:=hat.below hg hbr.out;have e0:=hatr.e0;have e1:=hatr.e1;have hCr:=HC.out.grow hbr.out;have hfo:=HFo.out e hem wr U cu ys (hatr.has.upto hbr.out.size) (hatr.attrs.upto hbr.out.size) hCr.tm;have Hcat:=hide (HAt.out e.1 (HW.out e hem));have htk:L.take (i+1)=L.take i++[e]:=by rw[List.take_add_one,he];rfl
    have HCr:=hide hCr;by_cases hf:FormedE e.1 e.2
    ·rw [zAm hf] at hfo;have Hfo:=hide hfo;have Hn2:Hid (∀e∈L.take (i+1),FormedE e.1 e.2):=hide fun x hx=>by
      rw[htk] at hx;rcases List.mem_append.1 hx with hx | hx
      ·exact hpre.out x hx
      ·obtain rfl:=List.mem_singleton.1 hx;exact hf
     have Hnx:Hid (atN L e.1=(i:Int)->∀(k':Nat) (x:EN),k'<i+1->L[k']?=some x->atN L x.1=(k':Int)):=hide fun hai k' x hk' hx=>by
      by_cases hlt:k'<i
      ·exact hatI.out k' x hlt hx
      ·obtain rfl:k'=i:=by omega
       rw[he] at hx;rw[<-Option.some.inj hx];exact hai
     have Hnb:Hid (¬atN L e.1=(i:Int)->¬TreeXOk L):=hide fun hai h=>hai (h.at_ i e (List.getElem?_eq_some_iff.1 he).1 he)
     have Hat:=hide hat;obtain⟨TE,hTE⟩:∃TE,txt e.1=TE:=⟨_,rfl⟩;rw[hTE] at Hfo Hcat e0;have HTE:=hide hTE;generalize e.2.length=ke at *;generalize atN L e.1=ai at *;clear hpre hfo hatr hat hf htk he hem hCr hTE HPa HAl HSo HCo;go_wp2_with (go_at_call 32;fail);refine Hfo.out.mono ?_;rintro e' w5 ⟨rfl,hb5⟩;have hbr5:=hbr.out.trans (hb5.mono hbr.out.size);have HC5:=hide (HCr.out.grow hb5);have d0:=(Hat.out.below hg hbr5).e0;rw[HTE.out] at d0;have Hbr5:=hide hbr5;clear hb5 hbr5 Hfo e0 e1 hbr HCr;go_wp2_with (go_at_call 33;fail);refine (Hcat.out _ HC5.out.has HC5.out.ents HC5.out.tm).mono ?_;rintro e' w6 ⟨rfl,hb6⟩;have HB6:=hide (HC5.out.grow hb6).base;have Hbr6:=hTz Hbr5 hb6;clear hb6 HC5 Hcat Hbr5 d0 Hat HTE;by_cases hai:ai=(i:Int)
     ·have q0:(ai==(i:Int))=true:=by rw[hai];simp
      have q1:(ai !=(i:Int))=false:=(by unfold bne;rw[q0];rfl);have Hn3:=hide (Hnx.out hai);clear hai Hnx Hnb;go_wp2
      go_roundg k
      case measure=>omega
      case rel=>exact⟨i+1,by omega,by go_num,Hn2,Hn3,Hbr6⟩
     ·have q0:(ai==(i:Int))=false:=beq_false_of_ne hai;have q1:(ai !=(i:Int))=true:=by unfold bne;rw[q0];rfl
      have HNo:=hide (Hnb.out hai);clear hai Hn2 Hnx Hnb;go_wp2;go_ret2;exact hide (zD9 L w _ HNo.out HB6.out)
    ·have HNo:Hid (¬TreeXOk L):=hide fun h=>hf (h.formed e hem)
     rw[zAp hf] at hfo;have Hfo:=hide hfo;generalize txt e.1=TE at *;generalize e.2.length=ke at *;clear hpre hfo hatr hat hf htk he hem hCr HPa HAl HSo HCo Hcat;go_wp2_with (go_at_call 32;fail);refine Hfo.out.mono ?_;rintro e' w5 ⟨rfl,hb5⟩;have HB5:=hide (HCr.out.grow hb5).base;clear hb5 Hfo e0 e1 hbr HCr;go_wp2;go_ret2;exact hide (zD9 L w _ HNo.out HB5.out)
end Go.Proofs.YtdkekamkmlpnhaaGreatDoor
namespace Go.Proofs.YtdkekamkmlpnhaaGreatDoor
open Go Go.RowKit
def NmOk (e:EN):Prop:=normT e.1=(e.1,0)/\e.1≠[]
theorem zJ4 {a b:EN} (ha:NmOk a) (hb:NmOk b) (hne:a.1≠b.1):cmpL (pathV a.1) (pathV b.1)≠0:=fun h=>hne (zFk ha.1 ha.2 hb.1 hb.2 (zD3 h))
theorem zG2:∀(out:List EN) (x:EN),SortedP out->(∀e∈out,NmOk e)->NmOk x->(∀e∈out,e.1≠x.1)->SortedP (insN out x)/\(insN out x).Perm (x::out)
 | [],x,_,_,_,_=>by
  have h:insN [] x=[x]:=by unfold insN posN;simp
  rw[h];exact⟨List.pairwise_singleton _ _,List.Perm.refl _⟩
 | y::r,x,hs,hk,hx,hd=>by
  have hy:=hk y List.mem_cons_self;have hdy:=hd y List.mem_cons_self;obtain⟨hs1,hs2⟩:=List.pairwise_cons.1 hs;have hc:=zP7 hy.1 hy.2 hx.1 hx.2;by_cases hlt:compV y.1 x.1<0
  ·obtain ⟨i1,i2⟩:=zG2 r x hs2 (fun e he=>hk e (List.mem_cons_of_mem _ he)) hx fun e he=>hd e (List.mem_cons_of_mem _ he)
   have h:insN (y::r) x=y::insN r x:=by
    unfold insN;rw[show posN (y::r) x.1=posN r x.1+1 by rw[posN,if_pos hlt]];rw[List.getElem?_cons_succ];split
    ·rfl
    ·simp
   rw[h];refine⟨List.pairwise_cons.2 ⟨fun e he=>?_,i1⟩,(i2.cons y).trans (List.Perm.swap _ _ _)⟩;rcases List.mem_cons.1 (i2.subset he) with rfl | he
   ·rw [<-hc];exact hlt
   ·exact hs1 e he
  ·have h:insN (y::r) x=x::y::r:=by
    unfold insN;rw[show posN (y::r) x.1=0 by rw[posN,if_neg hlt]];have:¬((y::r)[0]?).map (·.1)=some x.1:=by simpa using hdy
    rw[if_neg this];rfl
   rw[h];rw[hc] at hlt;have hne:=zJ4 hy hx hdy;have hng:=zCn (pathV y.1) (pathV x.1);have hxy:cmpL (pathV x.1) (pathV y.1)<0:=by omega
   refine⟨List.pairwise_cons.2 ⟨fun e he=>?_,hs⟩,List.Perm.refl _⟩;rcases List.mem_cons.1 he with rfl | he
   ·exact hxy
   ·exact zDi hxy (by have:=hs1 e he;omega)
theorem zE4:∀(L acc:List EN),SortedP acc->(∀e∈acc++L,NmOk e)->((acc++L).map (·.1)).Nodup->SortedP (L.foldl insN acc)/\(L.foldl insN acc).Perm (acc++L)
 | [],acc,hs,_,_=>⟨hs,by simp⟩
 | x::L,acc,hs,hk,hn=>by
  have hd:∀e∈acc,e.1≠x.1:=fun e he q=>by
   rw[List.map_append,List.map_cons] at hn;exact (List.nodup_append.1 hn).2.2 e.1 (List.mem_map_of_mem he) x.1 List.mem_cons_self q
  obtain⟨i1,i2⟩:=zG2 acc x hs (fun e he=>hk e (List.mem_append_left _ he)) (hk x (List.mem_append_right _ List.mem_cons_self)) hd;have hp:(insN acc x++L).Perm (acc++x::L):=(i2.append_right L).trans List.perm_middle.symm;obtain⟨j1,j2⟩:=zE4 L (insN acc x) i1 (fun e he=>hk e (hp.subset he)) ((hp.map (·.1)).nodup_iff.2 hn);exact⟨j1,j2.trans hp⟩
theorem zD0:∀{A B:List EN},SortedP A->SortedP B->A.Perm B->A=B
 | [],B,_,_,h=>(List.Perm.nil_eq h)
 | a::A,[],_,_,h=>by have:=h.length_eq;simp at this
 | a::A,b::B,hA,hB,h=>by
  obtain⟨a1,a2⟩:=List.pairwise_cons.1 hA;obtain⟨b1,b2⟩:=List.pairwise_cons.1 hB;have hab:a=b:=by
   rcases List.mem_cons.1 (h.subset List.mem_cons_self) with e | ha
   ·exact e
   ·rcases List.mem_cons.1 (h.symm.subset List.mem_cons_self) with e | hb
    ·exact e.symm
    ·have h1:=b1 a ha;have h2:=a1 b hb;have:=zCn (pathV a.1) (pathV b.1);omega
  subst hab;rw[zD0 a2 b2 (List.perm_cons a |>.1 h)]
theorem zGx {L:List EN} (h:TreeXOk L):(L.map (·.1)).Nodup:=by
 unfold List.Nodup;rw[List.pairwise_map,List.pairwise_iff_getElem];intro i j hi hj hij heq;have h1:=h.at_ i L[i] hi (List.getElem?_eq_getElem hi);have h2:=h.at_ j L[j] hj (List.getElem?_eq_getElem hj);rw[heq,h2] at h1;omega
theorem zCg {L M:List EN} (h:OfSort L M) (hk:∀e∈L,NmOk e) (hn:(L.map (·.1)).Nodup):SortedP M:=by
 have hm:(M.map (·.1)).Nodup:=(h.1.map (·.1)).nodup_iff.2 hn;unfold List.Nodup at hm;rw[List.pairwise_map,List.pairwise_iff_getElem] at hm;unfold SortedP;rw[List.pairwise_iff_getElem];intro i j hi hj hij;have h1:=List.pairwise_iff_getElem.1 h.2 i j hi hj hij;have h2:=zJ4 (hk _ (h.1.subset (List.getElem_mem hi))) (hk _ (h.1.subset (List.getElem_mem hj))) (hm i j hi hj hij);omega
theorem sort_is {L M:List EN} (h:OfSort L M) (hk:∀e∈L,NmOk e) (hn:(L.map (·.1)).Nodup):M=sortN L:=by
 obtain⟨h1,h2⟩:=zE4 L [] List.Pairwise.nil (by simpa using hk) (by simpa using hn);exact zD0 (zCg h hk hn) h1 (h.1.trans (by have:=h2.symm;rwa [List.nil_append] at this))
theorem zM3 {L:List EN} (hn:(L.map (·.1)).Nodup) {i:Nat} {e:EN} (he:L[i]?=some e) (hk:normT e.1=(e.1,0)):atN L e.1=(i:Int):=by
 obtain⟨k,f,h1,h2,h3⟩:=zIz (zP3 hk (List.mem_of_getElem? he) rfl);rw[h3];rw[hk] at h2;obtain⟨i1,i2⟩:=List.getElem?_eq_some_iff.1 he;obtain⟨k1,k2⟩:=List.getElem?_eq_some_iff.1 h1;unfold List.Nodup at hn;rw[List.pairwise_map,List.pairwise_iff_getElem] at hn;rcases Nat.lt_trichotomy i k with h | h | h
 ·exact absurd (by rw[i2,k2,h2]) (hn i k i1 k1 h)
 ·rw [h]
 ·exact absurd (by rw[i2,k2,h2]) (hn k i k1 i1 h)
theorem zOr {L M:List EN} (h:OfGood L M):(L.map (·.1)).Nodup:=by
 refine ((h.2.2.1.1.map (·.1)).nodup_iff).1 ?_;unfold List.Nodup;rw[List.pairwise_map,List.pairwise_iff_getElem];intro i j hi hj hij heq;exact (h.2.2.2 j M[j] (List.getElem?_eq_getElem hj)).1 ⟨M[i],List.mem_take_iff_getElem.2 ⟨i,by omega,rfl⟩,by rw[heq]⟩
theorem zPl {L M:List EN} (h:OfGood L M):TreeXOk L/\M=sortN L:=by
 have hk:∀e∈L,NmOk e:=fun e he=>⟨(h.2.1 e he).loose.norm,(h.2.1 e he).loose.ne⟩
 have hn:=zOr h;refine⟨⟨h.1,h.2.1,fun i e _ he=>zM3 hn he (hk e (List.mem_of_getElem? he)).1,fun e he hp=>?_⟩,sort_is h.2.2.1 hk hn⟩;have hS:=zCg h.2.2.1 hk hn;obtain⟨j,hj,hje⟩:=List.mem_iff_getElem.1 (h.2.2.1.1.symm.subset he);have hr:=(h.2.2.2 j e (by rw[List.getElem?_eq_getElem hj,hje])).2;obtain⟨q1,q2⟩:=zDj (hk e he).1 (hk e he).2;rw[<-q2] at hr;have hpn:=zBx q1 hp;unfold parentC at hr;rw[if_neg hpn] at hr;by_cases hex:∃f∈M.take j,pathV f.1=pathV (parentV e.1).1
 ·rw [if_pos hex] at hr;obtain⟨f,hf,hfp⟩:=hex;have hfL:f∈L:=h.2.2.1.1.subset (List.mem_of_mem_take hf);have hfn:f.1=(parentV e.1).1:=zFk (hk f hfL).1 (hk f hfL).2 q1 hp hfp;refine⟨zP3 q1 hfL hfn,fun k g hkk hg=>?_⟩;obtain⟨i,hi,hif⟩:=List.mem_iff_getElem.1 hfL;have ha:=zM3 hn (i:=i) (e:=f) (by rw[List.getElem?_eq_getElem hi,hif]) (hk f hfL).1;rw[hfn,hkk] at ha;have:k=i:=by omega
  subst this;rw[List.getElem?_eq_getElem hi,hif] at hg;obtain rfl:=Option.some.inj hg;cases hal:(aliasE f.2).2 with
  | false=>rfl
  | true=>
   rw[if_pos ⟨f,hf,hfp,hal⟩] at hr;cases hr
 ·rw [if_neg hex] at hr;cases hr
theorem bad_no {L:List EN} (h:OfBad L):¬TreeXOk L:=by
 intro ho;rcases h with h | ⟨e,he,h⟩ | ⟨M,i,e,hs,he,h⟩
 ·have:=ho.len;omega
 ·exact h (ho.formed e he)
 ·have hk:∀e∈L,NmOk e:=fun e he=>⟨(ho.formed e he).loose.norm,(ho.formed e he).loose.ne⟩
  have hn:=zGx ho;have hS:=zCg hs hk hn;have heL:e∈L:=hs.1.subset (List.mem_of_getElem? he);obtain⟨i1,i2⟩:=List.getElem?_eq_some_iff.1 he;have ahead:∀f∈M,cmpL (pathV f.1) (pathV e.1)<0->f∈M.take i:=fun f hf hlt=>by
   obtain⟨j,hj,hjf⟩:=List.mem_iff_getElem.1 hf;refine List.mem_take_iff_getElem.2 ⟨j,?_,hjf⟩;rcases Nat.lt_trichotomy j i with q | q | q
   ·omega
   ·subst q;rw[<-hjf,<-i2,zCl] at hlt;omega
   ·have h1:=List.pairwise_iff_getElem.1 hS i j i1 hj q;rw[i2,hjf] at h1;have:=zCn (pathV e.1) (pathV f.1);omega
  refine h ⟨fun hx=>?_,?_⟩
  ·obtain ⟨x,hx,hxp⟩:=hx;obtain⟨j,hj,hjx⟩:=List.mem_take_iff_getElem.1 hx;have h1:=List.pairwise_iff_getElem.1 hS j i (by omega) i1 (by omega);rw[i2,hjx,hxp,zCl] at h1;omega
  ·obtain ⟨q1,q2⟩:=zDj (hk e heL).1 (hk e heL).2;rw[<-q2];unfold parentC;by_cases hp:(parentV e.1).1=[]
   ·rw [hp,if_pos (show pathV []=[] from rfl)]
   ·rw [if_neg (zBx q1 hp)];obtain⟨h0,hal⟩:=ho.above e heL hp;obtain⟨k,f,hf,hfn,hka⟩:=zIz h0;rw[q1] at hfn;have hfL:=List.mem_of_getElem? hf;have hfp:pathV f.1=pathV (parentV e.1).1:=by rw[hfn]
    have hlt:cmpL (pathV f.1) (pathV e.1)<0:=(by have hne:=zBx (hk e heL).1 (hk e heL).2;rw[hfp,q2];have:=zNi (pathV e.1).dropLast ((pathV e.1).getLast hne);rw[List.dropLast_concat_getLast hne] at this;omega);have hfM:=ahead f (hs.1.symm.subset hfL) hlt;rw[if_pos ⟨f,hfM,hfp⟩,if_neg];rintro ⟨g,hg,hgp,hga⟩;have:g=f:=hS.one (List.mem_of_mem_take hg) (List.mem_of_mem_take hfM) (by rw[hgp,hfp]);rw[this,hal k f hka hf] at hga;cases hga
end Go.Proofs.YtdkekamkmlpnhaaGreatDoor
namespace Go.Proofs.YtdkekamkmlpnhaaGreatDoor
open Go.RowKit Go.Proofs.YtdkekamkmlpnhaaGreatDoor.Opens
theorem zPk {N:Nat} {L:List EN} (h:SmN N L) (hN:N<=1048576):∀e∈L,BulkN e:=fun e he=>by
 obtain⟨h1,h2⟩:=h.each e he;exact⟨Nat.le_trans h1 hN,Nat.le_trans h2.len hN,fun a ha=>⟨Nat.le_trans (h2.each a ha).vals hN,fun u hu=>Nat.le_trans ((h2.each a ha).each u hu) hN⟩⟩
theorem zM4 {N:Nat} {L:List EN} (h:SmN N L) (hN:N<=1048576):TypesN L:=fun e he a ha=>Nat.le_trans (((h.each e he).2.each a ha).name) hN
end Go.Proofs.YtdkekamkmlpnhaaGreatDoor
