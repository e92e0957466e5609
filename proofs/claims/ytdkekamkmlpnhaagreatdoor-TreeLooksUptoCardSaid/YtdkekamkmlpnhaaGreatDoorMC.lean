/- Several texts in one: RMath, RLow, RLower, RTab, RType, RRef, RText, RRText, RIntMath, RInt, RFormed, RNormal, RRInt, RRNormal, RFew, RTypes, RNormals. By an AI agent. -/
import Derived.Lib.AtoiAllCases
import Derived.Lib.ParseIntBTie
import Derived.Lib.ItoaNum
import Derived.BigQuiet
import Derived.Deep.QuietTactic
import Derived.Deep.LoopGhost
import Derived.Handy
import Derived.Lib.Strings
import Derived.Lib.IndexBytes
import Derived.Laws.IdiomStrings
import Derived.OpenShut
import Derived.Deep.MidRow
import Derived.Test.YtdkekamkmlpnhaaGreatDoorShelf
import Derived.Laws.MakeOwn
import Derived.Lib.TrimByte
import Derived.Lib.IndexLaws
import Derived.Test.YtdkekamkmlpnhaaGreatDoorWords
import Derived.Test.YtdkekamkmlpnhaaGreatDoorSeat
import Derived.Test.YtdkekamkmlpnhaaGreatDoorMA
import Derived.Test.YtdkekamkmlpnhaaGreatDoorMB
set_option linter.unusedSimpArgs false
set_option linter.unusedVariables false
set_option maxRecDepth 100000
set_option maxHeartbeats 16000000
namespace Go.Proofs.YtdkekamkmlpnhaaGreatDoor
open Go.RowKit
def low (b:UInt8):UInt8:=if 65<=b.toNat/\b.toNat<=90 then b+32 else b
def lows (l:List UInt8):List UInt8:=l.map low
theorem zEg (b:UInt8):(low b).toNat=if 65<=b.toNat/\b.toNat<=90 then b.toNat+32 else b.toNat:=by
 unfold low;split
 ·rw [UInt8.toNat_add];have:(32:UInt8).toNat=32:=rfl;omega
 ·rfl
theorem zRq (b:UInt8):¬(65<=(low b).toNat/\(low b).toNat<=90):=by
 rw[zEg];split<;>omega
theorem zQr (b:UInt8):low (low b)=low b:=by
 have:=zRq b;rw[show low (low b)=if 65<=(low b).toNat/\(low b).toNat<=90 then low b+32 else low b from rfl,if_neg this]
theorem zA9 (l:List UInt8):(lows l).length=l.length:=by simp[lows]
theorem zCp {a b:UInt8} (h:a.toNat=b.toNat):a=b:=UInt8.toNat_inj.1 h
theorem zNe (b:UInt8) (k:UInt8) (hk:k.toNat<65):low b=k↔b=k:=by
 constructor
 ·intro h;have h1:=zEg b;rw[h] at h1;split at h1
  ·omega
  ·exact zCp h1.symm
 ·rintro rfl;unfold low;rw[if_neg (by omega)]
def tab:List (List UInt8 × Int):=
 [([111,98,106,101,99,116,67,108,97,115,115],1),([99,110],1),([111,117],1),([111],1),([100,99],1),([117,105,100],1),
  ([100,101,115,99,114,105,112,116,105,111,110],1),([109,97,105,108],1),([117,115,101,114,80,97,115,115,119,111,114,100],2),([114,101,102],2),
  ([115,101,114,105,97,108,78,117,109,98,101,114],3),([112,111,115,105,116,105,111,110],4),
  ([97,108,105,97,115,101,100,79,98,106,101,99,116,78,97,109,101],5),([109,101,109,98,101,114],5)]
def typL:List UInt8->List (List UInt8 × Int)->List UInt8 × Int
 | _,[]=>([],0)
 | l,e::r=>if lows e.1=l then e else typL l r
def typ (n:List UInt8):List UInt8 × Int:=typL (lows n) tab
theorem zHt (l:List UInt8):∀t:List (List UInt8 × Int),(∀e∈t,1<=e.2/\e.2<=5)->0<=(typL l t).2/\(typL l t).2<=5
 | [],_=>by simp[typL]
 | e::r,h=>by
  unfold typL;split
  ·have:=h e (by simp);omega
  ·exact zHt l r fun e he=>h e (by simp[he])
theorem zSx (n:List UInt8):0<=(typ n).2/\(typ n).2<=5:=zHt _ tab (by decide)
def rtStep (s:Bool × List UInt8) (b:UInt8):Bool × List UInt8:=
 if b=32 then (true,s.2) else (false,(if s.1=true/\s.2≠[] then s.2++[32] else s.2)++[low b])
def rtAll (l:List UInt8):Bool × List UInt8:=l.foldl rtStep (false,[])
def nt (l:List UInt8):List UInt8:=(rtAll l).2
theorem zBa (l:List UInt8) (b:UInt8):rtAll (l++[b])=rtStep (rtAll l) b:=by simp[rtAll]
def ntStep (acc:List UInt8) (b:UInt8):List UInt8:=if b=32/\(acc=[]\/acc.getLast?=some 32) then acc else acc++[low b]
def ntAll (l:List UInt8):List UInt8:=l.foldl ntStep []
theorem zHm (l:List UInt8) (b:UInt8):ntAll (l++[b])=ntStep (ntAll l) b:=by simp[ntAll]
theorem zC7 {P:List UInt8->Prop} (h0:P []) (h1:∀l b,P l->P (l++[b])) (l:List UInt8):P l:=by
 have h:∀n (l:List UInt8),l.length=n->P l:=by
  intro n
  induction n with
  | zero=>intro l h;rw[List.length_eq_zero_iff.1 h];exact h0
  | succ n ih=>
   intro l h;have hne:l≠[]:=by intro e;subst e;simp at h
   rw[<-List.dropLast_concat_getLast hne];exact h1 _ _ (ih _ (by simp[h]))
 exact h _ l rfl
theorem nt_inv (l:List UInt8):ntAll l=(rtAll l).2++(if (rtAll l).1=true/\(rtAll l).2≠[] then [32] else [])/\(rtAll l).2.getLast?≠some 32:=by
 induction l using zC7 with
 | h0=>simp[ntAll,rtAll]
 | h1 l b ih=>
  rw[zHm,zBa];generalize rtAll l=s at *;obtain⟨g,o⟩:=s;obtain⟨ih1,ih2⟩:=ih;simp only at ih1 ih2;rw[ih1];by_cases hb:b=32
  ·subst hb;have e1:rtStep (g,o) 32=(true,o):=by simp[rtStep]
   have e32:low 32=32:=by decide
   rw[e1];refine⟨?_,ih2⟩;unfold ntStep;by_cases ho:o=[]
   ·subst ho;simp
   ·cases g
    ·simp [ho,ih2,e32]
    ·simp [ho]
  ·have e1:rtStep (g,o) b=(false,(if g=true/\o≠[] then o++[32] else o)++[low b]):=by simp[rtStep,hb]
   rw[e1];have hl:low b≠32:=fun h=>hb ((zNe b 32 (by decide)).1 h)
   refine⟨?_,by simp[hl]⟩;unfold ntStep;rw[if_neg (by rintro ⟨h,_⟩;exact hb h)];split<;>simp_all
theorem nt_trim (l:List UInt8):nt l=if (ntAll l).getLast?=some 32 then (ntAll l).dropLast else ntAll l:=by
 obtain⟨h1,h2⟩:=nt_inv l;unfold nt;rw[h1];split
 ·simp
 ·simp [h2]
theorem zP0 (l:List UInt8):(rtAll l).2.length+(if (rtAll l).1=true/\(rtAll l).2≠[] then 1 else 0)<=l.length:=by
 induction l using zC7 with
 | h0=>simp[rtAll]
 | h1 l b ih=>
  rw[zBa];generalize rtAll l=s at *;obtain⟨g,o⟩:=s;simp only at ih;by_cases hb:b=32
  ·subst hb;have e1:rtStep (g,o) 32=(true,o):=by simp[rtStep]
   rw[e1];simp only[List.length_append,List.length_singleton];split<;>split at ih<;>omega
  ·have e1:rtStep (g,o) b=(false,(if g=true/\o≠[] then o++[32] else o)++[low b]):=by simp[rtStep,hb]
   rw[e1];simp only[List.length_append,List.length_singleton];split<;>simp_all<;>omega
theorem nt_le (l:List UInt8):(nt l).length<=l.length:=by have:=zP0 l;unfold nt;omega
theorem zNc (l:List UInt8):(ntAll l).length<=l.length:=by
 have h:=zP0 l;rw[(nt_inv l).1];simp only[List.length_append];split<;>split at h<;>simp_all
theorem nt_nil (l:List UInt8):nt l=[]↔∀b∈l,b=32:=by
 unfold nt
 induction l using zC7 with
 | h0=>simp[rtAll]
 | h1 l b ih=>
  rw[zBa];generalize rtAll l=s at *;obtain⟨g,o⟩:=s;by_cases hb:b=32
  ·subst hb;have e1:rtStep (g,o) 32=(true,o):=by simp[rtStep]
   rw[e1];simp only at ih ⊢;rw[ih];simp only[List.mem_append,List.mem_singleton];constructor
   ·rintro h x (hx | hx)
    ·exact h x hx
    ·exact hx
   ·intro h x hx;exact h x (Or.inl hx)
  ·have e1:rtStep (g,o) b=(false,(if g=true/\o≠[] then o++[32] else o)++[low b]):=by simp[rtStep,hb]
   rw[e1];constructor
   ·intro h;simp at h
   ·intro h;exact absurd (h b (by simp)) hb
theorem nt_zero (l:List UInt8) (h:(0:UInt8) ∉ l):(0:UInt8) ∉ nt l:=by
 unfold nt
 induction l using zC7 with
 | h0=>simp[rtAll]
 | h1 l b ih=>
  rw[zBa];have ih':=ih (fun hh=>h (by simp[hh]));have hb0:low b≠0:=fun e=>h (by simp[(zNe b 0 (by decide)).1 e])
  generalize rtAll l=s at *;obtain⟨g,o⟩:=s;unfold rtStep;split
  ·exact ih'
  ·simp only[List.mem_append,List.mem_singleton,not_or];refine⟨?_,fun e=>hb0 e.symm⟩;split
   ·simp only[List.mem_append,List.mem_singleton,not_or];exact⟨ih',by decide⟩
   ·exact ih'
theorem nt_own (l:List UInt8):rtAll (nt l)=(false,nt l):=by
 unfold nt
 induction l using zC7 with
 | h0=>simp[rtAll]
 | h1 l b ih=>
  rw[zBa];generalize rtAll l=s at *;obtain⟨g,o⟩:=s;simp only at ih;by_cases hb:b=32
  ·subst hb;have e1:rtStep (g,o) 32=(true,o):=by simp[rtStep]
   rw[e1];exact ih
  ·have e1:rtStep (g,o) b=(false,(if g=true/\o≠[] then o++[32] else o)++[low b]):=by simp[rtStep,hb]
   have hl:low b≠32:=fun h=>hb ((zNe b 32 (by decide)).1 h)
   rw[e1];simp only;rw[zBa];split
   ·rename_i hg;rw[zBa,ih];have e2:rtStep (false,o) 32=(true,o):=by simp[rtStep]
    rw[e2];simp[rtStep,hl,hg.2,zQr]
   ·rw [ih];simp[rtStep,hl,zQr]
theorem nt_nt (l:List UInt8):nt (nt l)=nt l:=by
 have:=nt_own l;rw[nt,this]
def IsInt (l:List UInt8) (n:Int):Prop:=(-999999999999999999<=n/\n<=999999999999999999)/\l=Lib.itoa n
theorem zGo (b:UInt8) (w:World):
  Calls Tryz.prog 193 #[.int .u8 (b.toNat:Int)] w fun e w'=>e=.returned (.int .u8 ((low b).toNat:Int))/\w'=w:=by
 have hlt:=b.toNat_lt;have hl:=zEg b;generalize (low b).toNat=L at hl ⊢;generalize b.toNat=x at *;go_enter Tryz.func193,Tryz.ntmps193;by_cases h1:(65:Int)<=(x:Int)
 ·by_cases h2:(x:Int)<=90
  ·have e:L=x+32:=by rw[hl,if_pos (by omega)]
   subst e;clear hl;go_wp2;go_ret;refine⟨?_,rfl⟩;show Ending.returned (Value.int IntKind.u8 ((x:Int)-65+97))=Ending.returned (Value.int IntKind.u8 ((x+32:Nat):Int));congr 2;omega
  ·have e:L=x:=by rw[hl,if_neg (by omega)]
   subst e;clear hl;go_wp2;go_ret;exact⟨rfl,rfl⟩
 ·have e:L=x:=by rw[hl,if_neg (by omega)]
  subst e;clear hl;go_wp2;go_ret;exact⟨rfl,rfl⟩
theorem zNv {w wr:World} (h:∃k,wr=w.drewN k) (n:Nat):∃k,wr.drewN n=w.drewN k:=by
 obtain⟨k,rfl⟩:=h;exact⟨k+n,World.drewN_drewN _ _ _⟩
theorem zK5 {l:List UInt8} {i:Nat} {x:UInt8} (h:l[i]?=some x):(lows l)[i]?=some (low x):=by
 unfold lows;rw[List.getElem?_map,h];rfl
theorem zMb (a b:ByteArray) (h48:a.size<=281474976710656) (w:World):
  Calls Tryz.prog 155 #[.string a,.string b] w fun e w'=>e=.returned (.bool (decide (lows a.data.toList=lows b.data.toList)))/\∃k,w'=w.drewN k:=by
 have ha:=Lib.size_eq a;have hb:=Lib.size_eq b;by_cases hab:a.size=b.size
 ·have hz:((a.size:Int)==(b.size:Int))=true:=by simp[hab]
  have H:=hide (p:=a.size=b.size) hab;clear hab;replace ha:=hide ha;replace hb:=hide hb;go_enter Tryz.func155,Tryz.ntmps155;go_wp2
  go_loopg [13] a.size (fun g s13 wx=>∃i:Nat,i+g=a.size/\s13=.int .i64 (i:Int)/\Hid (∃k,wx=w.drewN k)/\∀j,j<i->(lows a.data.toList)[j]?=(lows b.data.toList)[j]?)
  case atStart=>exact⟨0,by omega,rfl,hide ⟨0,rfl⟩,fun j hj=>by omega⟩
  case round=>
   obtain⟨i,hig,rfl,hwr,hpre⟩:=hrel;replace hpre:=hide hpre;cases gk with
   | zero=>
    obtain rfl:i=a.size:=by omega
    have hiz:¬((a.size:Int)<(a.size:Int)):=(by omega);have hd:decide (lows a.data.toList=lows b.data.toList)=true:=by
     refine decide_eq_true ?_;refine List.ext_getElem? fun j=>?_
     by_cases hj:j<a.size
     ·exact hpre.out j hj
     ·rw [List.getElem?_eq_none (by rw[zA9,<-ha.out];omega),List.getElem?_eq_none (by rw[zA9,<-hb.out,<-H.out];omega)]
    replace hd:=hide hd;go_wp2;go_ret;exact⟨by rw[hd.out];rfl,hwr.out⟩
   | succ g=>
    have hi:i<a.size:=(by omega);have hj:i<b.size:=(by rw[<-H.out];exact hi);have hiz:(i:Int)<(a.size:Int):=(by omega);have hjz:(i:Int)<(b.size:Int):=(by omega);obtain⟨x,hx⟩:∃x:UInt8,a[i]'hi=x:=⟨_,rfl⟩;obtain⟨y,hy⟩:∃y:UInt8,b[i]'hj=y:=⟨_,rfl⟩;have Hx:=hide (zK5 (by rw[<-hx];exact Lib.data_getElem? a i hi:a.data.toList[i]?=some x));have Hy:=hide (zK5 (by rw[<-hy];exact Lib.data_getElem? b i hj:b.data.toList[i]?=some y));by_cases hxy:low x=low y
    ·have hne:(((low x).toNat:Int)!=((low y).toNat:Int))=false:=by rw[hxy];simp
     have hpre':Hid (∀j,j<i+1->(lows a.data.toList)[j]?=(lows b.data.toList)[j]?):=by
      refine hide fun j hj=>?_
      by_cases hj':j<i
      ·exact hpre.out j hj'
      ·obtain rfl:j=i:=by omega
       rw[Hx.out,Hy.out,hxy]
     have h1:=hide hxy;clear hxy hpre;go_wp2
     go_quiet (first | (go_at_call 193;refine Calls.quiet_of_same (zGo _ _)))
     go_wp2
     go_roundg g
     case measure=>omega
     case rel=>exact⟨i+1,by omega,by go_num,hide (zNv hwr.out _),hpre'.out⟩
    ·have hne:(((low x).toNat:Int)!=((low y).toNat:Int))=true:=by
      simp only[bne_iff_ne,ne_eq];intro e;exact hxy (zCp (by omega))
     have hd:decide (lows a.data.toList=lows b.data.toList)=false:=by
      refine decide_eq_false fun e=>hxy ?_
      have:=Hx.out;rw[e,Hy.out] at this;exact (Option.some.inj this).symm
     replace hd:=hide hd;clear hxy hpre;go_wp2
     go_quiet (first | (go_at_call 193;refine Calls.quiet_of_same (zGo _ _)))
     go_wp2;go_ret;exact⟨by rw[hd.out];rfl,zNv hwr.out _⟩
 ·have hz:((a.size:Int)==(b.size:Int))=false:=beq_false_of_ne (by omega);have hd:decide (lows a.data.toList=lows b.data.toList)=false:=by
   refine decide_eq_false fun h=>hab ?_
   have:=congrArg List.length h;rw[zA9,zA9] at this;omega
  go_enter Tryz.func155,Tryz.ntmps155;replace hd:=hide hd;clear hab ha hb;go_wp2;go_ret;exact⟨by rw[hd.out];rfl,0,rfl⟩
structure Row8 (w:World) (g:Nat) (l:List UInt8):Prop where
 at_:∀(j:Nat) (x:UInt8),l[j]?=some x->w.cell? ⟨g,j,none⟩=some (.int .u8 (x.toNat:Int))
 fz:∀j:Nat,j<l.length->w.frozen? ⟨g,j,none⟩=false
 lt:g<w.heap.size
theorem Row8.set {w:World} {g:Nat} {l:List UInt8} (h:Row8 w g l) {j:Nat} (hj:j<l.length) (x:UInt8):Row8 (w.setCell ⟨g,j,none⟩ (.int .u8 (x.toNat:Int))) g (l.set j x):=by
 refine⟨fun k y hy=>?_,fun k hk=>?_,by simpa using h.lt⟩
 ·by_cases hkj:k=j
  ·subst hkj;rw[List.getElem?_set_self hj] at hy;obtain rfl:=Option.some.inj hy;exact World.cell?_setCell_same _ _ _ (h.at_ k _ (List.getElem?_eq_getElem hj))
  ·rw [List.getElem?_set_ne (fun e=>hkj e.symm)] at hy;rw[World.cell?_setCell_other _ _ _ _ (by intro e;injection e with _ e;exact hkj e.symm)];exact h.at_ k y hy
 ·rw [World.frozen?_setCell];exact h.fz k (by simpa using hk)
theorem Row8.has {w:World} {g:Nat} {l:List UInt8} (h:Row8 w g l):Has w (g+1) 1 (some ⟨g,0,none⟩) l.length (bys l):=by
 refine⟨by rw[zEq];omega,.inr ⟨_,rfl,by simp,fun j u hu=>?_⟩⟩;unfold bys at hu;rw[List.getElem?_map] at hu;cases hx:l[j]? with
 | none=>rw[hx] at hu;cases hu
 | some x=>
  rw[hx] at hu;obtain rfl:=Option.some.inj hu;have:(⟨g,0,none⟩:Addr).add j=⟨g,j,none⟩:=by unfold Addr.add;split<;>simp_all
  rw[this];exact h.at_ j x hx
theorem zOa {P:Program} (w:World) (s:ByteArray) (src dst e:TypeId) (hs:P.underlying src=some .string) (hd:P.underlying dst=some (.slice e)) (he:P.underlying e=some (.int .u8)):
  ∃cap w',(convert src dst (.string s)).run P w=.ok (.slice (some ⟨w.heap.size,0,none⟩) s.size cap) w'/\Row8 w' w.heap.size s.data.toList/\Below w.heap.size w w':=by
 refine⟨_,_,run_bytes_of_string w src dst e s hs hd he,?_,?_⟩
 ·refine ⟨fun j x hx=>?_,fun j hj=>?_,?_⟩
  ·have hj:j<s.data.size:=by
    have:=(List.getElem?_eq_some_iff.1 hx).1;simpa using this
   have e1:=World.cell?_alloc_mark w.drew (bytesRow s (grownCap w s.size 0 e)) e ((bytesRow s (grownCap w s.size 0 e)).size,(bytesRow s (grownCap w s.size 0 e)).size+1) j;refine e1.trans ?_;rw[bytesRow_at s _ j hj];have hx':s.data[j]=x:=by have:=(List.getElem?_eq_some_iff.1 hx).2;simpa using this
   rw[hx']
  ·have hj':j<s.data.size:=by simpa using hj
   have hsz:j<(bytesRow s (grownCap w s.size 0 e)).size:=by rw[bytesRow,Array.size_append,Array.size_map];omega
   have e1:=World.frozen?_alloc_mark w.drew (bytesRow s (grownCap w s.size 0 e)) e (bytesRow s (grownCap w s.size 0 e)).size ((bytesRow s (grownCap w s.size 0 e)).size+1) j;refine e1.trans ?_;rw[decide_eq_false (by omega)];rfl
  ·simp
 ·exact (Below.refl _ w).drew.alloc (by simp) _
theorem zPt {l:List UInt8} {i:Nat} {x:UInt8} (h:l[i]?=some x):lows (l.take (i+1))++l.drop (i+1)=(lows (l.take i)++l.drop i).set i (low x)/\(lows (l.take i)++l.drop i)[i]?=some x:=by
 have hi:=(List.getElem?_eq_some_iff.1 h).1;have hx:=(List.getElem?_eq_some_iff.1 h).2;have e1:l.drop i=x::l.drop (i+1):=by rw[List.drop_eq_getElem_cons hi,hx]
 have e2:(lows (l.take i)).length=i:=by rw[zA9,List.length_take];omega
 have e3:l.take (i+1)=l.take i++[x]:=by rw[List.take_add_one,h];rfl
 rw[e1,e3];refine⟨?_,?_⟩
 ·rw [List.set_append,if_neg (by omega),e2,Nat.sub_self];simp[lows]
 ·rw [List.getElem?_append_right (by omega),e2,Nat.sub_self];rfl
theorem zKd (s:ByteArray) (h48:s.size<=281474976710656) (w:World):
  Calls Tryz.prog 163 #[.string s] w fun e w'=>e=.returned (.string (txt (lows s.data.toList)))/\Below w.heap.size w w':=by
 obtain⟨cap,w1,hrun,hR,hb⟩:=zOa (P:=Tryz.prog) w s 9 160 5 Tryz.underlying9 Tryz.underlying160 Tryz.underlying5;have hL:=hide (Lib.size_eq s);generalize hl:s.data.toList=l at *;replace hl:=hide hl;generalize hg:w.heap.size=g at *;go_enter Tryz.func163,Tryz.ntmps163;go_wp2
 go_loopg [9] s.size (fun k s9 wx=>∃i:Nat,i+k=s.size/\s9=.int .i64 (i:Int)/\Row8 wx g (lows (l.take i)++l.drop i)/\Below g w wx)
 case atStart=>exact⟨0,by omega,rfl,by simpa[lows] using hR,hb⟩
 case round=>
  obtain⟨i,hig,rfl,hR1,hb1⟩:=hrel;clear hR hb hrun;cases gk with
  | zero=>
   obtain rfl:i=s.size:=by omega
   have hiz:¬((s.size:Int)<(s.size:Int)):=by omega
   have hR2:Row8 wr g (lows l):=by rw[hL.out] at hR1;simpa using hR1
   have hn:(lows l).length=s.size:=by rw[zA9,hL.out]
   have ht:=zSj (P:=Tryz.prog) wr (c:=cap) hR2.has 160 9 5 Tryz.underlying160 Tryz.underlying5 Tryz.underlying9;rw[hn] at ht;go_wp2;go_ret;exact⟨rfl,hb1⟩
  | succ k=>
   have hi:i<s.size:=by omega
   have hiz:(i:Int)<(s.size:Int):=by omega
   have hil:i<l.length:=by rw[<-hL.out];exact hi
   obtain⟨x,hx⟩:∃x,l[i]?=some x:=⟨_,List.getElem?_eq_getElem hil⟩;obtain⟨e1,e2⟩:=zPt hx;have hc:=hR1.at_ i x e2;have hf:=hR1.fz i (by have:=(List.getElem?_eq_some_iff.1 e2).1;exact this);have hset:=hR1.set (j:=i) (by have:=(List.getElem?_eq_some_iff.1 e2).1;exact this) (low x);rw[<-e1] at hset;have hb2:=hb1.setCell (p:=⟨g,i,none⟩) (by simp) (.int .u8 ((low x).toNat:Int));have hl:=zEg x;have hlt:=x.toNat_lt;have hsame:low x=x->Row8 wr g (lows (l.take (i+1))++l.drop (i+1)):=by
    intro hx';rw[e1,hx'];have:=(List.getElem?_eq_some_iff.1 e2);have e3:(lows (l.take i)++l.drop i).set i x=lows (l.take i)++l.drop i:=by
     conv=>lhs;rw[<-this.2]
     exact List.set_getElem_self this.1
    rw[e3];exact hR1
   have hlow:¬(65<=x.toNat/\x.toNat<=90)->low x=x:=by intro h;unfold low;rw[if_neg h]
   clear e1 e2 hR1;by_cases h1:(65:Int)<=(x.toNat:Int)
   ·by_cases h2:(x.toNat:Int)<=90
    ·have e:((low x).toNat:Int)=(x.toNat:Int)+32:=by rw[hl,if_pos (by omega)];omega
     rw[e] at hset hb2;clear hl e hsame hlow;go_wp2
     go_roundg k
     case measure=>omega
     case rel=>exact⟨i+1,by omega,by go_num,hset,hb2⟩
    ·have hR2:=hsame (hlow (by omega));clear hl hset hb2 hsame hlow;go_wp2
     go_roundg k
     case measure=>omega
     case rel=>exact⟨i+1,by omega,by go_num,hR2,hb1⟩
   ·have hR2:=hsame (hlow (by omega));clear hl hset hb2 hsame hlow;go_wp2
    go_roundg k
    case measure=>omega
    case rel=>exact⟨i+1,by omega,by go_num,hR2,hb1⟩
open Go.RowKit Go.Lib
def tabCells:List Value:=tab.flatMap fun e=>[.string (txt e.1),.int .i64 e.2]
structure Types (w:World):Prop where
 var:w.var? Tryz.prog "verger/rule.types" =some tabCells.toArray
theorem Types.below {w w':World} (h:Types w) (hb:Below w.heap.size w w'):Types w':=
 ⟨Joins.var_stays (g:=0) (by kernel_rfl) h.var hb (Nat.le_refl _)⟩
def typesData:DataW Unit:=.agg (tab.map fun e=>.agg [.lit (.string e.1),.lit (.int .i64 e.2)])
theorem types_eq:Rows.laid_verger_rule_types (H:=Unit)=typesData:=by kernel_rfl
theorem zGf {α:Type}:∀(l:List (List α)) (k:Nat),(∀x∈l,x.length=k)->∀(i:Nat) (x:List α),l[i]?=some x->((l.flatten).drop (i*k)).take k=x
 | [],_,_,_,_,h=>by simp at h
 | y::r,k,hl,0,x,h=>by
  simp only[List.getElem?_cons_zero,Option.some.injEq] at h;subst h;have:=hl y (by simp);simp[<-this]
 | y::r,k,hl,i+1,x,h=>by
  simp only[List.getElem?_cons_succ] at h;have:=hl y (by simp);have e:(i+1)*k=y.length+i*k:=by rw[Nat.add_mul,this];omega
  rw[List.flatten_cons,e,<-List.drop_drop,List.drop_left']
  ·exact zGf r k (fun x hx=>hl x (by simp[hx])) i x h
  ·rfl
theorem zJx {α:Type}:∀(n:Nat) (a b:List α),a.length=n*2->b.length=n*2->(∀i,i<n->(a.drop (i*2)).take 2=(b.drop (i*2)).take 2)->a=b
 | 0,a,b,ha,hb,_=>by
  have e1:a=[]:=List.length_eq_zero_iff.1 (by omega);have e2:b=[]:=List.length_eq_zero_iff.1 (by omega);rw[e1,e2]
 | n+1,a,b,ha,hb,h=>by
  have h0:=h 0 (by omega);simp only[Nat.zero_mul,List.drop_zero] at h0;have ht:a.drop 2=b.drop 2:=by
   refine zJx n _ _ (by rw[List.length_drop];omega) (by rw[List.length_drop];omega) fun i hi=>?_
   have:=h (i+1) (by omega);rw[List.drop_drop,List.drop_drop];rw[show 2+i*2=(i+1)*2 by omega];exact this
  rw[<-List.take_append_drop 2 a,<-List.take_append_drop 2 b,h0,ht]
theorem two_ext {α:Type} {l:List α} {a b:α} (h:l.length=2) (h0:(l.drop 0).take 1=[a]) (h1:(l.drop 1).take 1=[b]):l=[a,b]:=by
 match l,h with
 | [x,y],_=>
  simp at h0 h1;rw[h0,h1]
theorem zCy (s:ByteArray) (l:List UInt8) (h:s.data.toList=l):s=txt l:=by
 subst h;exact ByteArray.ext (Array.ext' (by simp[txt]))
theorem zEj {W:World} (h:laidMet Tryz.prog laid W):Types W:=by
 have h':laidMet Tryz.prog (_::_::_::_::_::_::_::_::[]) W:=h;have hr:VarReads Tryz.prog W "verger/rule.types" typesData:=types_eq ▸ Lib.laidMet.reads h' (by simp)
 obtain⟨g,t,cs,fuel,p,hg,hty,hvar,hd⟩:=hr;obtain rfl:=Option.some.inj ((show Tryz.prog.globalNamed "verger/rule.types" =some 0 by kernel_rfl).symm.trans hg)
 obtain rfl:=Option.some.inj ((show (Tryz.prog.globals[0]?).map (·.type)=some 194 by kernel_rfl).symm.trans hty);refine⟨?_⟩;rw[hvar];congr 1;obtain⟨xs,m,rfl,hx,hl,hxl,hall⟩:=DataW.trod_array Tryz.underlying194 hd;have hxs:xs.map (·.1)=tab.map fun e=>(DataW.agg [.lit (.string e.1),.lit (.int .i64 e.2)]:DataW Unit):=by have:=congrArg Prod.fst hx;simpa[typesData] using this.symm
 have hlen:cs.toList.length=28:=by rw[hl];kernel_rfl
 refine Array.ext' ?_;refine zJx 14 _ _ hlen (by simp[tabCells,tab]) fun i hi=>?_
 have h1:=hall i hi;have hc2:Tryz.prog.cellsOf 193=2:=by kernel_rfl
 rw[hc2] at h1;have hit:i<tab.length:=by simpa[tab] using hi
 obtain⟨e,he⟩:∃e,tab[i]?=some e:=⟨_,List.getElem?_eq_getElem hit⟩;obtain⟨b,hb⟩:∃b,xs[i]?=some b:=⟨xs[i]'(by omega),List.getElem?_eq_getElem (by omega)⟩;rw[hb] at h1;have hb1:b.1=.agg [.lit (.string e.1),.lit (.int .i64 e.2)]:=by
  have:(xs.map (·.1))[i]?=some b.1:=by simp[hb]
  rw[hxs] at this;simpa[he] using this.symm
 generalize hcut:(cs.toList.drop (i*2)).take 2=cut at h1;have hR:(tabCells.toArray.toList.drop (i*2)).take 2=[.string (txt e.1),.int .i64 e.2]:=by
  have:=zGf (tab.map fun e=>[Value.string (txt e.1),.int .i64 e.2]) 2 (by intro x hx;obtain⟨e',_,rfl⟩:=List.mem_map.1 hx;rfl) i [.string (txt e.1),.int .i64 e.2] (by simp[he]);simpa[tabCells,List.flatMap] using this
 rw[hR];obtain⟨ys,n,rfl,hy,hyl,hyl2,hyall⟩:=DataW.trod_struct Tryz.underlying193 h1;have hys:ys.map (·.1)=[.lit (.string e.1),.lit (.int .i64 e.2)]:=by
  have:=congrArg Prod.fst hy;rw[hb1] at this;simpa using this.symm
 obtain⟨y0,y1,rfl⟩:∃y0 y1,ys=[y0,y1]:=by
  match ys,hys with
  | [y0,y1],_=>exact⟨y0,y1,rfl⟩
 simp only[List.map_cons,List.map_nil,List.cons.injEq,and_true] at hys;have f0:=hyall 0 _ rfl;have f1:=hyall 1 _ rfl;change DataW.trod _ _ _ _ _ _ _ 9 ((cut.drop 0).take (Tryz.prog.cellsOf 9))=some y0 at f0;change DataW.trod _ _ _ _ _ _ _ 3 ((cut.drop 1).take (Tryz.prog.cellsOf 3))=some y1 at f1;rw[show Tryz.prog.cellsOf 9=1 by kernel_rfl] at f0;rw[show Tryz.prog.cellsOf 3=1 by kernel_rfl] at f1;obtain⟨s,hs,rfl,_⟩:=DataW.trod_string Tryz.underlying9 f0;obtain⟨z,hz,rfl,_⟩:=DataW.trod_int Tryz.underlying3 f1;obtain⟨hs1,hz1⟩:=hys;simp only[DataW.lit.injEq,Lit.string.injEq,Lit.int.injEq,true_and] at hs1 hz1;have hcl:cut.length=2:=by rw[hyl];kernel_rfl
 rw[two_ext hcl hs hz,hz1,zCy s e.1 hs1]
theorem tab_cell {w:World} (hT:Types w) (j:Nat) (v:Value) (hv:tabCells[j]?=some v):w.cell? ⟨0,j,none⟩=some v:=by
 have:=World.var?_cell (show Tryz.prog.globalNamed "verger/rule.types" =some 0 by kernel_rfl) hT.var j
 rw[this];simpa using hv
theorem typ_hit {l n:List UInt8} {s:Int} {i:Nat} (h:tab[i]?=some (n,s)) (hl:lows n=lows l) (hpre:∀(j:Nat) (e:List UInt8 × Int),j<i->tab[j]?=some e->lows e.1≠lows l):typ l=(n,s):=by
 have key:∀(t:List (List UInt8 × Int)) (i:Nat),t[i]?=some (n,s)->(∀(j:Nat) (e:List UInt8 × Int),j<i->t[j]?=some e->lows e.1≠lows l)->typL (lows l) t=(n,s):=by
  intro t
  induction t with
  | nil=>intro i h;simp at h
  | cons e r ih=>
   intro i h hp;cases i with
   | zero=>
    simp only[List.getElem?_cons_zero,Option.some.injEq] at h;subst h;unfold typL;rw[if_pos hl]
   | succ i=>
    unfold typL;rw[if_neg (hp 0 e (by omega) rfl)];exact ih i (by simpa using h) fun j e' hj he'=>hp (j+1) e' (by omega) (by simpa using he')
 exact key tab i h hpre
theorem typ_miss {l:List UInt8} (hpre:∀(j:Nat) (e:List UInt8 × Int),j<14->tab[j]?=some e->lows e.1≠lows l):typ l=([],0):=by
 have key:∀(t:List (List UInt8 × Int)),(∀(j:Nat) (e:List UInt8 × Int),t[j]?=some e->lows e.1≠lows l)->typL (lows l) t=([],0):=by
  intro t
  induction t with
  | nil=>intro _;rfl
  | cons e r ih=>
   intro hp;unfold typL;rw[if_neg (hp 0 e rfl)];exact ih fun j e' he'=>hp (j+1) e' (by simpa using he')
 refine key tab fun j e he=>hpre j e ?_ he
 have:=(List.getElem?_eq_some_iff.1 he).1;simpa[tab] using this
theorem belowA (w:World) (o:Obj):Below w.heap.size w (w.alloc o):=(Below.refl _ w).alloc (Nat.le_refl _) _
structure Entry (s:ByteArray) (n:ByteArray) (b:Bool):Prop where
 run:∀w,Calls Tryz.prog 155 #[.string n,.string s] w fun e w'=>e=.returned (.bool b)/\∃k,w'=w.drewN k
theorem entry_of (s:ByteArray) (l:List UInt8) (h:l.length<100):Entry s (txt l) (decide (lows l=lows s.data.toList)):=by
 refine⟨fun w=>?_⟩;have hsz:(txt l).size<=281474976710656:=by
  have h1:=Lib.size_eq (txt l);rw[zAf] at h1;omega
 have:=zMb (txt l) s hsz w;rw[zAf] at this;exact this
structure First (T:List (ByteArray × Int × Bool)) (n:ByteArray) (x:Int):Prop where
 hit:∀(i:Nat) (e:ByteArray × Int × Bool),T[i]?=some e->e.2.2=true->(∀(j:Nat) (e:ByteArray × Int × Bool),j<i->T[j]?=some e->e.2.2=false)->e.1=n/\e.2.1=x
 miss:(∀(j:Nat) (e:ByteArray × Int × Bool),j<14->T[j]?=some e->e.2.2=false)->n=⟨#[]⟩/\x=0
theorem zIo (C:Array Value) (i:Nat) (hi:i<14) (u v:Value) (hc:(C.toList.drop (i*2)).take 2=[u,v]) (w:World):
  (Instr.index 194 (.agg C) (.int .i64 (i:Int))).run Tryz.prog w=.ok (.agg #[u,v]) w:=by
 have hn:(0:Int)<=(i:Int)/\(i:Int)<14:=by omega
 have hI:(Tryz.prog.info? 193).map (·.size)=some 2:=by kernel_rfl
 have hS:=Tryz.underlying193;have hA:=Tryz.underlying194;cases hq:Tryz.prog.info? 193 with
 | none=>simp[hq] at hI
 | some inf=>
  have hs:inf.size=2:=by simpa[hq] using hI
  simp[Instr.index,run_underlying hA,run_underlying hS,asIntOf,hn,sizeOf,typeInfo,hq,hs,isAgg,go_sem];rw[if_pos hi];have e:C.extract (i*2) (i*2+2)=#[u,v]:=by
   refine Array.ext' ?_;rw[Array.toList_extract];simp only[List.extract];rw[show i*2+2-i*2=2 by omega,hc]
  rw[e]
theorem zSc (s:ByteArray) (w:World) (Cl:List Value) (T:List (ByteArray × Int × Bool)) (n:ByteArray) (x:Int) (hlen:T.length=14)
  (hc:w.rangeAt 0 0 Cl) (hi28:(Tryz.prog.info? 194).map (·.size)=some Cl.length)
  (hix:∀(i:Nat) (e:ByteArray × Int × Bool),T[i]?=some e->∀w,(Instr.index 194 (.agg Cl.toArray) (.int .i64 (i:Int))).run Tryz.prog w=.ok (.agg #[.string e.1,.int .i64 e.2.1]) w)
  (hE:∀(i:Nat) (e:ByteArray × Int × Bool),T[i]?=some e->Entry s e.1 e.2.2) (HF:First T n x):
  Calls Tryz.prog 104 #[.string s] w fun e w'=>e=.returned (.tuple #[.string n,.int .i64 x])/\Below w.heap.size w w':=by
 replace hix:=hide hix;replace hE:=hide hE;replace hlen:=hide hlen;go_enter Tryz.func104,Tryz.ntmps104;replace hi28:=hide hi28;generalize hC:Cl.toArray=C at hix;replace hC:=hide hC;have hld:∀{ops:Array Oper} {rest:List Oper} {op:Oper} {a:Act} {Q:Exit->Act->World->Prop},op.guard=none->op.op=.load 194 (.global 0)->
   wpList Tryz.prog ops Q rest (a.put op.dst (.agg C)) w->wpList Tryz.prog ops Q (op::rest) a w:=by
  intro ops rest op a Q h1 h2 h3;refine wpList_load_mid h1 _ _ h2 0 0 rfl Cl _ hc Tryz.underlying194 rfl hi28.out ?_;rw[hC.out];exact h3
 clear hi28 hc;go_wp2_with (refine hld rfl rfl ?_);clear hld
 go_loopg [7] 14 (fun k s7 wx=>∃i:Nat,i+k=14/\s7=.int .i64 (i:Int)/\Below w.heap.size w wx/\Hid (∀(j:Nat) (e:ByteArray × Int × Bool),j<i->T[j]?=some e->e.2.2=false))
 case atStart=>exact⟨0,by omega,rfl,Below.refl _ _,hide fun j e hj=>by omega⟩
 case round=>
  obtain⟨i,hig,rfl,hb,hpre⟩:=hrel;cases gk with
  | zero=>
   obtain rfl:i=14:=by omega
   obtain⟨rfl,rfl⟩:=HF.miss hpre.out;clear HF hpre hix hE hlen;go_wp2;go_ret2;exact⟨rfl,hb⟩
  | succ k=>
   have hi:i<14:=by omega
   have hiz:(i:Int)<14:=by omega
   obtain⟨⟨N,y,b⟩,he⟩:∃e,T[i]?=some e:=⟨_,List.getElem?_eq_getElem (by rw[hlen.out];exact hi)⟩;have hx:=hix.out i _ he;have hr:=(hE.out i _ he).run;simp only at hx hr;have He:=hide he;clear he hix hE hlen;cases b with
   | true=>
    obtain⟨h1,h2⟩:=HF.hit i _ He.out rfl hpre.out;simp only at h1 h2;subst h1 h2;clear HF hpre He;go_wp2_with (go_at_call 155;fail);refine (hr _).mono ?_;rintro e w1 ⟨rfl,q,rfl⟩;go_wp2
    go_quiet (fail)
    go_wp2;go_ret2;exact⟨rfl,Below.drewN (Below.drewN (hb.trans ((belowA wr _).mono hb.size)) _) _⟩
   | false=>
    have hpre2:Hid (∀(j:Nat) (e:ByteArray × Int × Bool),j<i+1->T[j]?=some e->e.2.2=false):=by
     refine hide fun j e hj hje=>?_
     by_cases h:j=i
     ·subst h;rw[He.out] at hje;obtain rfl:=Option.some.inj hje;rfl
     ·exact hpre.out j e (by omega) hje
    clear HF hpre He;go_wp2_with (go_at_call 155;fail);refine (hr _).mono ?_;rintro e w1 ⟨rfl,q,rfl⟩;go_wp2
    go_roundg k
    case measure=>omega
    case rel=>exact⟨i+1,by omega,by go_num,Below.drewN (hb.trans ((belowA wr _).mono hb.size)) _,hpre2⟩
theorem txt_nil:txt []=⟨#[]⟩:=rfl
theorem zRb (l:List UInt8):First (tab.map fun e=>(txt e.1,e.2,decide (lows e.1=lows l))) (txt (typ l).1) (typ l).2:=by
 refine⟨fun i e he hb hp=>?_,fun hp=>?_⟩
 ·rw [List.getElem?_map] at he;cases hx:tab[i]? with
  | none=>rw[hx] at he;cases he
  | some d=>
   rw[hx] at he;obtain rfl:=Option.some.inj he;have hb':lows d.1=lows l:=by simpa using hb
   have:=typ_hit (n:=d.1) (s:=d.2) (i:=i) hx hb' fun j e hj hje=>by
    have:=hp j _ hj (by rw[List.getElem?_map,hje];rfl);simpa using this
   rw[this];exact⟨rfl,rfl⟩
 ·have:=typ_miss (l:=l) fun j e hj hje=>by
   have:=hp j _ hj (by rw[List.getElem?_map,hje];rfl);simpa using this
  rw[this];exact⟨txt_nil,rfl⟩
theorem zSh:∀e∈tab,e.1.length<100:=by decide
theorem zB1 (s:ByteArray) (w:World) (hT:Types w):
  Calls Tryz.prog 104 #[.string s] w fun e w'=>e=.returned (.tuple #[.string (txt (typ s.data.toList).1),.int .i64 (typ s.data.toList).2])/\Below w.heap.size w w':=by
 refine zSc s w tabCells (tab.map fun e=>(txt e.1,e.2,decide (lows e.1=lows s.data.toList))) _ _ (by simp[tab]) (fun j v hv=>?_) (by kernel_rfl) (fun i e he w=>?_) (fun i e he=>?_) (zRb _)
 ·rw [Nat.zero_add];exact tab_cell hT j v hv
 ·rw [List.getElem?_map] at he;cases hx:tab[i]? with
  | none=>rw[hx] at he;cases he
  | some d=>
   rw[hx] at he;obtain rfl:=Option.some.inj he;refine zIo tabCells.toArray i ?_ _ _ ?_ w
   ·have:=(List.getElem?_eq_some_iff.1 hx).1;simpa[tab] using this
   ·have:=zGf (tab.map fun e=>[Value.string (txt e.1),.int .i64 e.2]) 2 (by intro x hx;obtain⟨e',_,rfl⟩:=List.mem_map.1 hx;rfl) i [.string (txt d.1),.int .i64 d.2] (by simp[hx]);simpa[tabCells,List.flatMap] using this
 ·rw [List.getElem?_map] at he;cases hx:tab[i]? with
  | none=>rw[hx] at he;cases he
  | some d=>
   rw[hx] at he;obtain rfl:=Option.some.inj he;exact entry_of s d.1 (zSh d (List.mem_of_getElem? hx))
theorem typ_0 {l:List UInt8} (h:lows l=[111,98,106,101,99,116,99,108,97,115,115]):typ l=([111,98,106,101,99,116,67,108,97,115,115],1):=by unfold typ;rw[h];decide
theorem typ_1 {l:List UInt8} (h:lows l=[99,110]):typ l=([99,110],1):=by unfold typ;rw[h];decide
theorem typ_2 {l:List UInt8} (h:lows l=[111,117]):typ l=([111,117],1):=by unfold typ;rw[h];decide
theorem typ_3 {l:List UInt8} (h:lows l=[111]):typ l=([111],1):=by unfold typ;rw[h];decide
theorem typ_4 {l:List UInt8} (h:lows l=[100,99]):typ l=([100,99],1):=by unfold typ;rw[h];decide
theorem typ_5 {l:List UInt8} (h:lows l=[117,105,100]):typ l=([117,105,100],1):=by unfold typ;rw[h];decide
theorem typ_6 {l:List UInt8} (h:lows l=[100,101,115,99,114,105,112,116,105,111,110]):typ l=([100,101,115,99,114,105,112,116,105,111,110],1):=by unfold typ;rw[h];decide
theorem typ_7 {l:List UInt8} (h:lows l=[109,97,105,108]):typ l=([109,97,105,108],1):=by unfold typ;rw[h];decide
theorem typ_8 {l:List UInt8} (h:lows l=[117,115,101,114,112,97,115,115,119,111,114,100]):typ l=([117,115,101,114,80,97,115,115,119,111,114,100],2):=by unfold typ;rw[h];decide
theorem typ_9 {l:List UInt8} (h:lows l=[114,101,102]):typ l=([114,101,102],2):=by unfold typ;rw[h];decide
theorem typ_10 {l:List UInt8} (h:lows l=[115,101,114,105,97,108,110,117,109,98,101,114]):typ l=([115,101,114,105,97,108,78,117,109,98,101,114],3):=by unfold typ;rw[h];decide
theorem typ_11 {l:List UInt8} (h:lows l=[112,111,115,105,116,105,111,110]):typ l=([112,111,115,105,116,105,111,110],4):=by unfold typ;rw[h];decide
theorem typ_12 {l:List UInt8} (h:lows l=[97,108,105,97,115,101,100,111,98,106,101,99,116,110,97,109,101]):typ l=([97,108,105,97,115,101,100,79,98,106,101,99,116,78,97,109,101],5):=by unfold typ;rw[h];decide
theorem typ_13 {l:List UInt8} (h:lows l=[109,101,109,98,101,114]):typ l=([109,101,109,98,101,114],5):=by unfold typ;rw[h];decide
theorem typ_none {l L:List UInt8} (h:lows l=L)
  (h0:(L==[111,98,106,101,99,116,99,108,97,115,115])=false)
  (h1:(L==[99,110])=false)
  (h2:(L==[111,117])=false)
  (h3:(L==[111])=false)
  (h4:(L==[100,99])=false)
  (h5:(L==[117,105,100])=false)
  (h6:(L==[100,101,115,99,114,105,112,116,105,111,110])=false)
  (h7:(L==[109,97,105,108])=false)
  (h8:(L==[117,115,101,114,112,97,115,115,119,111,114,100])=false)
  (h9:(L==[114,101,102])=false)
  (h10:(L==[115,101,114,105,97,108,110,117,109,98,101,114])=false)
  (h11:(L==[112,111,115,105,116,105,111,110])=false)
  (h12:(L==[97,108,105,97,115,101,100,111,98,106,101,99,116,110,97,109,101])=false)
  (h13:(L==[109,101,109,98,101,114])=false)
  :typ l=([],0):=by
 unfold typ;rw[h];unfold tab;rw[typL,if_neg (fun e=>by rw[<-e] at h0;exact absurd h0 (by decide))];rw[typL,if_neg (fun e=>by rw[<-e] at h1;exact absurd h1 (by decide))];rw[typL,if_neg (fun e=>by rw[<-e] at h2;exact absurd h2 (by decide))];rw[typL,if_neg (fun e=>by rw[<-e] at h3;exact absurd h3 (by decide))];rw[typL,if_neg (fun e=>by rw[<-e] at h4;exact absurd h4 (by decide))];rw[typL,if_neg (fun e=>by rw[<-e] at h5;exact absurd h5 (by decide))];rw[typL,if_neg (fun e=>by rw[<-e] at h6;exact absurd h6 (by decide))];rw[typL,if_neg (fun e=>by rw[<-e] at h7;exact absurd h7 (by decide))];rw[typL,if_neg (fun e=>by rw[<-e] at h8;exact absurd h8 (by decide))];rw[typL,if_neg (fun e=>by rw[<-e] at h9;exact absurd h9 (by decide))];rw[typL,if_neg (fun e=>by rw[<-e] at h10;exact absurd h10 (by decide))];rw[typL,if_neg (fun e=>by rw[<-e] at h11;exact absurd h11 (by decide))];rw[typL,if_neg (fun e=>by rw[<-e] at h12;exact absurd h12 (by decide))];rw[typL,if_neg (fun e=>by rw[<-e] at h13;exact absurd h13 (by decide))];rfl
theorem zB8 (s:ByteArray) (h48:s.size<=281474976710656) (w:World):
  Calls Tryz.prog 118 #[.string s] w fun e w'=>e=.returned (.tuple #[.string (txt (typ s.data.toList).1),.int .i64 (typ s.data.toList).2])/\Below w.heap.size w w':=by
 have hW:=fun w=>zKd s h48 w
 generalize hl:s.data.toList=l at *;replace hl:=hide hl;obtain⟨L,hL⟩:∃L,lows l=L:=⟨_,rfl⟩;rw[hL] at hW;obtain⟨S,hS0⟩:∃S,txt L=S:=⟨_,rfl⟩;have hSl:S.toList=L:=by rw[<-hS0];exact zAb L
 rw[hS0] at hW;have hLL:=hide hL;by_cases q0:L=[111,98,106,101,99,116,99,108,97,115,115]
 ·have ht:=hide (typ_0 (hL.trans q0));have hS:Hid (S=txt [111,98,106,101,99,116,99,108,97,115,115]):=hide (by rw[<-hS0,q0]);have e0:(S.toList==[111,98,106,101,99,116,99,108,97,115,115])=true:=by rw[hSl,q0];rfl
  clear hL hLL hS0 hSl q0;go_enter Tryz.func118,Tryz.ntmps118;go_wp2_with (go_at_call 163;fail);refine (hW _).mono ?_;rintro e w1 ⟨rfl,hb⟩;go_wp2;go_ret2;exact⟨by rw[ht.out];rfl,hb⟩
 have e0:(S.toList==[111,98,106,101,99,116,99,108,97,115,115])=false:=by rw[hSl];exact beq_false_of_ne q0
 by_cases q1:L=[99,110]
 ·have ht:=hide (typ_1 (hL.trans q1));have hS:Hid (S=txt [99,110]):=hide (by rw[<-hS0,q1]);have e1:(S.toList==[99,110])=true:=by rw[hSl,q1];rfl
  clear hL hLL hS0 hSl q1;go_enter Tryz.func118,Tryz.ntmps118;go_wp2_with (go_at_call 163;fail);refine (hW _).mono ?_;rintro e w1 ⟨rfl,hb⟩;go_wp2_with (go_at_call 163;fail);refine (hW _).mono ?_;rintro e w2 ⟨rfl,hb2⟩;go_wp2;go_ret2;exact⟨by rw[ht.out,hS.out];rfl,hb.trans (hb2.mono hb.size)⟩
 have e1:(S.toList==[99,110])=false:=by rw[hSl];exact beq_false_of_ne q1
 by_cases q2:L=[111,117]
 ·have ht:=hide (typ_2 (hL.trans q2));have hS:Hid (S=txt [111,117]):=hide (by rw[<-hS0,q2]);have e2:(S.toList==[111,117])=true:=by rw[hSl,q2];rfl
  clear hL hLL hS0 hSl q2;go_enter Tryz.func118,Tryz.ntmps118;go_wp2_with (go_at_call 163;fail);refine (hW _).mono ?_;rintro e w1 ⟨rfl,hb⟩;go_wp2_with (go_at_call 163;fail);refine (hW _).mono ?_;rintro e w2 ⟨rfl,hb2⟩;go_wp2;go_ret2;exact⟨by rw[ht.out,hS.out];rfl,hb.trans (hb2.mono hb.size)⟩
 have e2:(S.toList==[111,117])=false:=by rw[hSl];exact beq_false_of_ne q2
 by_cases q3:L=[111]
 ·have ht:=hide (typ_3 (hL.trans q3));have hS:Hid (S=txt [111]):=hide (by rw[<-hS0,q3]);have e3:(S.toList==[111])=true:=by rw[hSl,q3];rfl
  clear hL hLL hS0 hSl q3;go_enter Tryz.func118,Tryz.ntmps118;go_wp2_with (go_at_call 163;fail);refine (hW _).mono ?_;rintro e w1 ⟨rfl,hb⟩;go_wp2_with (go_at_call 163;fail);refine (hW _).mono ?_;rintro e w2 ⟨rfl,hb2⟩;go_wp2;go_ret2;exact⟨by rw[ht.out,hS.out];rfl,hb.trans (hb2.mono hb.size)⟩
 have e3:(S.toList==[111])=false:=by rw[hSl];exact beq_false_of_ne q3
 by_cases q4:L=[100,99]
 ·have ht:=hide (typ_4 (hL.trans q4));have hS:Hid (S=txt [100,99]):=hide (by rw[<-hS0,q4]);have e4:(S.toList==[100,99])=true:=by rw[hSl,q4];rfl
  clear hL hLL hS0 hSl q4;go_enter Tryz.func118,Tryz.ntmps118;go_wp2_with (go_at_call 163;fail);refine (hW _).mono ?_;rintro e w1 ⟨rfl,hb⟩;go_wp2_with (go_at_call 163;fail);refine (hW _).mono ?_;rintro e w2 ⟨rfl,hb2⟩;go_wp2;go_ret2;exact⟨by rw[ht.out,hS.out];rfl,hb.trans (hb2.mono hb.size)⟩
 have e4:(S.toList==[100,99])=false:=by rw[hSl];exact beq_false_of_ne q4
 by_cases q5:L=[117,105,100]
 ·have ht:=hide (typ_5 (hL.trans q5));have hS:Hid (S=txt [117,105,100]):=hide (by rw[<-hS0,q5]);have e5:(S.toList==[117,105,100])=true:=by rw[hSl,q5];rfl
  clear hL hLL hS0 hSl q5;go_enter Tryz.func118,Tryz.ntmps118;go_wp2_with (go_at_call 163;fail);refine (hW _).mono ?_;rintro e w1 ⟨rfl,hb⟩;go_wp2_with (go_at_call 163;fail);refine (hW _).mono ?_;rintro e w2 ⟨rfl,hb2⟩;go_wp2;go_ret2;exact⟨by rw[ht.out,hS.out];rfl,hb.trans (hb2.mono hb.size)⟩
 have e5:(S.toList==[117,105,100])=false:=by rw[hSl];exact beq_false_of_ne q5
 by_cases q6:L=[100,101,115,99,114,105,112,116,105,111,110]
 ·have ht:=hide (typ_6 (hL.trans q6));have hS:Hid (S=txt [100,101,115,99,114,105,112,116,105,111,110]):=hide (by rw[<-hS0,q6]);have e6:(S.toList==[100,101,115,99,114,105,112,116,105,111,110])=true:=by rw[hSl,q6];rfl
  clear hL hLL hS0 hSl q6;go_enter Tryz.func118,Tryz.ntmps118;go_wp2_with (go_at_call 163;fail);refine (hW _).mono ?_;rintro e w1 ⟨rfl,hb⟩;go_wp2_with (go_at_call 163;fail);refine (hW _).mono ?_;rintro e w2 ⟨rfl,hb2⟩;go_wp2;go_ret2;exact⟨by rw[ht.out,hS.out];rfl,hb.trans (hb2.mono hb.size)⟩
 have e6:(S.toList==[100,101,115,99,114,105,112,116,105,111,110])=false:=by rw[hSl];exact beq_false_of_ne q6
 by_cases q7:L=[109,97,105,108]
 ·have ht:=hide (typ_7 (hL.trans q7));have hS:Hid (S=txt [109,97,105,108]):=hide (by rw[<-hS0,q7]);have e7:(S.toList==[109,97,105,108])=true:=by rw[hSl,q7];rfl
  clear hL hLL hS0 hSl q7;go_enter Tryz.func118,Tryz.ntmps118;go_wp2_with (go_at_call 163;fail);refine (hW _).mono ?_;rintro e w1 ⟨rfl,hb⟩;go_wp2_with (go_at_call 163;fail);refine (hW _).mono ?_;rintro e w2 ⟨rfl,hb2⟩;go_wp2;go_ret2;exact⟨by rw[ht.out,hS.out];rfl,hb.trans (hb2.mono hb.size)⟩
 have e7:(S.toList==[109,97,105,108])=false:=by rw[hSl];exact beq_false_of_ne q7
 by_cases q8:L=[117,115,101,114,112,97,115,115,119,111,114,100]
 ·have ht:=hide (typ_8 (hL.trans q8));have hS:Hid (S=txt [117,115,101,114,112,97,115,115,119,111,114,100]):=hide (by rw[<-hS0,q8]);have e8:(S.toList==[117,115,101,114,112,97,115,115,119,111,114,100])=true:=by rw[hSl,q8];rfl
  clear hL hLL hS0 hSl q8;go_enter Tryz.func118,Tryz.ntmps118;go_wp2_with (go_at_call 163;fail);refine (hW _).mono ?_;rintro e w1 ⟨rfl,hb⟩;go_wp2;go_ret2;exact⟨by rw[ht.out];rfl,hb⟩
 have e8:(S.toList==[117,115,101,114,112,97,115,115,119,111,114,100])=false:=by rw[hSl];exact beq_false_of_ne q8
 by_cases q9:L=[114,101,102]
 ·have ht:=hide (typ_9 (hL.trans q9));have hS:Hid (S=txt [114,101,102]):=hide (by rw[<-hS0,q9]);have e9:(S.toList==[114,101,102])=true:=by rw[hSl,q9];rfl
  clear hL hLL hS0 hSl q9;go_enter Tryz.func118,Tryz.ntmps118;go_wp2_with (go_at_call 163;fail);refine (hW _).mono ?_;rintro e w1 ⟨rfl,hb⟩;go_wp2;go_ret2;exact⟨by rw[ht.out];rfl,hb⟩
 have e9:(S.toList==[114,101,102])=false:=by rw[hSl];exact beq_false_of_ne q9
 by_cases q10:L=[115,101,114,105,97,108,110,117,109,98,101,114]
 ·have ht:=hide (typ_10 (hL.trans q10));have hS:Hid (S=txt [115,101,114,105,97,108,110,117,109,98,101,114]):=hide (by rw[<-hS0,q10]);have e10:(S.toList==[115,101,114,105,97,108,110,117,109,98,101,114])=true:=by rw[hSl,q10];rfl
  clear hL hLL hS0 hSl q10;go_enter Tryz.func118,Tryz.ntmps118;go_wp2_with (go_at_call 163;fail);refine (hW _).mono ?_;rintro e w1 ⟨rfl,hb⟩;go_wp2;go_ret2;exact⟨by rw[ht.out];rfl,hb⟩
 have e10:(S.toList==[115,101,114,105,97,108,110,117,109,98,101,114])=false:=by rw[hSl];exact beq_false_of_ne q10
 by_cases q11:L=[112,111,115,105,116,105,111,110]
 ·have ht:=hide (typ_11 (hL.trans q11));have hS:Hid (S=txt [112,111,115,105,116,105,111,110]):=hide (by rw[<-hS0,q11]);have e11:(S.toList==[112,111,115,105,116,105,111,110])=true:=by rw[hSl,q11];rfl
  clear hL hLL hS0 hSl q11;go_enter Tryz.func118,Tryz.ntmps118;go_wp2_with (go_at_call 163;fail);refine (hW _).mono ?_;rintro e w1 ⟨rfl,hb⟩;go_wp2;go_ret2;exact⟨by rw[ht.out];rfl,hb⟩
 have e11:(S.toList==[112,111,115,105,116,105,111,110])=false:=by rw[hSl];exact beq_false_of_ne q11
 by_cases q12:L=[97,108,105,97,115,101,100,111,98,106,101,99,116,110,97,109,101]
 ·have ht:=hide (typ_12 (hL.trans q12));have hS:Hid (S=txt [97,108,105,97,115,101,100,111,98,106,101,99,116,110,97,109,101]):=hide (by rw[<-hS0,q12]);have e12:(S.toList==[97,108,105,97,115,101,100,111,98,106,101,99,116,110,97,109,101])=true:=by rw[hSl,q12];rfl
  clear hL hLL hS0 hSl q12;go_enter Tryz.func118,Tryz.ntmps118;go_wp2_with (go_at_call 163;fail);refine (hW _).mono ?_;rintro e w1 ⟨rfl,hb⟩;go_wp2;go_ret2;exact⟨by rw[ht.out];rfl,hb⟩
 have e12:(S.toList==[97,108,105,97,115,101,100,111,98,106,101,99,116,110,97,109,101])=false:=by rw[hSl];exact beq_false_of_ne q12
 by_cases q13:L=[109,101,109,98,101,114]
 ·have ht:=hide (typ_13 (hL.trans q13));have hS:Hid (S=txt [109,101,109,98,101,114]):=hide (by rw[<-hS0,q13]);have e13:(S.toList==[109,101,109,98,101,114])=true:=by rw[hSl,q13];rfl
  clear hL hLL hS0 hSl q13;go_enter Tryz.func118,Tryz.ntmps118;go_wp2_with (go_at_call 163;fail);refine (hW _).mono ?_;rintro e w1 ⟨rfl,hb⟩;go_wp2;go_ret2;exact⟨by rw[ht.out];rfl,hb⟩
 have e13:(S.toList==[109,101,109,98,101,114])=false:=by rw[hSl];exact beq_false_of_ne q13
 have ht:=hide (typ_none hL (beq_false_of_ne q0) (beq_false_of_ne q1) (beq_false_of_ne q2) (beq_false_of_ne q3) (beq_false_of_ne q4) (beq_false_of_ne q5) (beq_false_of_ne q6) (beq_false_of_ne q7) (beq_false_of_ne q8) (beq_false_of_ne q9) (beq_false_of_ne q10) (beq_false_of_ne q11) (beq_false_of_ne q12) (beq_false_of_ne q13));clear hL hLL hS0 hSl q0 q1 q2 q3 q4 q5 q6 q7 q8 q9 q10 q11 q12 q13;go_enter Tryz.func118,Tryz.ntmps118;go_wp2_with (go_at_call 163;fail);refine (hW _).mono ?_;rintro e w1 ⟨rfl,hb⟩;go_wp2;go_ret2;exact⟨by rw[ht.out];rfl,hb⟩
theorem make8 (w:World) (n:Nat) (hn:n<=281474976710656):
  ∃w',(Instr.makeSlice 160 (.int .i64 0) (.int .i64 (n:Int))).run Tryz.prog w=.ok (.slice (some ⟨w.heap.size,0,none⟩) 0 n) w'/\
   w'.ownsRow w.heap.size 5 1 (.slice (some ⟨w.heap.size,0,none⟩) 0 n) 0 (bys [])/\Below w.heap.size w w':=by
 obtain⟨i0,hi,hz0,hz1,hz2⟩:=info_parts info8;obtain⟨w',h1,h2,h3⟩:=run_make_own (P:=Tryz.prog) w w.heap.size 160 5 i0 (.int .u8 0) 1 Tryz.underlying160 hi hz0 hz1 .i64 .i64 n (by rw[hz2];omega) (by unfold maxLen;omega) (Nat.le_refl _);exact⟨w',h1,h2,(Below.refl _ _).grown h3 (Nat.le_refl _) (fun g hg=>by cases hg)⟩
theorem own_cons {w:World} {base:Nat} {v:Value} {acc:List UInt8} {y:UInt8} (h:w.ownsRow base 5 1 v (acc++[y]).length (bys (acc++[y]))):
  ∃g cap,v=.slice (some ⟨g,0,none⟩) (acc.length+1) cap/\w.cell? ⟨g,acc.length,none⟩=some (.int .u8 (y.toNat:Int)):=by
 have hn:(acc++[y]).length=acc.length+1:=by simp
 rw[hn] at h;obtain⟨g,cap,rfl,_⟩:=h.form (by omega);refine⟨g,cap,rfl,?_⟩;rw[h.cellAt acc.length (by omega)];simp[bys,c8]
theorem zLo (l:List UInt8):Lib.trimSuffix (ntAll l) [32]=nt l:=by
 rw[nt_trim];unfold Lib.trimSuffix Lib.hasSuffix;rcases List.eq_nil_or_concat (ntAll l) with h | ⟨a,y,h⟩
 ·rw [h];rfl
 ·rw [List.concat_eq_append] at h;rw[h];by_cases hy:y=32
  ·subst hy;simp
  ·simp [hy];exact fun e=>hy e.symm
theorem zSp (s:ByteArray) (h200:s.size<=200) (w:World):
  Calls Tryz.prog 216 #[.string s] w fun e w'=>e=.returned (.string (txt (nt s.data.toList)))/\Below w.heap.size w w':=by
 obtain⟨w1,hmake,hown,hb⟩:=make8 w s.size (by omega);have hL:=hide (Lib.size_eq s);have hat:∀(i:Nat) (hi:i<s.size),s.data.toList[i]?=some s[i]:=fun i hi=>Lib.data_getElem? s i hi
 generalize hl:s.data.toList=l at *;replace hl:=hide hl;replace hat:=hide hat;go_enter Tryz.func216,Tryz.ntmps216;go_wp2
 go_loopg [3,11] s.size (fun k s3 s11 wx=>∃(i:Nat) (acc:List UInt8),i+k=s.size/\s11=.int .i64 (i:Int)/\Hid (acc=ntAll (l.take i))/\wx.ownsRow w.heap.size 5 1 s3 acc.length (bys acc)/\Below w.heap.size w wx)
 case atStart=>exact⟨0,[],by omega,rfl,hide rfl,hown,hb⟩
 case round=>
  obtain⟨i,acc,hig,rfl,hacc,hor,hbr⟩:=hrel;clear hown hb hmake;cases gk with
  | zero=>
   obtain rfl:i=s.size:=by omega
   have hiz:¬((s.size:Int)<(s.size:Int)):=by omega
   obtain⟨A,c,rfl,hnc,hHas⟩:=zAh hor;have htx:=txt8 wr c hHas;have hacc3:Hid (Lib.trimSuffix (txt acc).data.toList (⟨#[32]⟩:ByteArray).data.toList=nt l):=by refine hide ?_;rw[zAf];have e:=hacc.out;rw[List.take_of_length_le (by rw[<-hL.out];exact Nat.le_refl _)] at e;rw[e];exact zLo l
   have hts:(txt acc).size<=9223372036854775807:=by rw[Lib.size_eq,zAf];have e:=hacc.out;have:=zNc (l.take s.size);rw[<-e,List.length_take] at this;omega
   have hT:=fun w=>Tryz.strings_TrimSuffix (txt acc) ⟨#[32]⟩ w hts
   rw[hacc3.out] at hT;generalize hR:nt l=R at *;generalize txt acc=X at *;clear hacc hacc3 hts hHas hor;go_wp2_with (go_at_call 247;refine (hT _).mono ?_;rintro e w' ⟨rfl,rfl⟩);go_ret;exact⟨by rw[hR];rfl,hbr⟩
  | succ k=>
   have hi:i<s.size:=by omega
   have hiz:(i:Int)<(s.size:Int):=by omega
   obtain⟨x,hx⟩:∃x:UInt8,s[i]'hi=x:=⟨_,rfl⟩;have hxl:l[i]?=some x:=by rw[hat.out i hi,hx]
   have htk:l.take (i+1)=l.take i++[x]:=by rw[List.take_add_one,hxl];rfl
   have hacc2:Hid (ntAll (l.take (i+1))=ntStep acc x):=by refine hide ?_;rw[htk,zHm,hacc.out]
   have hlen:Hid (acc.length<=200):=hide (by
    rw[hacc.out]
    have:=zNc (l.take i)
    rw[List.length_take] at this
    omega)
   clear hxl htk;have hone:=one8 wr (low x);unfold c8 at hone;have hH:=Has.own hone;have hor1:=hor.alloc (.cells #[.int .u8 ((low x).toNat:Int)] 5);have hbr1:=hbr.alloc hbr.size (.cells #[.int .u8 ((low x).toNat:Int)] 5);have hs1:=hbr1.size;clear hone;have hsm:=fun w=>zGo x w
   by_cases hb32:x=32
   ·subst hb32;have e32:low 32=32:=by decide
    have hbz:((((32:UInt8).toNat:Int))==32)=true:=rfl;rcases List.eq_nil_or_concat acc with hnil | ⟨a,y,hcat⟩
    ·subst hnil;have hstep:Hid (ntStep [] 32=[]):=hide (by unfold ntStep;rw[if_pos ⟨rfl,Or.inl rfl⟩]);obtain⟨A,c,rfl,hnc,hHas⟩:=zAh hor;clear hH hor1 hbr1 hs1 hsm hHas;go_wp2
     go_roundg k
     case measure=>omega
     case rel=>exact⟨i+1,[],by omega,by go_num,hide (by rw[hacc2.out,hstep.out]),hor,hbr⟩
    ·rw [List.concat_eq_append] at hcat;subst hcat;obtain⟨g,cap,rfl,hcell⟩:=own_cons hor;have hml:(a.length:Int)+1<=200:=by have:=hlen.out;simp at this;omega
     have hpos:((a.length+1:Nat):Int)=(a.length:Int)+1:=(by omega);have hz0:((a.length:Int)+1==0)=false:=beq_false_of_ne (by omega);by_cases hy:y=32
     ·subst hy;have hstep:Hid (ntStep (a++[32]) 32=a++[32]):=hide (by unfold ntStep;rw[if_pos ⟨rfl,Or.inr (by simp)⟩]);clear hH hor1 hbr1 hs1 hsm;go_wp2
      go_roundg k
      case measure=>omega
      case rel=>exact⟨i+1,a++[32],by omega,by go_num,hide (by rw[hacc2.out,hstep.out]),by simpa using hor,hbr⟩
     ·have hyz:((y.toNat:Int)==32)=false:=beq_false_of_ne (fun h=>hy (zCp (by have:(32:UInt8).toNat=32:=rfl;omega)));have hstep:Hid (ntStep (a++[y]) 32=a++[y]++[low 32]):=hide (by
       unfold ntStep
       rw[if_neg]
       rintro ⟨_,h | h⟩
       ·simp at h
       ·simp at h;exact hy h)
      rw[e32] at hstep;clear hor1 hbr1 hs1 hH;have hone:(wr.alloc (.cells #[.int .u8 32] 5)).ownsRow wr.heap.size 5 1 (.slice (some ⟨wr.heap.size,0,none⟩) 1 1) 1 (bys [32]):=one8 wr 32;have hH:=Has.own hone;have hor1:=hor.alloc (.cells #[.int .u8 32] 5);have hbr1:=hbr.alloc hbr.size (.cells #[.int .u8 32] 5);have hs1:=hbr1.size;clear hone hor hbr;go_wp2_with (first
       |(go_at_call 193;refine (hsm _).mono ?_;rintro e w' ⟨rfl,rfl⟩)
       |(at_builtin;go_must (refine app8 _ rfl (.tmp 33) (.tmp 38) rfl w.heap.size _ (a++[y]).length (a++[y]) rfl hor1 _ _ 1 1 [32] rfl hH (by have:=hlen.out;omega) hs1 ?_)))
      intro v' w3 hown3 hb3 _;have hb4:=hbr1.trans hb3;clear hor1 hbr1 hs1 hH hb3;go_wp2
      go_roundg k
      case measure=>omega
      case rel=>exact⟨i+1,a++[y]++[32],by omega,by go_num,hide (by rw[hacc2.out,hstep.out]),by simpa using hown3,hb4⟩
   ·have hne:((x.toNat:Int)==32)=false:=beq_false_of_ne (fun h=>hb32 (zCp (by have:(32:UInt8).toNat=32:=rfl;omega)));have hstep:Hid (ntStep acc x=acc++[low x]):=hide (by unfold ntStep;rw[if_neg (fun h=>hb32 h.1)]);clear hb32 hor hbr;go_wp2_with (first
     |(go_at_call 193;refine (hsm _).mono ?_;rintro e w' ⟨rfl,rfl⟩)
     |(at_builtin;go_must (refine app8 _ rfl (.tmp 33) (.tmp 38) rfl w.heap.size _ acc.length acc rfl hor1 _ _ 1 1 [low x] rfl hH (by have:=hlen.out;omega) hs1 ?_)))
    intro v' w3 hown3 hb3 _;have hb4:=hbr1.trans hb3;clear hor1 hbr1 hs1 hH hb3;go_wp2
    go_roundg k
    case measure=>omega
    case rel=>exact⟨i+1,acc++[low x],by omega,by go_num,hide (by rw[hacc2.out,hstep.out]),by simpa using hown3,hb4⟩
noncomputable def rtxt (l:List UInt8):List UInt8:=if (0:UInt8)∈l then [] else nt l
theorem zH1 {x k:UInt8} (hk:k.toNat<65) (h:x≠k):(((low x).toNat:Int)==(k.toNat:Int))=false:=
 beq_false_of_ne fun e=>h ((zNe x k hk).1 (zCp (by omega)))
theorem zQ2 {l:List UInt8} {i:Nat} {x:UInt8} (h:l[i]?=some x) (h0:(0:UInt8) ∉ l.take i) (hx:x≠0):(0:UInt8) ∉ l.take (i+1):=by
 rw[List.take_add_one,h];simp only[Option.toList_some,List.mem_append,List.mem_singleton,not_or];exact⟨h0,fun e=>hx e.symm⟩
theorem zO5 (s:ByteArray) (h200:s.size<=200) (w:World):
  Calls Tryz.prog 165 #[.string s] w fun e w'=>e=.returned (.string (txt (rtxt s.data.toList)))/\Below w.heap.size w w':=by
 have hW:=fun w=>zKd s (by omega) w
 have hL:=Lib.size_eq s;generalize hl:s.data.toList=l at *;replace hl:=hide hl;have hSl:(txt (lows l)).data.toList=lows l:=zAf _;have hSs:=Lib.size_eq (txt (lows l));rw[hSl,zA9,<-hL] at hSs;have hat:∀(i:Nat) (hi:i<(txt (lows l)).size),(lows l)[i]?=some (txt (lows l))[i]:=fun i hi=>by rw[<-Lib.data_getElem? _ i hi,hSl]
 generalize txt (lows l)=S at *;replace hat:=hide hat;replace hL:=hide hL;have hS200:S.size<=200:=by omega
 replace hSs:=hide hSs;clear hSl;go_enter Tryz.func165,Tryz.ntmps165;go_wp2_with (go_at_call 163;fail);refine (hW _).mono ?_;rintro e w1 ⟨rfl,hb⟩;clear hW;go_wp2
 go_loopg [3,4,6] S.size (fun k s3 s4 s6 wx=>∃(i:Nat) (g:Bool) (o:List UInt8),i+k=S.size/\s6=.int .i64 (i:Int)/\s4=.bool g/\Hid (rtAll (l.take i)=(g,o))/\Hid ((0:UInt8) ∉ l.take i)/\wx.ownsRow w.heap.size 5 1 s3 o.length (bys o)/\Below w.heap.size w wx)
 case atStart=>exact⟨0,false,[],by omega,rfl,rfl,hide rfl,hide (by simp),World.ownsRow_nil _ _ _ _,hb⟩
 case round=>
  obtain⟨i,g,o,hig,rfl,rfl,hst,h0,hor,hbr⟩:=hrel;clear hb;cases gk with
  | zero=>
   obtain rfl:i=S.size:=by omega
   have hiz:¬((S.size:Int)<(S.size:Int)):=by omega
   obtain⟨A,c,rfl,hnc,hHas⟩:=zAh hor;have htx:=txt8 wr c hHas;have hR:Hid (txt o=txt (rtxt l)):=by refine hide ?_;have e1:=hst.out;have e2:=h0.out;have e3:l.take S.size=l:=List.take_of_length_le (by rw[hSs.out,<-hL.out];exact Nat.le_refl _);rw[e3] at e1 e2;unfold rtxt nt;rw[if_neg e2,e1]
   generalize txt o=X at *;clear hst h0 hHas hor;go_wp2;go_ret;exact⟨by rw[<-hR.out];rfl,hbr⟩
  | succ k=>
   have hi:i<S.size:=by omega
   have hiz:(i:Int)<(S.size:Int):=by omega
   have hil:i<l.length:=by rw[<-hL.out,<-hSs.out];exact hi
   obtain⟨x,hx⟩:∃x,l[i]?=some x:=⟨_,List.getElem?_eq_getElem hil⟩;have hxS:S[i]'hi=low x:=by have:=hat.out i hi;rw[zK5 hx] at this;exact (Option.some.inj this).symm
   have htk:rtAll (l.take (i+1))=rtStep (g,o) x:=by rw[List.take_add_one,hx];simp only[Option.toList_some];rw[zBa,hst.out]
   have ho200:Hid (o.length<=200):=hide (by
    have h1:=zP0 (l.take i)
    rw[hst.out,List.length_take] at h1
    simp only at h1
    omega)
   replace htk:=hide htk;by_cases hx0:x=0
   ·subst hx0;have hz:(((low 0).toNat:Int)==0)=true:=by decide
    have hR:Hid (rtxt l=[]):=hide (by unfold rtxt;rw[if_pos (List.mem_of_getElem? hx)]);clear hst h0 hor htk;go_wp2;go_ret;exact⟨by rw[hR.out];rfl,hbr⟩
   ·have hz:(((low x).toNat:Int)==0)=false:=zH1 (k:=0) (by decide) hx0;have h02:=hide (zQ2 hx h0.out hx0);clear h0;replace hx:=hide hx;by_cases hx32:x=32
    ·subst hx32;have hz32:(((low 32).toNat:Int)==32)=true:=by decide
     have hst2:Hid (rtAll (l.take (i+1))=(true,o)):=hide (by rw[htk.out];simp[rtStep]);clear htk hst;go_wp2
     go_roundg k
     case measure=>omega
     case rel=>exact⟨i+1,true,o,by omega,by go_num,rfl,hst2,h02,hor,hbr⟩
    ·have hz32:(((low x).toNat:Int)==32)=false:=zH1 (k:=32) (by decide) hx32;obtain⟨A,c,rfl,hnc,hHas⟩:=zAh hor;clear hHas hnc;have hst1:Hid (rtAll (l.take (i+1))=(false,(if g=true/\o≠[] then o++[32] else o)++[low x])):=hide (by rw[htk.out];simp[rtStep,hx32]);clear htk hst;generalize low x=y at *;by_cases hg:g=true/\o≠[]
     ·obtain ⟨rfl,ho⟩:=hg;have hst2:Hid (rtAll (l.take (i+1))=(false,o++[32]++[y])):=hide (by rw[hst1.out,if_pos ⟨rfl,ho⟩]);have hpos:(0:Int)<(o.length:Int):=by have:=List.length_pos_iff.2 ho;omega
      clear hst1 ho;have hone0:(wr.alloc (.cells #[.int .u8 32] 5)).ownsRow wr.heap.size 5 1 (.slice (some ⟨wr.heap.size,0,none⟩) 1 1) 1 (bys [32]):=one8 wr 32;have hH0:=Has.own hone0;have hor0:=hor.alloc (.cells #[.int .u8 32] 5);have hbr0:=hbr.alloc hbr.size (.cells #[.int .u8 32] 5);have hs0:=hbr0.size;clear hone0 hor hbr;go_wp2_with (at_builtin;go_must (refine app8 _ rfl (.tmp 29) (.tmp 30) rfl w.heap.size _ _ o rfl hor0 _ _ 1 1 [32] rfl hH0 (by have:=ho200.out;omega) hs0 ?_));intro v1 w2 hown2 hb2 _;have hb3:=hbr0.trans hb2;have hl2:o.length+1=(o++[32]).length:=by simp
      rw[hl2] at hown2;clear hor0 hbr0 hs0 hH0 hb2 hpos hl2;have hone:=one8 w2 y;unfold c8 at hone;have hH:=Has.own hone;have hor1:=hown2.alloc (.cells #[.int .u8 (y.toNat:Int)] 5);have hbr1:=hb3.alloc hb3.size (.cells #[.int .u8 (y.toNat:Int)] 5);have hs1:=hbr1.size;clear hone hown2 hb3;go_wp2_with (at_builtin;go_must (refine app8 _ rfl (.tmp 32) (.tmp 36) rfl w.heap.size _ _ (o++[32]) rfl hor1 _ _ 1 1 [y] rfl hH (by have:=ho200.out;first | omega | (simp;omega)) hs1 ?_));intro v' w3 hown3 hb5 _;have hb4:=hbr1.trans hb5;clear hor1 hbr1 hs1 hH hb5;go_wp2
      go_roundg k
      case measure=>omega
      case rel=>exact⟨i+1,false,(o++[32])++[y],by omega,by go_num,rfl,hst2,h02,by simpa using hown3,hb4⟩
     ·have hst2:Hid (rtAll (l.take (i+1))=(false,o++[y])):=hide (by rw[hst1.out,if_neg hg]);cases g with
      | false=>
       clear hst1 hg;have hone:=one8 wr y;unfold c8 at hone;have hH:=Has.own hone;have hor1:=hor.alloc (.cells #[.int .u8 (y.toNat:Int)] 5);have hbr1:=hbr.alloc hbr.size (.cells #[.int .u8 (y.toNat:Int)] 5);have hs1:=hbr1.size;clear hone hor hbr;go_wp2_with (at_builtin;go_must (refine app8 _ rfl (.tmp 32) (.tmp 36) rfl w.heap.size _ _ o rfl hor1 _ _ 1 1 [y] rfl hH (by have:=ho200.out;first | omega | (simp;omega)) hs1 ?_));intro v' w3 hown3 hb3 _;have hb4:=hbr1.trans hb3;clear hor1 hbr1 hs1 hH hb3;go_wp2
       go_roundg k
       case measure=>omega
       case rel=>exact⟨i+1,false,o++[y],by omega,by go_num,rfl,hst2,h02,by simpa using hown3,hb4⟩
      | true=>
       have ho:o=[]:=by
        rcases o with _ | ⟨a,b⟩
        ·rfl
        ·exact absurd ⟨rfl,by simp⟩ hg
       subst ho;clear hst1 hg;have hone:=one8 wr y;unfold c8 at hone;have hH:=Has.own hone;have hor1:=hor.alloc (.cells #[.int .u8 (y.toNat:Int)] 5);have hbr1:=hbr.alloc hbr.size (.cells #[.int .u8 (y.toNat:Int)] 5);have hs1:=hbr1.size;clear hone hor hbr;go_wp2_with (at_builtin;go_must (refine app8 _ rfl (.tmp 32) (.tmp 36) rfl w.heap.size _ _ [] rfl hor1 _ _ 1 1 [y] rfl hH (by have:=ho200.out;first | omega | (simp;omega)) hs1 ?_));intro v' w3 hown3 hb3 _;have hb4:=hbr1.trans hb3;clear hor1 hbr1 hs1 hH hb3;go_wp2
       go_roundg k
       case measure=>omega
       case rel=>exact⟨i+1,false,[]++[y],by omega,by go_num,rfl,hst2,h02,by simpa using hown3,hb4⟩
theorem zMl (u:Nat) (hu:1<=u):∀x r,decDigits u=x::r->x≠48:=by
 induction u using Nat.strongRecOn with
 | _ u ih=>
  intro x r h;by_cases h10:u<10
  ·rw [decDigits,dif_pos h10] at h;injection h with h _
   subst h;intro e;have:=congrArg UInt8.toNat e;simp[UInt8.toNat_ofNat'] at this;omega
  ·rw [decDigits,dif_neg h10] at h;obtain⟨y,t,hy,_⟩:=zA8 (u/10);rw[hy] at h;injection h with h _
   subst h;exact ih (u/10) (by omega) (by omega) y t hy
theorem zH6:decDigits 0=[48]:=by rw[decDigits,dif_pos (by omega)];rfl
theorem zHc (d:List UInt8):∀(m:Nat),d≠[]->decFrom 0 d=some m->(∀r,d=48::r->r=[])->decDigits m=d:=by
 induction d using zC7 with
 | h0=>intro m h;exact absurd rfl h
 | h1 d b ih=>
  intro m _ hd hz;by_cases hd0:d=[]
  ·subst hd0;simp only[List.nil_append,decFrom] at hd;cases hb:digitVal b with
   | none=>rw[hb] at hd;cases hd
   | some v=>
    rw[hb] at hd;simp only[Nat.zero_mul,Nat.zero_add,Option.some.injEq] at hd;subst hd;obtain⟨h1,h2,h3⟩:=digitVal_eq hb;have hv:v<10:=by omega
    rw[decDigits,dif_pos hv];have:UInt8.ofNat (48+v)=b:=by
     apply zCp;simp[UInt8.toNat_ofNat'];omega
    rw[this];rfl
  ·obtain ⟨m',hm'⟩:∃m',decFrom 0 d=some m':=by
    have:=decFrom_prefix (d++[b]) 0 m hd d.length;simpa using this
   rw[zG5 _ _ _ _ hm'] at hd;simp only[decFrom] at hd;cases hb:digitVal b with
   | none=>rw[hb] at hd;cases hd
   | some v=>
    rw[hb] at hd;simp only[Option.some.injEq] at hd;obtain⟨h1,h2,h3⟩:=digitVal_eq hb;have hz':∀r,d=48::r->r=[]:=by
     intro r hr;have:=hz (r++[b]) (by rw[hr];rfl);simp at this
    have hI:=ih m' hd0 hm' hz';have hm1:1<=m':=by
     rcases Nat.eq_zero_or_pos m' with h | h
     ·subst h;rw[zH6] at hI;have:=hz [b] (by rw[<-hI];rfl);simp at this
     ·exact h
    subst hd;rw[decDigits,dif_neg (by omega)];have e1:(m'*10+v)/10=m':=by omega
    have e2:(m'*10+v) % 10=v:=(by omega);rw[e1,e2,hI];have:UInt8.ofNat (48+v)=b:=by
     apply zCp;simp[UInt8.toNat_ofNat'];omega
    rw[this]
def intR (l:List UInt8):Option Int:=
 let neg:=l.head?=some 45
 let d:=if neg then l.tail else l
 if d.length<1\/18<d.length\/(d.head?=some 48/\(1<d.length\/neg)) then none
 else (decFrom 0 d).map fun (m:Nat)=>if neg then -(m:Int) else (m:Int)
theorem zJj (u:Nat) (h:u<=999999999999999999):(decDigits u).length<=18:=by
 rw[decDigits_length];exact zEk 17 u (by omega)
theorem intR_yes {l:List UInt8} {n:Int} (h:IsInt l n):intR l=some n:=by
 obtain⟨⟨h0,h1⟩,rfl⟩:=h;by_cases hn:0<=n
 ·rw [zA7 hn];obtain⟨x,r,hx,hd⟩:=zA8 n.toNat;have h45:x≠45:=zA1 hd 45 (by decide);have hl:=zJj n.toNat (by omega);have hv:=zDp n.toNat;unfold intR;have e1:¬(decDigits n.toNat).head?=some 45:=by rw[hx];simpa using h45
  simp only[e1,if_false,or_false];rw[if_neg,hv]
  ·simp only[Option.map_some,Option.some.injEq];omega
  ·rintro (h | h | ⟨h,h'⟩)
   ·rw [hx] at h;simp at h
   ·omega
   ·rcases Nat.eq_zero_or_pos n.toNat with hz | hz
    ·rw [hz,zH6] at h';simp at h'
    ·rw [hx] at h;simp only[List.head?_cons,Option.some.injEq] at h;exact zMl _ hz x r hx h
 ·rw [itoa_neg' (by omega)];obtain⟨x,r,hx,hd⟩:=zA8 n.natAbs;have hl:=zJj n.natAbs (by omega);have hv:=zDp n.natAbs;unfold intR;simp only[List.head?_cons,if_true,List.tail_cons,or_true,and_true];rw[if_neg,hv]
  ·simp only[Option.map_some,Option.some.injEq];omega
  ·rintro (h | h | h)
   ·rw [hx] at h;simp at h
   ·omega
   ·rw [hx] at h;simp only[List.head?_cons,Option.some.injEq] at h;exact zMl _ (by omega) x r hx h
theorem intR_is {l:List UInt8} {n:Int} (h:intR l=some n):IsInt l n:=by
 unfold intR at h;by_cases h45:l.head?=some 45
 ·obtain ⟨r,rfl⟩:∃r,l=45::r:=by
   cases l with
   | nil=>simp at h45
   | cons x r=>simp at h45;exact⟨r,by rw[h45]⟩
  simp only[List.head?_cons,if_true,List.tail_cons,or_true,and_true] at h;split at h
  ·cases h
  ·rename_i hc;cases hm:decFrom 0 r with
   | none=>rw[hm] at h;cases h
   | some m=>
    rw[hm] at h;simp only[Option.map_some,Option.some.injEq] at h;subst h;have hne:r≠[]:=by intro e;subst e;simp at hc
    have hz:∀t,r=48::t->t=[]:=(by intro t ht;subst ht;simp at hc);have hu:=zHc r m hne hm hz;have hlt:=decFrom_lt18 hm (by omega);have hm1:1<=m:=by
     rcases Nat.eq_zero_or_pos m with h | h
     ·subst h;rw[zH6] at hu;subst hu;simp at hc
     ·exact h
    refine⟨by omega,?_⟩;rw[itoa_neg' (by omega)];have:(-(m:Int)).natAbs=m:=by omega
    rw[this,hu]
 ·simp only[h45,if_false,or_false] at h;split at h
  ·cases h
  ·rename_i hc;cases hm:decFrom 0 l with
   | none=>rw[hm] at h;cases h
   | some m=>
    rw[hm] at h;simp only[Option.map_some,Option.some.injEq] at h;subst h;have hne:l≠[]:=by intro e;subst e;simp at hc
    have hz:∀t,l=48::t->t=[]:=by
     intro t ht;subst ht;have h1:¬(1<(48::t).length):=fun hh=>hc (Or.inr (Or.inr ⟨rfl,hh⟩))
     exact List.length_eq_zero_iff.1 (by simp only[List.length_cons] at h1;omega)
    have hu:=zHc l m hne hm hz;have hlt:=decFrom_lt18 hm (by omega);refine⟨by omega,?_⟩;rw[zA7 (by omega)];have:((m:Int)).toNat=m:=by omega
    rw[this,hu]
theorem int_or (l:List UInt8):(∃n,IsInt l n)\/∀n,¬IsInt l n:=by
 by_cases h:∃n,IsInt l n
 ·exact Or.inl h
 ·exact Or.inr fun n hn=>h ⟨n,hn⟩
theorem zFb:∀(l:List UInt8) (acc m:Nat),decFrom acc l=some m->m<1844674407370955161->parseUint10 acc l=.ok m
 | [],acc,m,h,_=>by simp only[decFrom,Option.some.injEq] at h;subst h;rfl
 | b::r,acc,m,h,hm=>by
  simp only[decFrom] at h;cases hb:digitVal b with
  | none=>rw[hb] at h;cases h
  | some v=>
   rw[hb] at h;obtain⟨h1,h2,h3⟩:=digitVal_eq hb;have hge:∀(l:List UInt8) (a m:Nat),decFrom a l=some m->a<=m:=by
    intro l
    induction l with
    | nil=>intro a m h;simp only[decFrom,Option.some.injEq] at h;omega
    | cons b r ih=>
     intro a m h;simp only[decFrom] at h;cases hb:digitVal b with
     | none=>rw[hb] at h;cases h
     | some v=>rw[hb] at h;have:=ih _ _ h;omega
   have hle:=hge _ _ _ h;unfold parseUint10;rw[if_pos ⟨h1,h2⟩,if_neg (by omega),if_neg (by omega),<-h3];exact zFb r _ m h hm
theorem zSf {l:List UInt8} {n:Int} (h:IsInt l n):parseIntB 64 l=.ok n:=by
 obtain⟨⟨h0,h1⟩,rfl⟩:=h;rw[parseIntB_64];have key:∀u:Nat,u<=999999999999999999->parseMag (decDigits u)=.ok u:=by intro u hu;obtain⟨x,r,hx,_⟩:=zA8 u;unfold parseMag;rw[if_neg (by rw[hx];simp)];exact zFb _ 0 u (zDp u) (by omega)
 by_cases hn:0<=n
 ·rw [zA7 hn];have hk:=key n.toNat (by omega);obtain⟨x,r,hx,hd⟩:=zA8 n.toNat;rw[hx] at hk ⊢;rw[atoiAll_plain x r (by unfold IsDig at hd;omega) (by unfold IsDig at hd;omega),hk];simp only[signless];rw[if_neg (by omega)];congr 1;omega
 ·rw [itoa_neg' (by omega),atoiAll_minus,key n.natAbs (by omega)];simp only[signed];rw[if_neg (by omega)];congr 1;omega
end Go.Proofs.YtdkekamkmlpnhaaGreatDoor
namespace Go.Proofs.YtdkekamkmlpnhaaGreatDoor
open Go.RowKit
theorem zGz (s:ByteArray) (hs:s.size<=281474976710656) (v:Int) (h:Lib.parseIntB 64 s.data.toList=.ok v) (w:World):
  Calls Tryz.prog 229 #[.string s,.int .i64 10,.int .i64 64] w fun e w'=>e=.returned (.tuple #[.int .i64 v,.nilIface])/\Below w.heap.size w w':=by
 refine (Tryz.strconv_ParseInt_10_at64_ok s (by omega) v h w).mono ?_;rintro e w' ⟨rfl,hw⟩;refine⟨rfl,?_⟩;rcases hw with rfl | ⟨t,rfl⟩
 ·exact Below.refl _ _
 ·exact Lib.bytesWorld_below w _ t
theorem zKl (s:ByteArray) (hs:s.size<=281474976710656) (h:∀v,Lib.parseIntB 64 s.data.toList≠.ok v) (w:World) (hT:Tabs w):
  Calls Tryz.prog 229 #[.string s,.int .i64 10,.int .i64 64] w (BadPost w):=by
 obtain⟨tp,p,hsyn⟩:=hT.syn;obtain⟨tq,q,hrng⟩:=hT.rng;cases he:Lib.parseIntB 64 s.data.toList
 ·exact absurd he (h _)
 ·refine (Any.strconv_ParseInt_10_at64_syntax_var Tryz.laysC174 s hs he tp p w hsyn).mono ?_;rintro e w' ⟨N,rfl,_,_,hb⟩;exact⟨_,N,rfl,hb⟩
 ·refine (Any.strconv_ParseInt_10_at64_range_var Tryz.laysC174 s hs he tq q w hrng).mono ?_;rintro e w' ⟨N,rfl,_,_,hb⟩;exact⟨_,N,rfl,hb⟩
theorem zL5 (s:ByteArray) (hs:s.size<=281474976710656) (n:Int) (h:IsInt s.data.toList n) (w:World) (hT:Tabs w):
  Calls Tryz.prog 245 #[.string s] w fun e w'=>e=.returned (.tuple #[.int .i64 n,.bool true])/\Below w.heap.size w w':=by
 have hP:=zGz s hs n (zSf h) w;obtain⟨⟨h0,h1⟩,he⟩:=h;have hF:=fun w hT=>zC5 n (by omega) (by omega) w hT
 have hst:=zCy s _ he;rw[<-hst] at hF;have hne:(s.toList !=s.toList)=false:=by simp
 clear he hst;go_enter Tryz.func245,Tryz.ntmps245;go_wp2_with (go_at_call 229;fail);refine hP.mono ?_;rintro e w1 ⟨rfl,hb1⟩;have hT1:=hT.below hb1;clear hP;go_wp2_with (go_at_call 205;fail);refine (hF _ hT1).mono ?_;rintro e w2 ⟨rfl,hb2⟩;clear hF;go_wp2;go_ret2;exact⟨rfl,hb1.trans (hb2.mono hb1.size)⟩
theorem zOl (s:ByteArray) (hs:s.size<=281474976710656) (h:∀n,¬IsInt s.data.toList n) (w:World) (hT:Tabs w):
  Calls Tryz.prog 245 #[.string s] w fun e w'=>e=.returned (.tuple #[.int .i64 0,.bool false])/\Below w.heap.size w w':=by
 by_cases hv:∃v,Lib.parseIntB 64 s.data.toList=.ok v
 ·obtain ⟨v,hv⟩:=hv;have hP:=zGz s hs v hv w;have hbd:=Lib.parseIntB_bounds hv;have e63:((2 ^ (64-1):Nat):Int)=9223372036854775808:=by decide
  rw[e63] at hbd;by_cases hlo:v< -999999999999999999
  ·clear h hv;go_enter Tryz.func245,Tryz.ntmps245;go_wp2_with (go_at_call 229;fail);refine hP.mono ?_;rintro e w1 ⟨rfl,hb1⟩;clear hP;go_wp2;go_ret2;exact⟨rfl,hb1⟩
  ·by_cases hhi:999999999999999999<v
   ·clear h hv;go_enter Tryz.func245,Tryz.ntmps245;go_wp2_with (go_at_call 229;fail);refine hP.mono ?_;rintro e w1 ⟨rfl,hb1⟩;clear hP;go_wp2;go_ret2;exact⟨rfl,hb1⟩
   ·have hF:=fun w hT=>zC5 v (by omega) (by omega) w hT
    have hne:((txt (Lib.itoa v)).toList==s.toList)=false:=by
     rw[zAb,Lib.toList_data];refine beq_false_of_ne fun e=>?_
     exact h v ⟨⟨by omega,by omega⟩,e.symm⟩
    generalize txt (Lib.itoa v)=X at *;clear h hv;go_enter Tryz.func245,Tryz.ntmps245;go_wp2_with (go_at_call 229;fail);refine hP.mono ?_;rintro e w1 ⟨rfl,hb1⟩;have hT1:=hT.below hb1;clear hP;go_wp2_with (go_at_call 205;fail);refine (hF _ hT1).mono ?_;rintro e w2 ⟨rfl,hb2⟩;clear hF;go_wp2;go_ret2;exact⟨rfl,hb1.trans (hb2.mono hb1.size)⟩
 ·have hP:=zKl s hs (fun v e=>hv ⟨v,e⟩) w hT;clear h hv;go_enter Tryz.func245,Tryz.ntmps245;go_wp2_with (go_at_call 229;fail);refine hP.mono ?_;rintro e w1 ⟨v,N,rfl,hb1⟩;clear hP;unfold badV;go_wp2;go_ret2;exact⟨rfl,hb1⟩
structure TT (w:World):Prop where
 tabs:Tabs w
 types:Types w
theorem TT.below {w w':World} (h:TT w) (hb:Below w.heap.size w w'):TT w':=⟨h.tabs.below hb,h.types.below hb⟩
structure Formed (x:Int) (l:List UInt8):Prop where
 tx:x=1->(0:UInt8) ∉ l/\nt l≠[]
 nu:x=3->∃n,IsInt l n
 pl:x=4->∃a b,Small a/\Small b/\l=text a b
theorem zNd {p:UInt8->Bool} {l:List UInt8} {b:UInt8} (h:b∈l) (hb:p b=false):b∈l.dropWhile p:=by
 induction l with
 | nil=>cases h
 | cons x r ih=>
  rw[List.dropWhile_cons];split
  ·rename_i hx;rcases List.mem_cons.1 h with rfl | h
   ·rw [hb] at hx;cases hx
   ·exact ih h
  ·exact h
theorem trim_nil (l:List UInt8):Lib.trimB l 32=[]↔nt l=[]:=by
 rw[nt_nil];constructor
 ·intro h b hb;refine Classical.byContradiction fun hne=>?_
  have hp:(b==32)=false:=beq_false_of_ne hne;have h1:b∈Lib.trimRightB l 32:=by unfold Lib.trimRightB;rw[List.mem_reverse];exact zNd (List.mem_reverse.2 hb) hp
  have h2:b∈Lib.trimB l 32:=by unfold Lib.trimB Lib.trimLeftB;exact zNd h1 hp
  rw[h] at h2;cases h2
 ·intro h;have h1:∀l:List UInt8,(∀b∈l,b=32)->l.dropWhile (·==32)=[]:=by
   intro l
   induction l with
   | nil=>intro _;rfl
   | cons x r ih=>
    intro h;rw[List.dropWhile_cons,if_pos (by simp[h x (by simp)])];exact ih fun b hb=>h b (by simp[hb])
  unfold Lib.trimB Lib.trimLeftB Lib.trimRightB;rw[h1 l.reverse fun b hb=>h b (List.mem_reverse.1 hb)];rfl
theorem zOt (l:List UInt8):Lib.indexByte l 0<0↔(0:UInt8) ∉ l:=by
 have hge:=Lib.indexByte_ge l 0;constructor
 ·intro h hm;obtain⟨k,hk,hk2⟩:=List.mem_iff_getElem.1 hm;exact Lib.indexByte_none (by omega:Lib.indexByte l 0= -1) k (by rw[List.getElem?_eq_getElem hk,hk2])
 ·intro h;refine Classical.byContradiction fun hn=>?_
  have:=(Lib.indexByte_some (o:=(Lib.indexByte l 0).toNat) (by omega:Lib.indexByte l 0=_)).1;exact h (List.mem_of_getElem? this)
theorem formed1 (s:ByteArray) (h200:s.size<=200) (b:Bool) (hb:b=true↔Formed 1 s.data.toList) (w:World):
  Calls Tryz.prog 215 #[.int .i64 1,.string s] w fun e w'=>e=.returned (.bool b)/\Below w.heap.size w w':=by
 have hTr:=fun w=>Tryz.strings_Trim_one s 32 (by decide) w (by omega)
 have hIx:=fun w=>Tryz.strings_IndexByte s 0 w
 have hz:((0:Int).toNat.toUInt8)=0:=rfl;rw[hz] at hIx;have hXl:(⟨(Lib.trimB s.data.toList 32).toArray⟩:ByteArray).toList.isEmpty=decide (nt s.data.toList=[]):=by
  rw[ByteArray.toList_mk];have:=trim_nil s.data.toList;cases hq:Lib.trimB s.data.toList 32 with
  | nil=>rw[hq] at this;simp[this.1 rfl]
  | cons x r=>
   have hne:¬nt s.data.toList=[]:=fun e=>by rw[this.2 e] at hq;cases hq
   simp[hne]
 have hI:=zOt s.data.toList;have hF:Formed 1 s.data.toList↔(0:UInt8) ∉ s.data.toList/\nt s.data.toList≠[]:=⟨fun h=>h.tx rfl,fun h=>⟨fun _=>h,fun e=>(by omega),fun e=>(by omega)⟩⟩;rw[hF] at hb;clear hF;generalize (⟨(Lib.trimB s.data.toList 32).toArray⟩:ByteArray)=X at *;by_cases hn:nt s.data.toList=[]
 ·have hb':Hid (b=false):=hide (by cases b with | false=>rfl | true=>exact absurd hn (hb.1 rfl).2);rw[decide_eq_true hn] at hXl;clear hb hI hIx hn;go_enter Tryz.func215,Tryz.ntmps215;go_wp2_with (go_at_call 243;fail);refine (hTr _).mono ?_;rintro e w1 ⟨rfl,hw⟩;have hb1:Below w.heap.size w w1:=by
   rcases hw with rfl | rfl
   ·exact Below.refl _ _
   ·exact (Below.refl _ _).drew
  clear hw hTr;go_wp2;go_ret;exact⟨by rw[hb'.out];rfl,hb1⟩
 ·have hb':Hid (b=decide (Lib.indexByte s.data.toList 0<0)):=hide (by
   by_cases hm:(0:UInt8)∈s.data.toList
   ·rw [decide_eq_false (by rw[hI];exact fun h=>h hm)]
    cases b with
    | false=>rfl
    | true=>exact absurd hm (hb.1 rfl).1
   ·rw [decide_eq_true (hI.2 hm)]
    exact hb.2 ⟨hm,hn⟩)
  rw[decide_eq_false hn] at hXl;clear hb hI hn;generalize Lib.indexByte s.data.toList 0=I at *;go_enter Tryz.func215,Tryz.ntmps215;go_wp2_with (go_at_call 243;fail);refine (hTr _).mono ?_;rintro e w1 ⟨rfl,hw⟩;have hb1:Below w.heap.size w w1:=by
   rcases hw with rfl | rfl
   ·exact Below.refl _ _
   ·exact (Below.refl _ _).drew
  clear hw hTr;go_wp2_with (go_at_call 244;fail);refine (hIx _).mono ?_;rintro e w2 ⟨rfl,rfl⟩;clear hIx;go_wp2;go_ret;exact⟨by rw[hb'.out];rfl,hb1⟩
theorem formed2 (s:ByteArray) (b:Bool) (hb:b=true↔Formed 2 s.data.toList) (w:World):
  Calls Tryz.prog 215 #[.int .i64 2,.string s] w fun e w'=>e=.returned (.bool b)/\Below w.heap.size w w':=by
 have hb':Hid (b=true):=hide (hb.2 ⟨fun e=>(by omega),fun e=>(by omega),fun e=>(by omega)⟩);clear hb;go_enter Tryz.func215,Tryz.ntmps215;go_wp2;go_ret;exact⟨by rw[hb'.out];rfl,Below.refl _ _⟩
theorem formed3 (s:ByteArray) (h200:s.size<=200) (b:Bool) (hb:b=true↔Formed 3 s.data.toList) (w:World) (hT:TT w):
  Calls Tryz.prog 215 #[.int .i64 3,.string s] w fun e w'=>e=.returned (.bool b)/\Below w.heap.size w w':=by
 have hF:Formed 3 s.data.toList↔∃n,IsInt s.data.toList n:=⟨fun h=>h.nu rfl,fun h=>⟨fun e=>(by omega),fun _=>h,fun e=>(by omega)⟩⟩;rw[hF] at hb;clear hF;have hI:∃n,Hid True/\∀w,Tabs w->Calls Tryz.prog 245 #[.string s] w fun e w'=>e=.returned (.tuple #[.int .i64 n,.bool b])/\Below w.heap.size w w':=by
  rcases int_or s.data.toList with⟨n,hn⟩ | hn
  ·have:b=true:=hb.2 ⟨n,hn⟩;rw[this];exact⟨n,hide trivial,fun w hT=>zL5 s (by omega) n hn w hT⟩
  ·have:b=false:=by cases b with | false=>rfl | true=>obtain⟨n,h⟩:=hb.1 rfl;exact absurd h (hn n)
   rw[this];exact⟨0,hide trivial,fun w hT=>zOl s (by omega) hn w hT⟩
 obtain⟨n,_,hI⟩:=hI;clear hb;go_enter Tryz.func215,Tryz.ntmps215;go_wp2_with (go_at_call 245;fail);refine (hI _ hT.tabs).mono ?_;rintro e w1 ⟨rfl,hb1⟩;go_wp2;go_ret;exact⟨rfl,hb1⟩
theorem formed4 (s:ByteArray) (h200:s.size<=200) (b:Bool) (hb:b=true↔Formed 4 s.data.toList) (w:World) (hT:TT w):
  Calls Tryz.prog 215 #[.int .i64 4,.string s] w fun e w'=>e=.returned (.bool b)/\Below w.heap.size w w':=by
 have hF:Formed 4 s.data.toList↔IsText s:=⟨fun h=>h.pl rfl,fun h=>⟨fun e=>(by omega),fun e=>(by omega),fun _=>h⟩⟩;rw[hF] at hb;clear hF;by_cases h:IsText s
 ·have hb':Hid (b=true):=hide (hb.2 h);clear hb;obtain⟨p,q,hp,hq,e⟩:=h;have hP:=fun w hT=>zPq s (by omega) p q hp hq e w hT
  clear e;go_enter Tryz.func215,Tryz.ntmps215;go_wp2_with (go_at_call 246;fail);refine (hP _ hT.tabs).mono ?_;rintro e w1 ⟨rfl,hb1⟩;go_wp2;go_ret;exact⟨by rw[hb'.out];rfl,hb1⟩
 ·have hb':Hid (b=false):=hide (by cases b with | false=>rfl | true=>exact absurd (hb.1 rfl) h);have hP:=fun w hT=>parse_no s (by omega) h w hT
  clear hb h;go_enter Tryz.func215,Tryz.ntmps215;go_wp2_with (go_at_call 246;fail);refine (hP _ hT.tabs).mono ?_;rintro e w1 ⟨rfl,hb1⟩;go_wp2;go_ret;exact⟨by rw[hb'.out];rfl,hb1⟩
theorem zLp (x:Int) (hx:1<=x/\x<=4) (s:ByteArray) (h200:s.size<=200) (b:Bool) (hb:b=true↔Formed x s.data.toList) (w:World) (hT:TT w):
  Calls Tryz.prog 215 #[.int .i64 x,.string s] w fun e w'=>e=.returned (.bool b)/\Below w.heap.size w w':=by
 have:x=1\/x=2\/x=3\/x=4:=by omega
 rcases this with rfl | rfl | rfl | rfl
 ·exact formed1 s h200 b hb w
 ·exact formed2 s b hb w
 ·exact formed3 s h200 b hb w hT
 ·exact formed4 s h200 b hb w hT
open Classical in
noncomputable def norm (n v:List UInt8):List UInt8 × Int:=
 if (typ n).2=0 then ([],5)
 else if (typ n).2=5 then ([],1)
 else if v.length<1\/200<v.length\/¬Formed (typ n).2 v then ([],2)
 else if (typ n).2=1 then (nt v,0)
 else (v,0)
inductive Road (n v:List UInt8):Prop where
 | none (h:(typ n).2=0) (r:norm n v=([],5))
 | name (h:(typ n).2=5) (r:norm n v=([],1))
 | short (h:1<=(typ n).2/\(typ n).2<=4) (k:v.length<1) (r:norm n v=([],2))
 | long (h:1<=(typ n).2/\(typ n).2<=4) (k:200<v.length) (r:norm n v=([],2))
 | form (h:1<=(typ n).2/\(typ n).2<=4) (k:1<=v.length/\v.length<=200) (f:¬Formed (typ n).2 v) (r:norm n v=([],2))
 | text (h:(typ n).2=1) (k:1<=v.length/\v.length<=200) (f:Formed (typ n).2 v) (r:norm n v=(nt v,0))
 | same (h:2<=(typ n).2/\(typ n).2<=4) (k:1<=v.length/\v.length<=200) (f:Formed (typ n).2 v) (r:norm n v=(v,0))
theorem road (n v:List UInt8):Road n v:=by
 have hr:=zSx n;by_cases h0:(typ n).2=0
 ·exact .none h0 (by unfold norm;rw[if_pos h0])
 ·by_cases h5:(typ n).2=5
  ·exact .name h5 (by unfold norm;rw[if_neg h0,if_pos h5])
  ·have h14:1<=(typ n).2/\(typ n).2<=4:=by omega
   by_cases k1:v.length<1
   ·exact .short h14 k1 (by unfold norm;rw[if_neg h0,if_neg h5,if_pos (Or.inl k1)])
   ·by_cases k2:200<v.length
    ·exact .long h14 k2 (by unfold norm;rw[if_neg h0,if_neg h5,if_pos (Or.inr (Or.inl k2))])
    ·by_cases f:Formed (typ n).2 v
     ·have hno:¬(v.length<1\/200<v.length\/¬Formed (typ n).2 v):=by
       rintro (h | h | h)
       ·exact k1 h
       ·exact k2 h
       ·exact h f
      by_cases h1:(typ n).2=1
      ·exact .text h1 ⟨by omega,by omega⟩ f (by unfold norm;rw[if_neg h0,if_neg h5,if_neg hno,if_pos h1])
      ·exact .same ⟨by omega,by omega⟩ ⟨by omega,by omega⟩ f (by unfold norm;rw[if_neg h0,if_neg h5,if_neg hno,if_neg h1])
     ·exact .form h14 ⟨by omega,by omega⟩ f (by unfold norm;rw[if_neg h0,if_neg h5,if_pos (Or.inr (Or.inr f))])
theorem zB5 {x:Int} (h:1<=x/\x<=4):((x==0)=false)/\((x==5)=false):=⟨beq_false_of_ne (by omega),beq_false_of_ne (by omega)⟩
theorem zBy (s:ByteArray) (h:s.size<=281474976710656) (w:World):
  Calls Tryz.prog 45 #[.string s] w fun e w'=>e=.returned (.string s)/\Below w.heap.size w w':=by
 have hC:=fun w=>Tryz.stringslite_Clone s w h
 go_enter Tryz.func45,Tryz.ntmps45;go_wp2_with (go_at_call 78;fail);refine (hC _).mono ?_;rintro e w1 ⟨rfl,hb⟩;go_wp2;go_ret;exact⟨rfl,hb⟩
theorem zEt (n v:ByteArray) (hv:v.size<=281474976710656) (w:World) (hT:TT w):
  Calls Tryz.prog 188 #[.string n,.string v] w fun e w'=>e=.returned (.tuple #[.string (txt (norm n.data.toList v.data.toList).1),.int .i64 (norm n.data.toList v.data.toList).2])/\Below w.heap.size w w':=by
 have hTy:=zB1 n w hT.types;have hF:=fun (hx:1<=(typ n.data.toList).2/\(typ n.data.toList).2<=4) h200 b hb w hT=>zLp (typ n.data.toList).2 hx v h200 b hb w hT
 have hN:=fun h w=>zSp v h w
 have hC:=fun w=>zBy v hv w
 have hsz:=Lib.size_eq v;have hR:=road n.data.toList v.data.toList;have hself:txt v.data.toList=v:=(zCy v _ rfl).symm;generalize hl:v.data.toList=l at *;generalize hn:n.data.toList=m at *;obtain⟨X,hX⟩:∃X,txt (typ m).1=X:=⟨_,rfl⟩;rw[hX] at hTy;obtain⟨x,hx⟩:∃x,(typ m).2=x:=⟨_,rfl⟩;rw[hx] at hTy hF;have hlT:=fun w1 (h:Below w.heap.size w w1)=>hT.below h
 cases hR with
 | none h r=>
  obtain rfl:x=0:=by omega
  rw[r];clear hF hN hC hself hX hx h r;go_enter Tryz.func188,Tryz.ntmps188;go_wp2_with (go_at_call 104;fail);refine hTy.mono ?_;rintro e w1 ⟨rfl,hb1⟩;go_wp2;go_ret2;exact⟨rfl,hb1⟩
 | name h r=>
  obtain rfl:x=5:=by omega
  rw[r];clear hF hN hC hself hX hx h r;go_enter Tryz.func188,Tryz.ntmps188;go_wp2_with (go_at_call 104;fail);refine hTy.mono ?_;rintro e w1 ⟨rfl,hb1⟩;go_wp2;go_ret2;exact⟨rfl,hb1⟩
 | short h k r=>
  rw[hx] at h;obtain⟨e0,e5⟩:=zB5 h;have hk:((v.size:Int)<1):=by omega
  rw[r];clear hF hN hC hself hX hx h r;go_enter Tryz.func188,Tryz.ntmps188;go_wp2_with (go_at_call 104;fail);refine hTy.mono ?_;rintro e w1 ⟨rfl,hb1⟩;go_wp2;go_ret2;exact⟨rfl,hb1⟩
 | long h k r=>
  rw[hx] at h;obtain⟨e0,e5⟩:=zB5 h;have hk:¬((v.size:Int)<1):=by omega
  have hk2:((200:Int)<(v.size:Int)):=by omega
  rw[r];clear hF hN hC hself hX hx h r;go_enter Tryz.func188,Tryz.ntmps188;go_wp2_with (go_at_call 104;fail);refine hTy.mono ?_;rintro e w1 ⟨rfl,hb1⟩;go_wp2;go_ret2;exact⟨rfl,hb1⟩
 | form h k f r=>
  rw[hx] at h f;obtain⟨e0,e5⟩:=zB5 h;have hk:¬((v.size:Int)<1):=by omega
  have hk2:¬((200:Int)<(v.size:Int)):=by omega
  have hFo:=fun w hT=>hF h (by omega) false (by simp[f]) w hT
  rw[r];clear hF hN hC hself hX hx h r f;go_enter Tryz.func188,Tryz.ntmps188;go_wp2_with (go_at_call 104;fail);refine hTy.mono ?_;rintro e w1 ⟨rfl,hb1⟩;go_wp2_with (go_at_call 215;fail);refine (hFo _ (hlT _ hb1)).mono ?_;rintro e w2 ⟨rfl,hb2⟩;go_wp2;go_ret2;exact⟨rfl,hb1.trans (hb2.mono hb1.size)⟩
 | text h k f r=>
  obtain rfl:x=1:=by omega
  rw[h] at f;have hk:¬((v.size:Int)<1):=by omega
  have hk2:¬((200:Int)<(v.size:Int)):=by omega
  have hFo:=fun w hT=>hF ⟨by omega,by omega⟩ (by omega) true (by simp[f]) w hT
  have hNo:=fun w=>hN (by omega) w
  rw[r];simp only;generalize txt (nt l)=Y at *;clear hF hN hC hself hX hx h r f;go_enter Tryz.func188,Tryz.ntmps188;go_wp2_with (go_at_call 104;fail);refine hTy.mono ?_;rintro e w1 ⟨rfl,hb1⟩;go_wp2_with (go_at_call 215;fail);refine (hFo _ (hlT _ hb1)).mono ?_;rintro e w2 ⟨rfl,hb2⟩;go_wp2_with (go_at_call 216;fail);refine (hNo _).mono ?_;rintro e w3 ⟨rfl,hb3⟩;go_wp2;go_ret2;have hb12:=hb1.trans (hb2.mono hb1.size);exact⟨rfl,hb12.trans (hb3.mono hb12.size)⟩
 | same h k f r=>
  rw[hx] at h f;obtain⟨e0,e5⟩:=zB5 (x:=x) ⟨by omega,by omega⟩;have e1:(x==1)=false:=beq_false_of_ne (by omega);have hk:¬((v.size:Int)<1):=by omega
  have hk2:¬((200:Int)<(v.size:Int)):=by omega
  have hFo:=fun w hT=>hF ⟨by omega,by omega⟩ (by omega) true (by simp[f]) w hT
  rw[r];simp only;rw[hself];clear hF hN hself hX hx h r f;go_enter Tryz.func188,Tryz.ntmps188;go_wp2_with (go_at_call 104;fail);refine hTy.mono ?_;rintro e w1 ⟨rfl,hb1⟩;go_wp2_with (go_at_call 215;fail);refine (hFo _ (hlT _ hb1)).mono ?_;rintro e w2 ⟨rfl,hb2⟩;go_wp2_with (go_at_call 45;fail);refine (hC _).mono ?_;rintro e w3 ⟨rfl,hb3⟩;go_wp2;go_ret2;have hb12:=hb1.trans (hb2.mono hb1.size);exact⟨rfl,hb12.trans (hb3.mono hb12.size)⟩
structure IntPost (s:ByteArray) (w:World) (e:Ending) (w':World):Prop where
 out:∃(n:Int) (ok:Bool),e=.returned (.tuple #[.int .i64 n,.bool ok])/\(ok=false->n=0)/\intR s.data.toList=(if ok then some n else none)/\w'=w
theorem zDk {l:List UInt8} {n:Nat} (h:Lib.decFrom 0 l=some n) (hl:l.length<=18):n<=999999999999999999:=by
 have:=Lib.decFrom_lt18 h hl;omega
theorem zG8 (s:ByteArray) (h:s.size=0) (w:World):
  Calls Tryz.prog 166 #[.string s] w (IntPost s w):=by
 have hnone:intR s.data.toList=none:=by have h1:=Lib.size_eq s;have h2:s.data.toList=[]:=List.length_eq_zero_iff.1 (by omega);rw[h2];rfl
 have h0:(s.size:Int)=0:=by omega
 go_enter Tryz.func166,Tryz.ntmps166;go_wp2;go_ret2;exact⟨0,false,rfl,fun _=>rfl,hnone,rfl⟩
theorem zHa (s:ByteArray) (b:UInt8) (r:List UInt8) (h:s.data.toList=b::r) (e45:((b.toNat:Int)==45)=false) (w:World):
  Calls Tryz.prog 166 #[.string s] w (IntPost s w):=by
 have hsz:=Lib.size_eq s;rw[h] at hsz;have hs0:0<s.size:=by rw[hsz];simp
 have hs1:(0:Int)<(s.size:Int):=by omega
 have hb0:s[0]'hs0=b:=by have h1:=Lib.data_getElem? s 0 hs0;rw[h] at h1;exact (Option.some.inj h1).symm
 have hne:b≠45:=by rintro rfl;simp at e45
 have hint0:Hid (intR s.data.toList=if 18<(b::r).length\/(b=48/\1<(b::r).length) then none else (Lib.decFrom 0 (b::r)).map fun (n:Nat)=>(n:Int)):=by refine hide ?_;rw[h];unfold intR;simp[hne]
 have hSL:Hid (s.size=(b::r).length):=hide hsz;have hL:Hid ((b::r)=s.data.toList):=hide h.symm;clear h hsz hne;have h1:¬((s.size:Int)<1):=by omega
 go_enter Tryz.func166,Tryz.ntmps166;by_cases hN9:18<s.size
 ·have h2:((18:Int)<(s.size:Int)):=by omega
  have hnone:intR s.data.toList=none:=by rw[hint0.out,if_pos (Or.inl (by rw[<-hSL.out];exact hN9))]
  go_wp2;go_ret2;exact⟨0,false,rfl,fun _=>rfl,hnone,rfl⟩
 ·have h2:¬((18:Int)<(s.size:Int)):=by omega
  by_cases h48:b=48
  ·subst h48;have e48:(((48:UInt8).toNat:Int)==48)=true:=rfl;by_cases hN1:1<s.size
   ·have h3:((1:Int)<(s.size:Int)):=by omega
    have hnone:intR s.data.toList=none:=(by rw[hint0.out,if_pos (Or.inr ⟨rfl,by rw[<-hSL.out];exact hN1⟩)]);go_wp2;go_ret2;exact⟨0,false,rfl,fun _=>rfl,hnone,rfl⟩
   ·have h3:¬((1:Int)<(s.size:Int)):=by omega
    have hint:Hid (intR s.data.toList=(Lib.decFrom 0 (48::r)).map fun (n:Nat)=>(n:Int)):=hide (by rw[hint0.out,if_neg];rw[<-hSL.out];omega);clear hint0;go_wp2
    go_loopg [6,7] s.size (fun g s6 s7 wx=>∃(i n:Nat),i+g=s.size/\s6=.int .i64 (n:Int)/\s7=.int .i64 (i:Int)/\wx=w/\Hid (Lib.decFrom 0 ((48::r).take i)=some n)/\n<=999999999999999999)
    case atStart=>exact⟨0,0,by omega,rfl,rfl,rfl,hide rfl,by omega⟩
    case round=>
     obtain⟨i,n,hig,rfl,rfl,rfl,hdec,hn9⟩:=hrel;cases gk with
     | zero=>
      obtain rfl:i=s.size:=by omega
      have hiz:¬((s.size:Int)<(s.size:Int)):=(by omega);have hd:Lib.decFrom 0 (48::r)=some n:=(by have:=hdec.out;rw[List.take_of_length_le (by rw[<-hSL.out];exact Nat.le_refl _)] at this;exact this);have hsome:intR s.data.toList=some ((n:Int)):=(by rw[hint.out,hd];rfl);replace hsome:=hide hsome;go_wp2;go_ret2;exact⟨(n:Int),true,rfl,fun h=>(by cases h),hsome.out,rfl⟩
     | succ g=>
      have hi:i<s.size:=(by omega);have hiz:(i:Int)<(s.size:Int):=(by omega);obtain⟨x,hx⟩:∃x:UInt8,s[i]'hi=x:=⟨_,rfl⟩;have hxl:(48::r)[i]?=some x:=by rw[hL.out,<-hx];exact Lib.data_getElem? s i hi
      have Hx:=hide hxl;clear hxl;by_cases hd1:(x.toNat:Int)<48
      ·have hnone:intR s.data.toList=none:=by
        rw[hint.out,zA2 _ 0 i x Hx.out (by unfold Lib.digitVal;rw[if_neg (by omega)])];rfl
       replace hnone:=hide hnone;go_wp2;go_ret2;exact⟨0,false,rfl,fun _=>rfl,hnone.out,rfl⟩
      ·by_cases hd2:(57:Int)<(x.toNat:Int)
       ·have hnone:intR s.data.toList=none:=by
         rw[hint.out,zA2 _ 0 i x Hx.out (by unfold Lib.digitVal;rw[if_neg (by omega)])];rfl
        replace hnone:=hide hnone;go_wp2;go_ret2;exact⟨0,false,rfl,fun _=>rfl,hnone.out,rfl⟩
       ·have hv:Lib.digitVal x=some (x.toNat-48):=by unfold Lib.digitVal;rw[if_pos (by omega)]
        have hdn:=Lib.decFrom_take (48::r) i 0 n x (x.toNat-48) hdec.out Hx.out hv;have hb9:=zDk hdn (by rw[List.length_take];omega);replace hdn:=hide hdn;go_wp2
        go_roundg g
        case measure=>omega
        case rel=>exact⟨i+1,n*10+(x.toNat-48),by omega,by go_num,by go_num,rfl,hdn,hb9⟩
  ·have e48:((b.toNat:Int)==48)=false:=beq_false_of_ne (fun e=>h48 (zCp (by have:(48:UInt8).toNat=48:=rfl;omega)));have hint:Hid (intR s.data.toList=(Lib.decFrom 0 (b::r)).map fun (n:Nat)=>(n:Int)):=hide (by rw[hint0.out,if_neg];rw[<-hSL.out];rintro (h | h);omega;exact h48 h.1);clear hint0;go_wp2
   go_loopg [6,7] s.size (fun g s6 s7 wx=>∃(i n:Nat),i+g=s.size/\s6=.int .i64 (n:Int)/\s7=.int .i64 (i:Int)/\wx=w/\Hid (Lib.decFrom 0 ((b::r).take i)=some n)/\n<=999999999999999999)
   case atStart=>exact⟨0,0,by omega,rfl,rfl,rfl,hide rfl,by omega⟩
   case round=>
    obtain⟨i,n,hig,rfl,rfl,rfl,hdec,hn9⟩:=hrel;cases gk with
    | zero=>
     obtain rfl:i=s.size:=by omega
     have hiz:¬((s.size:Int)<(s.size:Int)):=(by omega);have hd:Lib.decFrom 0 (b::r)=some n:=(by have:=hdec.out;rw[List.take_of_length_le (by rw[<-hSL.out];exact Nat.le_refl _)] at this;exact this);have hsome:intR s.data.toList=some ((n:Int)):=(by rw[hint.out,hd];rfl);replace hsome:=hide hsome;go_wp2;go_ret2;exact⟨(n:Int),true,rfl,fun h=>(by cases h),hsome.out,rfl⟩
    | succ g=>
     have hi:i<s.size:=(by omega);have hiz:(i:Int)<(s.size:Int):=(by omega);obtain⟨x,hx⟩:∃x:UInt8,s[i]'hi=x:=⟨_,rfl⟩;have hxl:(b::r)[i]?=some x:=by rw[hL.out,<-hx];exact Lib.data_getElem? s i hi
     have Hx:=hide hxl;clear hxl;by_cases hd1:(x.toNat:Int)<48
     ·have hnone:intR s.data.toList=none:=by
       rw[hint.out,zA2 _ 0 i x Hx.out (by unfold Lib.digitVal;rw[if_neg (by omega)])];rfl
      replace hnone:=hide hnone;go_wp2;go_ret2;exact⟨0,false,rfl,fun _=>rfl,hnone.out,rfl⟩
     ·by_cases hd2:(57:Int)<(x.toNat:Int)
      ·have hnone:intR s.data.toList=none:=by
        rw[hint.out,zA2 _ 0 i x Hx.out (by unfold Lib.digitVal;rw[if_neg (by omega)])];rfl
       replace hnone:=hide hnone;go_wp2;go_ret2;exact⟨0,false,rfl,fun _=>rfl,hnone.out,rfl⟩
      ·have hv:Lib.digitVal x=some (x.toNat-48):=by unfold Lib.digitVal;rw[if_pos (by omega)]
       have hdn:=Lib.decFrom_take (b::r) i 0 n x (x.toNat-48) hdec.out Hx.out hv;have hb9:=zDk hdn (by rw[List.length_take];omega);replace hdn:=hide hdn;go_wp2
       go_roundg g
       case measure=>omega
       case rel=>exact⟨i+1,n*10+(x.toNat-48),by omega,by go_num,by go_num,rfl,hdn,hb9⟩
theorem zG9 (s:ByteArray) (b:UInt8) (r:List UInt8) (h:s.data.toList=b::r) (e45:b=45) (w:World):
  Calls Tryz.prog 166 #[.string s] w (IntPost s w):=by
 have hsz:=Lib.size_eq s;rw[h] at hsz;have hs0:0<s.size:=by rw[hsz];simp
 have hs1:(0:Int)<(s.size:Int):=by omega
 have hb0:s[0]'hs0=b:=by have h1:=Lib.data_getElem? s 0 hs0;rw[h] at h1;exact (Option.some.inj h1).symm
 subst e45;have hint0:Hid (intR s.data.toList=if r.length<1\/18<r.length\/r.head?=some 48 then none else (Lib.decFrom 0 r).map fun (n:Nat)=> -(n:Int)):=by
  refine hide ?_;rw[h];unfold intR;simp
 have hXl:(s.extract 1 s.size).data.toList=r:=by rw[zDa,h];rfl
 have hXs:(s.extract 1 s.size).size=s.size-1:=by rw[ByteArray.size_extract];omega
 have hSL:(s.extract 1 s.size).size=r.length:=by rw[Lib.size_eq,hXl]
 have hs2:(1:Int)<=(s.size:Int):=by omega
 have hn1:((1:Int)).toNat=1:=rfl;generalize hX:s.extract 1 s.size=X at *;replace hSL:=hide hSL;replace hXl:=hXl.symm;have hL:Hid (r=X.data.toList):=hide hXl;clear h hsz hXl hXs;go_enter Tryz.func166,Tryz.ntmps166;by_cases hN1:X.size<1
 ·have h1:((X.size:Int)<1):=by omega
  have hnone:intR s.data.toList=none:=by rw[hint0.out,if_pos (Or.inl (by rw[<-hSL.out];exact hN1))]
  go_wp2;go_ret2;exact⟨0,false,rfl,fun _=>rfl,hnone,rfl⟩
 ·have h1:¬((X.size:Int)<1):=by omega
  have hX0:0<X.size:=by omega
  have hX1:(0:Int)<(X.size:Int):=by omega
  obtain⟨c,hc⟩:∃c:UInt8,X[0]'hX0=c:=⟨_,rfl⟩;have hhead:Hid (r.head?=some c):=hide (by
   have:=Lib.data_getElem? X 0 hX0
   rw[<-hL.out,hc] at this
   rw[List.head?_eq_getElem?];exact this)
  by_cases hN9:18<X.size
  ·have h2:((18:Int)<(X.size:Int)):=by omega
   have hnone:intR s.data.toList=none:=by rw[hint0.out,if_pos (Or.inr (Or.inl (by rw[<-hSL.out];exact hN9)))]
   go_wp2;go_ret2;exact⟨0,false,rfl,fun _=>rfl,hnone,rfl⟩
  ·have h2:¬((18:Int)<(X.size:Int)):=by omega
   by_cases h48:c=48
   ·subst h48;have e48:(((48:UInt8).toNat:Int)==48)=true:=rfl;have hnone:intR s.data.toList=none:=by rw[hint0.out,if_pos (Or.inr (Or.inr hhead.out))]
    clear hint0 hhead;by_cases hN2:1<X.size
    ·have h3:((1:Int)<(X.size:Int)):=by omega
     go_wp2;go_ret2;exact⟨0,false,rfl,fun _=>rfl,hnone,rfl⟩
    ·have h3:¬((1:Int)<(X.size:Int)):=by omega
     go_wp2;go_ret2;exact⟨0,false,rfl,fun _=>rfl,hnone,rfl⟩
   ·have e48:((c.toNat:Int)==48)=false:=beq_false_of_ne (fun e=>h48 (zCp (by have:(48:UInt8).toNat=48:=rfl;omega)));have hint:Hid (intR s.data.toList=(Lib.decFrom 0 r).map fun (n:Nat)=> -(n:Int)):=hide (by
     rw[hint0.out,if_neg]
     rw[hhead.out,<-hSL.out]
     rintro (h | h | h)
     ·omega
     ·omega
     ·exact h48 (Option.some.inj h))
    clear hint0 hhead;go_wp2
    go_loopg [6,7] X.size (fun g s6 s7 wx=>∃(i n:Nat),i+g=X.size/\s6=.int .i64 (n:Int)/\s7=.int .i64 (i:Int)/\wx=w/\Hid (Lib.decFrom 0 (r.take i)=some n)/\n<=999999999999999999)
    case atStart=>exact⟨0,0,by omega,rfl,rfl,rfl,hide rfl,by omega⟩
    case round=>
     obtain⟨i,n,hig,rfl,rfl,rfl,hdec,hn9⟩:=hrel;cases gk with
     | zero=>
      obtain rfl:i=X.size:=by omega
      have hiz:¬((X.size:Int)<(X.size:Int)):=(by omega);have hd:Lib.decFrom 0 r=some n:=(by have:=hdec.out;rw[List.take_of_length_le (by rw[<-hSL.out];exact Nat.le_refl _)] at this;exact this);have hsome:intR s.data.toList=some (-(n:Int)):=(by rw[hint.out,hd];rfl);replace hsome:=hide hsome;go_wp2;go_ret2;exact⟨-(n:Int),true,rfl,fun h=>(by cases h),hsome.out,rfl⟩
     | succ g=>
      have hi:i<X.size:=(by omega);have hiz:(i:Int)<(X.size:Int):=(by omega);obtain⟨x,hx⟩:∃x:UInt8,X[i]'hi=x:=⟨_,rfl⟩;have hxl:r[i]?=some x:=by rw[hL.out,<-hx];exact Lib.data_getElem? X i hi
      have Hx:=hide hxl;clear hxl;by_cases hd1:(x.toNat:Int)<48
      ·have hnone:intR s.data.toList=none:=by
        rw[hint.out,zA2 _ 0 i x Hx.out (by unfold Lib.digitVal;rw[if_neg (by omega)])];rfl
       replace hnone:=hide hnone;go_wp2;go_ret2;exact⟨0,false,rfl,fun _=>rfl,hnone.out,rfl⟩
      ·by_cases hd2:(57:Int)<(x.toNat:Int)
       ·have hnone:intR s.data.toList=none:=by
         rw[hint.out,zA2 _ 0 i x Hx.out (by unfold Lib.digitVal;rw[if_neg (by omega)])];rfl
        replace hnone:=hide hnone;go_wp2;go_ret2;exact⟨0,false,rfl,fun _=>rfl,hnone.out,rfl⟩
       ·have hv:Lib.digitVal x=some (x.toNat-48):=by unfold Lib.digitVal;rw[if_pos (by omega)]
        have hdn:=Lib.decFrom_take r i 0 n x (x.toNat-48) hdec.out Hx.out hv;have hb9:=zDk hdn (by rw[List.length_take];omega);replace hdn:=hide hdn;go_wp2
        go_roundg g
        case measure=>omega
        case rel=>exact⟨i+1,n*10+(x.toNat-48),by omega,by go_num,by go_num,rfl,hdn,hb9⟩
theorem zE0 (s:ByteArray) (w:World):Calls Tryz.prog 166 #[.string s] w (IntPost s w):=by
 cases h:s.data.toList with
 | nil=>exact zG8 s (by rw[Lib.size_eq,h];rfl) w
 | cons b r=>
  by_cases h45:b=45
  ·exact zG9 s b r h h45 w
  ·exact zHa s b r h (beq_false_of_ne (fun e=>h45 (zCp (by have:(45:UInt8).toNat=45:=rfl;omega)))) w
theorem zKi (s:ByteArray) (n:Int) (h:IsInt s.data.toList n) (w:World):
  Calls Tryz.prog 166 #[.string s] w fun e w'=>e=.returned (.tuple #[.int .i64 n,.bool true])/\Below w.heap.size w w':=by
 refine (zE0 s w).mono ?_;rintro e w' ⟨m,ok,rfl,_,hr,rfl⟩;rw[intR_yes h] at hr;cases ok
 ·cases hr
 ·obtain rfl:n=m:=by simpa using hr
  exact⟨rfl,Below.refl _ _⟩
theorem zLi (s:ByteArray) (h:∀n,¬IsInt s.data.toList n) (w:World):
  Calls Tryz.prog 166 #[.string s] w fun e w'=>e=.returned (.tuple #[.int .i64 0,.bool false])/\Below w.heap.size w w':=by
 refine (zE0 s w).mono ?_;rintro e w' ⟨m,ok,rfl,h0,hr,rfl⟩;cases ok
 ·rw [h0 rfl];exact⟨rfl,Below.refl _ _⟩
 ·exact absurd (intR_is (by simpa using hr)) (h m)
theorem zN2 (s:ByteArray) (hs:s.size<=281474976710656) (a b:Int) (ha:Small a) (hb:Small b) (h:s.data.toList=text a b) (w:World) (hT:Tabs w):
  Calls Tryz.prog 167 #[.string s] w fun e w'=>e=.returned (.tuple #[.agg #[.int .i64 a,.int .i64 b],.int .i64 0])/\Below w.heap.size w w':=by
 refine (zHo s hs w hT).mono ?_;intro en w' hh;obtain⟨p,q,f,rfl,hf,hbl⟩:=hh.out;rcases hf with⟨rfl,hp,hq,e2⟩ | ⟨_,_,_,hn⟩
 ·obtain ⟨rfl,rfl⟩:=text_inj ha hb hp hq (h.symm.trans e2);exact⟨rfl,hbl⟩
 ·exact absurd ⟨a,b,ha,hb,h⟩ hn
theorem zQa (s:ByteArray) (hs:s.size<=281474976710656) (h:¬IsText s) (w:World) (hT:Tabs w):
  Calls Tryz.prog 167 #[.string s] w fun e w'=>e=.returned (.tuple #[.agg #[.int .i64 0,.int .i64 0],.int .i64 2])/\Below w.heap.size w w':=by
 refine (zHo s hs w hT).mono ?_;intro en w' hh;obtain⟨p,q,f,rfl,hf,hbl⟩:=hh.out;rcases hf with⟨rfl,hp,hq,e2⟩ | ⟨rfl,rfl,rfl,_⟩
 ·exact absurd ⟨p,q,hp,hq,e2⟩ h
 ·exact ⟨rfl,hbl⟩
theorem zDw (n v:ByteArray) (hn48:n.size<=281474976710656) (hv:v.size<=281474976710656) (w:World) (hT:TT w):
  Calls Tryz.prog 124 #[.string n,.string v] w fun e w'=>e=.returned (.tuple #[.string (txt (norm n.data.toList v.data.toList).1),.int .i64 (norm n.data.toList v.data.toList).2])/\Below w.heap.size w w':=by
 have hTy:=fun w=>zB8 n hn48 w
 have hN:=fun h w=>zO5 v h w
 have hiy:=fun m h w=>zKi v m h w
 have hin:=fun h w=>zLi v h w
 have hpy:=fun a b ha hb h w hT=>zN2 v hv a b ha hb h w hT
 have hpn:=fun h w hT=>zQa v hv h w hT
 have hsz:=Lib.size_eq v;have hR:=road n.data.toList v.data.toList;have hself:txt v.data.toList=v:=(zCy v _ rfl).symm;have hit:IsText v↔∃a b,Small a/\Small b/\v.data.toList=text a b:=Iff.rfl;generalize hl:v.data.toList=l at *;generalize hn:n.data.toList=m at *;obtain⟨X,hX⟩:∃X,txt (typ m).1=X:=⟨_,rfl⟩;simp only[hX] at hTy;obtain⟨x,hx⟩:∃x,(typ m).2=x:=⟨_,rfl⟩;simp only[hx] at hTy;have hlT:=fun w1 (h:Below w.heap.size w w1)=>(hT.below h).tabs
 cases hR with
 | none h r=>
  obtain rfl:x=0:=by omega
  rw[r];clear hN hiy hin hpy hpn hself hit hX hx h r;go_enter Tryz.func124,Tryz.ntmps124;go_wp2_with (go_at_call 118;fail);refine (hTy _).mono ?_;rintro e w1 ⟨rfl,hb1⟩;go_wp2;go_ret2;exact⟨rfl,hb1⟩
 | name h r=>
  obtain rfl:x=5:=by omega
  rw[r];clear hN hiy hin hpy hpn hself hit hX hx h r;go_enter Tryz.func124,Tryz.ntmps124;go_wp2_with (go_at_call 118;fail);refine (hTy _).mono ?_;rintro e w1 ⟨rfl,hb1⟩;go_wp2;go_ret2;exact⟨rfl,hb1⟩
 | short h k r=>
  rw[hx] at h;obtain⟨e0,e5⟩:=zB5 h;have hk:((v.size:Int)<1):=by omega
  rw[r];clear hN hiy hin hpy hpn hself hit hX hx h r;go_enter Tryz.func124,Tryz.ntmps124;go_wp2_with (go_at_call 118;fail);refine (hTy _).mono ?_;rintro e w1 ⟨rfl,hb1⟩;go_wp2;go_ret2;exact⟨rfl,hb1⟩
 | long h k r=>
  rw[hx] at h;obtain⟨e0,e5⟩:=zB5 h;have hk:¬((v.size:Int)<1):=by omega
  have hk2:((200:Int)<(v.size:Int)):=by omega
  rw[r];clear hN hiy hin hpy hpn hself hit hX hx h r;go_enter Tryz.func124,Tryz.ntmps124;go_wp2_with (go_at_call 118;fail);refine (hTy _).mono ?_;rintro e w1 ⟨rfl,hb1⟩;go_wp2;go_ret2;exact⟨rfl,hb1⟩
 | form h k f r=>
  rw[hx] at h f;have hk:¬((v.size:Int)<1):=by omega
  have hk2:¬((200:Int)<(v.size:Int)):=by omega
  rw[r];have h4:x=1\/x=2\/x=3\/x=4:=by omega
  rcases h4 with rfl | rfl | rfl | rfl
  ·have hNo:=fun w=>hN (by omega) w
   have he:(txt (rtxt l)).toList.isEmpty=true:=by
    rw[zAb];unfold rtxt;by_cases h0:(0:UInt8)∈l
    ·rw [if_pos h0];rfl
    ·rw [if_neg h0];by_cases h1:nt l=[]
     ·rw [h1];rfl
     ·exact absurd ⟨fun _=>⟨h0,h1⟩,fun e=>(by omega),fun e=>(by omega)⟩ f
   generalize txt (rtxt l)=Y at *;clear hN hiy hin hpy hpn hself hit hX hx h r f;go_enter Tryz.func124,Tryz.ntmps124;go_wp2_with (go_at_call 118;fail);refine (hTy _).mono ?_;rintro e w1 ⟨rfl,hb1⟩;go_wp2_with (go_at_call 165;fail);refine (hNo _).mono ?_;rintro e w2 ⟨rfl,hb2⟩;go_wp2;go_ret2;exact⟨rfl,hb1.trans (hb2.mono hb1.size)⟩
  ·exact absurd ⟨fun e=>(by omega),fun e=>(by omega),fun e=>(by omega)⟩ f
  ·have hI:=fun w=>hin (fun q hq=>f ⟨fun e=>(by omega),fun _=>⟨q,hq⟩,fun e=>(by omega)⟩) w
   clear hN hiy hin hpy hpn hself hit hX hx h r f;go_enter Tryz.func124,Tryz.ntmps124;go_wp2_with (go_at_call 118;fail);refine (hTy _).mono ?_;rintro e w1 ⟨rfl,hb1⟩;go_wp2_with (go_at_call 166;fail);refine (hI _).mono ?_;rintro e w2 ⟨rfl,hb2⟩;go_wp2;go_ret2;exact⟨rfl,hb1.trans (hb2.mono hb1.size)⟩
  ·have hP:=fun w hT=>hpn (fun q=>f ⟨fun e=>(by omega),fun e=>(by omega),fun _=>hit.1 q⟩) w hT
   clear hN hiy hin hpy hpn hself hit hX hx h r f;go_enter Tryz.func124,Tryz.ntmps124;go_wp2_with (go_at_call 118;fail);refine (hTy _).mono ?_;rintro e w1 ⟨rfl,hb1⟩;go_wp2_with (go_at_call 167;fail);refine (hP _ (hlT _ hb1)).mono ?_;rintro e w2 ⟨rfl,hb2⟩;go_wp2;go_ret2;have hb12:=hb1.trans (hb2.mono hb1.size);exact⟨rfl,hb12.trans ((below1 w2 _).mono hb12.size)⟩
 | text h k f r=>
  obtain rfl:x=1:=by omega
  rw[h] at f;have hk:¬((v.size:Int)<1):=by omega
  have hk2:¬((200:Int)<(v.size:Int)):=by omega
  have hNo:=fun w=>hN (by omega) w
  obtain⟨h0,h1⟩:=f.tx rfl;have hrt:rtxt l=nt l:=by unfold rtxt;rw[if_neg h0]
  simp only[hrt] at hNo;have he:(txt (nt l)).toList.isEmpty=false:=by rw[zAb];simpa using h1
  rw[r];simp only;generalize txt (nt l)=Y at *;clear hN hiy hin hpy hpn hself hit hX hx h r f h0 h1 hrt;go_enter Tryz.func124,Tryz.ntmps124;go_wp2_with (go_at_call 118;fail);refine (hTy _).mono ?_;rintro e w1 ⟨rfl,hb1⟩;go_wp2_with (go_at_call 165;fail);refine (hNo _).mono ?_;rintro e w2 ⟨rfl,hb2⟩;go_wp2;go_ret2;exact⟨rfl,hb1.trans (hb2.mono hb1.size)⟩
 | same h k f r=>
  rw[hx] at h f;have hk:¬((v.size:Int)<1):=by omega
  have hk2:¬((200:Int)<(v.size:Int)):=by omega
  rw[r];simp only;rw[hself];have h4:x=2\/x=3\/x=4:=by omega
  rcases h4 with rfl | rfl | rfl
  ·clear hN hiy hin hpy hpn hself hit hX hx h r f;go_enter Tryz.func124,Tryz.ntmps124;go_wp2_with (go_at_call 118;fail);refine (hTy _).mono ?_;rintro e w1 ⟨rfl,hb1⟩;go_wp2;go_ret2;exact⟨rfl,hb1⟩
  ·obtain ⟨q,hq⟩:=f.nu rfl;have hI:=fun w=>hiy q hq w
   clear hN hiy hin hpy hpn hself hit hX hx h r f hq;go_enter Tryz.func124,Tryz.ntmps124;go_wp2_with (go_at_call 118;fail);refine (hTy _).mono ?_;rintro e w1 ⟨rfl,hb1⟩;go_wp2_with (go_at_call 166;fail);refine (hI _).mono ?_;rintro e w2 ⟨rfl,hb2⟩;go_wp2;go_ret2;exact⟨rfl,hb1.trans (hb2.mono hb1.size)⟩
  ·obtain ⟨a,b,ha,hb,hq⟩:=f.pl rfl;have hP:=fun w hT=>hpy a b ha hb hq w hT
   clear hN hiy hin hpy hpn hself hit hX hx h r f hq;go_enter Tryz.func124,Tryz.ntmps124;go_wp2_with (go_at_call 118;fail);refine (hTy _).mono ?_;rintro e w1 ⟨rfl,hb1⟩;go_wp2_with (go_at_call 167;fail);refine (hP _ (hlT _ hb1)).mono ?_;rintro e w2 ⟨rfl,hb2⟩;go_wp2;go_ret2;have hb12:=hb1.trans (hb2.mono hb1.size);exact⟨rfl,hb12.trans ((below1 w2 _).mono hb12.size)⟩
theorem zM5 {n v:List UInt8} (h:(norm n v).2=0):norm n (norm n v).1=((norm n v).1,0):=by
 cases road n v with
 | none _ r=>rw[r] at h;simp at h
 | name _ r=>rw[r] at h;simp at h
 | short _ _ r=>rw[r] at h;simp at h
 | long _ _ r=>rw[r] at h;simp at h
 | form _ _ _ r=>rw[r] at h;simp at h
 | same _ _ _ r=>rw[r];exact r
 | text ht k f r=>
  rw[r];simp only;rw[ht] at f;obtain⟨h0,h1⟩:=f.tx rfl;have hf:Formed 1 (nt v):=⟨fun _=>⟨nt_zero v h0,by rw[nt_nt];exact h1⟩,fun e=>(by omega),fun e=>(by omega)⟩;have hl:=nt_le v;have hp:=List.length_pos_iff.2 h1;unfold norm;rw[ht,if_neg (by omega),if_neg (by omega),if_neg,if_pos rfl,nt_nt];rintro (h | h | h)
  ·omega
  ·omega
  ·exact h hf
theorem norm_len (n v:List UInt8):(norm n v).1.length<=200:=by
 cases road n v with
 | none _ r=>rw[r];simp
 | name _ r=>rw[r];simp
 | short _ _ r=>rw[r];simp
 | long _ _ r=>rw[r];simp
 | form _ _ _ r=>rw[r];simp
 | same _ k _ r=>rw[r];exact k.2
 | text ht k f r=>rw[r];exact Nat.le_trans (nt_le v) k.2
end Go.Proofs.YtdkekamkmlpnhaaGreatDoor
