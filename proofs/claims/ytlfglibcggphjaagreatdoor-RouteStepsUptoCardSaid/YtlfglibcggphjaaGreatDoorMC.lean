/- Several texts in one: RMath, RLow, RLower, RTab, RType, RRef, RText, RRText, RIntMath, RInt, RFormed, RNormal, RRInt, RRNormal, RFew, RTypes, RNormals. By an AI agent. -/
import Derived.Test.YtlfglibcggphjaaGreatDoorWords
import Derived.Lib.AtoiAllCases
import Derived.Lib.ParseIntBTie
import Derived.Lib.ItoaNum
import Derived.Test.YtlfglibcggphjaaGreatDoorSeat
import Derived.BigQuiet
import Derived.Deep.QuietTactic
import Derived.Deep.LoopGhost
import Derived.Handy
import Derived.Lib.Strings
import Derived.Lib.IndexBytes
import Derived.Laws.IdiomStrings
import Derived.Test.YtlfglibcggphjaaGreatDoorMA
import Derived.OpenShut
import Derived.Deep.MidRow
import Derived.Test.YtlfglibcggphjaaGreatDoorShelf
import Derived.Laws.MakeOwn
import Derived.Lib.TrimByte
import Derived.Lib.IndexLaws
import Derived.Test.YtlfglibcggphjaaGreatDoorMB
set_option linter.unusedSimpArgs false
set_option linter.unusedVariables false
set_option maxRecDepth 100000
set_option maxHeartbeats 16000000
namespace Go.Proofs.YtlfglibcggphjaaGreatDoor
open Go.RowKit
def low (b:UInt8):UInt8:=if 65<=b.toNat/\b.toNat<=90 then b+32 else b
def lows (l:List UInt8):List UInt8:=l.map low
theorem zC9 (b:UInt8):(low b).toNat=if 65<=b.toNat/\b.toNat<=90 then b.toNat+32 else b.toNat:=by
 unfold low;split
 ·rw [UInt8.toNat_add];have:(32:UInt8).toNat=32:=rfl;omega
 ·rfl
theorem zJt (b:UInt8):¬(65<=(low b).toNat/\(low b).toNat<=90):=by
 rw[zC9];split<;>omega
theorem zI2 (b:UInt8):low (low b)=low b:=by
 have:=zJt b;rw[show low (low b)=if 65<=(low b).toNat/\(low b).toNat<=90 then low b+32 else low b from rfl,if_neg this]
theorem zA6 (l:List UInt8):(lows l).length=l.length:=by simp[lows]
theorem zFo {a b:UInt8} (h:a.toNat=b.toNat):a=b:=UInt8.toNat_inj.1 h
theorem zJn (b:UInt8) (k:UInt8) (hk:k.toNat<65):low b=k↔b=k:=by
 constructor
 ·intro h;have h1:=zC9 b;rw[h] at h1;split at h1
  ·omega
  ·exact zFo h1.symm
 ·rintro rfl;unfold low;rw[if_neg (by omega)]
def tab:List (List UInt8 × Int):=
 [([111,98,106,101,99,116,67,108,97,115,115],1),([99,110],1),([111,117],1),([111],1),([100,99],1),([117,105,100],1),
  ([100,101,115,99,114,105,112,116,105,111,110],1),([109,97,105,108],1),([117,115,101,114,80,97,115,115,119,111,114,100],2),([114,101,102],2),
  ([115,101,114,105,97,108,78,117,109,98,101,114],3),([112,111,115,105,116,105,111,110],4),
  ([97,108,105,97,115,101,100,79,98,106,101,99,116,78,97,109,101],5),([109,101,109,98,101,114],5)]
def typL:List UInt8->List (List UInt8 × Int)->List UInt8 × Int
 | _,[]=>([],0)
 | l,e::r=>if lows e.1=l then e else typL l r
def typ (n:List UInt8):List UInt8 × Int:=typL (lows n) tab
theorem zDp (l:List UInt8):∀t:List (List UInt8 × Int),(∀e∈t,1<=e.2/\e.2<=5)->0<=(typL l t).2/\(typL l t).2<=5
 | [],_=>by simp[typL]
 | e::r,h=>by
  unfold typL;split
  ·have:=h e (by simp);omega
  ·exact zDp l r fun e he=>h e (by simp[he])
theorem zJq (n:List UInt8):0<=(typ n).2/\(typ n).2<=5:=zDp _ tab (by decide)
def rtStep (s:Bool × List UInt8) (b:UInt8):Bool × List UInt8:=
 if b=32 then (true,s.2) else (false,(if s.1=true/\s.2≠[] then s.2++[32] else s.2)++[low b])
def rtAll (l:List UInt8):Bool × List UInt8:=l.foldl rtStep (false,[])
def nt (l:List UInt8):List UInt8:=(rtAll l).2
theorem zAr (l:List UInt8) (b:UInt8):rtAll (l++[b])=rtStep (rtAll l) b:=by simp[rtAll]
def ntStep (acc:List UInt8) (b:UInt8):List UInt8:=if b=32/\(acc=[]\/acc.getLast?=some 32) then acc else acc++[low b]
def ntAll (l:List UInt8):List UInt8:=l.foldl ntStep []
theorem zDr (l:List UInt8) (b:UInt8):ntAll (l++[b])=ntStep (ntAll l) b:=by simp[ntAll]
theorem zB3 {P:List UInt8->Prop} (h0:P []) (h1:∀l b,P l->P (l++[b])) (l:List UInt8):P l:=by
 have h:∀n (l:List UInt8),l.length=n->P l:=by
  intro n
  induction n with
  | zero=>intro l h;rw[List.length_eq_zero_iff.1 h];exact h0
  | succ n ih=>
   intro l h;have hne:l≠[]:=by intro e;subst e;simp at h
   rw[<-List.dropLast_concat_getLast hne];exact h1 _ _ (ih _ (by simp[h]))
 exact h _ l rfl
theorem nt_inv (l:List UInt8):ntAll l=(rtAll l).2++(if (rtAll l).1=true/\(rtAll l).2≠[] then [32] else [])/\(rtAll l).2.getLast?≠some 32:=by
 induction l using zB3 with
 | h0=>simp[ntAll,rtAll]
 | h1 l b ih=>
  rw[zDr,zAr];generalize rtAll l=s at *;obtain⟨g,o⟩:=s;obtain⟨ih1,ih2⟩:=ih;simp only at ih1 ih2;rw[ih1];by_cases hb:b=32
  ·subst hb;have e1:rtStep (g,o) 32=(true,o):=by simp[rtStep]
   have e32:low 32=32:=by decide
   rw[e1];refine⟨?_,ih2⟩;unfold ntStep;by_cases ho:o=[]
   ·subst ho;simp
   ·cases g
    ·simp [ho,ih2,e32]
    ·simp [ho]
  ·have e1:rtStep (g,o) b=(false,(if g=true/\o≠[] then o++[32] else o)++[low b]):=by simp[rtStep,hb]
   rw[e1];have hl:low b≠32:=fun h=>hb ((zJn b 32 (by decide)).1 h)
   refine⟨?_,by simp[hl]⟩;unfold ntStep;rw[if_neg (by rintro ⟨h,_⟩;exact hb h)];split<;>simp_all
theorem nt_trim (l:List UInt8):nt l=if (ntAll l).getLast?=some 32 then (ntAll l).dropLast else ntAll l:=by
 obtain⟨h1,h2⟩:=nt_inv l;unfold nt;rw[h1];split
 ·simp
 ·simp [h2]
theorem nt_len (l:List UInt8):(rtAll l).2.length+(if (rtAll l).1=true/\(rtAll l).2≠[] then 1 else 0)<=l.length:=by
 induction l using zB3 with
 | h0=>simp[rtAll]
 | h1 l b ih=>
  rw[zAr];generalize rtAll l=s at *;obtain⟨g,o⟩:=s;simp only at ih;by_cases hb:b=32
  ·subst hb;have e1:rtStep (g,o) 32=(true,o):=by simp[rtStep]
   rw[e1];simp only[List.length_append,List.length_singleton];split<;>split at ih<;>omega
  ·have e1:rtStep (g,o) b=(false,(if g=true/\o≠[] then o++[32] else o)++[low b]):=by simp[rtStep,hb]
   rw[e1];simp only[List.length_append,List.length_singleton];split<;>simp_all<;>omega
theorem nt_le (l:List UInt8):(nt l).length<=l.length:=by have:=nt_len l;unfold nt;omega
theorem zHw (l:List UInt8):(ntAll l).length<=l.length:=by
 have h:=nt_len l;rw[(nt_inv l).1];simp only[List.length_append];split<;>split at h<;>simp_all
theorem nt_nil (l:List UInt8):nt l=[]↔∀b∈l,b=32:=by
 unfold nt
 induction l using zB3 with
 | h0=>simp[rtAll]
 | h1 l b ih=>
  rw[zAr];generalize rtAll l=s at *;obtain⟨g,o⟩:=s;by_cases hb:b=32
  ·subst hb;have e1:rtStep (g,o) 32=(true,o):=by simp[rtStep]
   rw[e1];simp only at ih ⊢;rw[ih];simp only[List.mem_append,List.mem_singleton];constructor
   ·rintro h x (hx | hx)
    ·exact h x hx
    ·exact hx
   ·intro h x hx;exact h x (Or.inl hx)
  ·have e1:rtStep (g,o) b=(false,(if g=true/\o≠[] then o++[32] else o)++[low b]):=by simp[rtStep,hb]
   rw[e1];constructor
   ·intro h;simp at h
   ·intro h;exact absurd (h b (by simp)) hb
theorem nt_zero (l:List UInt8) (h:(0:UInt8) ∉ l):(0:UInt8) ∉ nt l:=by
 unfold nt
 induction l using zB3 with
 | h0=>simp[rtAll]
 | h1 l b ih=>
  rw[zAr];have ih':=ih (fun hh=>h (by simp[hh]));have hb0:low b≠0:=fun e=>h (by simp[(zJn b 0 (by decide)).1 e])
  generalize rtAll l=s at *;obtain⟨g,o⟩:=s;unfold rtStep;split
  ·exact ih'
  ·simp only[List.mem_append,List.mem_singleton,not_or];refine⟨?_,fun e=>hb0 e.symm⟩;split
   ·simp only[List.mem_append,List.mem_singleton,not_or];exact⟨ih',by decide⟩
   ·exact ih'
theorem nt_own (l:List UInt8):rtAll (nt l)=(false,nt l):=by
 unfold nt
 induction l using zB3 with
 | h0=>simp[rtAll]
 | h1 l b ih=>
  rw[zAr];generalize rtAll l=s at *;obtain⟨g,o⟩:=s;simp only at ih;by_cases hb:b=32
  ·subst hb;have e1:rtStep (g,o) 32=(true,o):=by simp[rtStep]
   rw[e1];exact ih
  ·have e1:rtStep (g,o) b=(false,(if g=true/\o≠[] then o++[32] else o)++[low b]):=by simp[rtStep,hb]
   have hl:low b≠32:=fun h=>hb ((zJn b 32 (by decide)).1 h)
   rw[e1];simp only;rw[zAr];split
   ·rename_i hg;rw[zAr,ih];have e2:rtStep (false,o) 32=(true,o):=by simp[rtStep]
    rw[e2];simp[rtStep,hl,hg.2,zI2]
   ·rw [ih];simp[rtStep,hl,zI2]
theorem nt_nt (l:List UInt8):nt (nt l)=nt l:=by
 have:=nt_own l;rw[nt,this]
def IsInt (l:List UInt8) (n:Int):Prop:=(-999999999999999999<=n/\n<=999999999999999999)/\l=Lib.itoa n
theorem zDc (b:UInt8) (w:World):
  Calls Tryz.prog 79 #[.int .u8 (b.toNat:Int)] w fun e w'=>e=.returned (.int .u8 ((low b).toNat:Int))/\w'=w:=by
 have hlt:=b.toNat_lt;have hl:=zC9 b;generalize (low b).toNat=L at hl ⊢;generalize b.toNat=x at *;go_enter Tryz.func79,Tryz.ntmps79;by_cases h1:(65:Int)<=(x:Int)
 ·by_cases h2:(x:Int)<=90
  ·have e:L=x+32:=by rw[hl,if_pos (by omega)]
   subst e;clear hl;go_wp2;go_ret;refine⟨?_,rfl⟩;show Ending.returned (Value.int IntKind.u8 ((x:Int)-65+97))=Ending.returned (Value.int IntKind.u8 ((x+32:Nat):Int));congr 2;omega
  ·have e:L=x:=by rw[hl,if_neg (by omega)]
   subst e;clear hl;go_wp2;go_ret;exact⟨rfl,rfl⟩
 ·have e:L=x:=by rw[hl,if_neg (by omega)]
  subst e;clear hl;go_wp2;go_ret;exact⟨rfl,rfl⟩
theorem zHv {w wr:World} (h:∃k,wr=w.drewN k) (n:Nat):∃k,wr.drewN n=w.drewN k:=by
 obtain⟨k,rfl⟩:=h;exact⟨k+n,World.drewN_drewN _ _ _⟩
theorem zKj {l:List UInt8} {i:Nat} {x:UInt8} (h:l[i]?=some x):(lows l)[i]?=some (low x):=by
 unfold lows;rw[List.getElem?_map,h];rfl
theorem zGw (a b:ByteArray) (h48:a.size<=281474976710656) (w:World):
  Calls Tryz.prog 59 #[.string a,.string b] w fun e w'=>e=.returned (.bool (decide (lows a.data.toList=lows b.data.toList)))/\∃k,w'=w.drewN k:=by
 have ha:=Lib.size_eq a;have hb:=Lib.size_eq b;by_cases hab:a.size=b.size
 ·have hz:((a.size:Int)==(b.size:Int))=true:=by simp[hab]
  have H:=hide (p:=a.size=b.size) hab;clear hab;replace ha:=hide ha;replace hb:=hide hb;go_enter Tryz.func59,Tryz.ntmps59;go_wp2
  go_loopg [13] a.size (fun g s13 wx=>∃i:Nat,i+g=a.size/\s13=.int .i64 (i:Int)/\Hid (∃k,wx=w.drewN k)/\∀j,j<i->(lows a.data.toList)[j]?=(lows b.data.toList)[j]?)
  case atStart=>exact⟨0,by omega,rfl,hide ⟨0,rfl⟩,fun j hj=>by omega⟩
  case round=>
   obtain⟨i,hig,rfl,hwr,hpre⟩:=hrel;replace hpre:=hide hpre;cases gk with
   | zero=>
    obtain rfl:i=a.size:=by omega
    have hiz:¬((a.size:Int)<(a.size:Int)):=(by omega);have hd:decide (lows a.data.toList=lows b.data.toList)=true:=by
     refine decide_eq_true ?_;refine List.ext_getElem? fun j=>?_
     by_cases hj:j<a.size
     ·exact hpre.out j hj
     ·rw [List.getElem?_eq_none (by rw[zA6,<-ha.out];omega),List.getElem?_eq_none (by rw[zA6,<-hb.out,<-H.out];omega)]
    replace hd:=hide hd;go_wp2;go_ret;exact⟨by rw[hd.out];rfl,hwr.out⟩
   | succ g=>
    have hi:i<a.size:=(by omega);have hj:i<b.size:=(by rw[<-H.out];exact hi);have hiz:(i:Int)<(a.size:Int):=(by omega);have hjz:(i:Int)<(b.size:Int):=(by omega);obtain⟨x,hx⟩:∃x:UInt8,a[i]'hi=x:=⟨_,rfl⟩;obtain⟨y,hy⟩:∃y:UInt8,b[i]'hj=y:=⟨_,rfl⟩;have Hx:=hide (zKj (by rw[<-hx];exact Lib.data_getElem? a i hi:a.data.toList[i]?=some x));have Hy:=hide (zKj (by rw[<-hy];exact Lib.data_getElem? b i hj:b.data.toList[i]?=some y));by_cases hxy:low x=low y
    ·have hne:(((low x).toNat:Int)!=((low y).toNat:Int))=false:=by rw[hxy];simp
     have hpre':Hid (∀j,j<i+1->(lows a.data.toList)[j]?=(lows b.data.toList)[j]?):=by
      refine hide fun j hj=>?_
      by_cases hj':j<i
      ·exact hpre.out j hj'
      ·obtain rfl:j=i:=by omega
       rw[Hx.out,Hy.out,hxy]
     have h1:=hide hxy;clear hxy hpre;go_wp2
     go_quiet (first | (go_at_call 79;refine Calls.quiet_of_same (zDc _ _)))
     go_wp2
     go_roundg g
     case measure=>omega
     case rel=>exact⟨i+1,by omega,by go_num,hide (zHv hwr.out _),hpre'.out⟩
    ·have hne:(((low x).toNat:Int)!=((low y).toNat:Int))=true:=by
      simp only[bne_iff_ne,ne_eq];intro e;exact hxy (zFo (by omega))
     have hd:decide (lows a.data.toList=lows b.data.toList)=false:=by
      refine decide_eq_false fun e=>hxy ?_
      have:=Hx.out;rw[e,Hy.out] at this;exact (Option.some.inj this).symm
     replace hd:=hide hd;clear hxy hpre;go_wp2
     go_quiet (first | (go_at_call 79;refine Calls.quiet_of_same (zDc _ _)))
     go_wp2;go_ret;exact⟨by rw[hd.out];rfl,zHv hwr.out _⟩
 ·have hz:((a.size:Int)==(b.size:Int))=false:=beq_false_of_ne (by omega);have hd:decide (lows a.data.toList=lows b.data.toList)=false:=by
   refine decide_eq_false fun h=>hab ?_
   have:=congrArg List.length h;rw[zA6,zA6] at this;omega
  go_enter Tryz.func59,Tryz.ntmps59;replace hd:=hide hd;clear hab ha hb;go_wp2;go_ret;exact⟨by rw[hd.out];rfl,0,rfl⟩
open Go.RowKit Go.Lib
def tabCells:List Value:=tab.flatMap fun e=>[.string (txt e.1),.int .i64 e.2]
structure Types (w:World):Prop where
 var:w.var? Tryz.prog "verger/rule.types" =some tabCells.toArray
theorem Types.below {w w':World} (h:Types w) (hb:Below w.heap.size w w'):Types w':=
 ⟨Joins.var_stays (g:=0) (by kernel_rfl) h.var hb (Nat.le_refl _)⟩
def typesData:DataW Unit:=.agg (tab.map fun e=>.agg [.lit (.string e.1),.lit (.int .i64 e.2)])
theorem types_eq:Rows.laid_verger_rule_types (H:=Unit)=typesData:=by kernel_rfl
theorem zC1 {α:Type}:∀(l:List (List α)) (k:Nat),(∀x∈l,x.length=k)->∀(i:Nat) (x:List α),l[i]?=some x->((l.flatten).drop (i*k)).take k=x
 | [],_,_,_,_,h=>by simp at h
 | y::r,k,hl,0,x,h=>by
  simp only[List.getElem?_cons_zero,Option.some.injEq] at h;subst h;have:=hl y (by simp);simp[<-this]
 | y::r,k,hl,i+1,x,h=>by
  simp only[List.getElem?_cons_succ] at h;have:=hl y (by simp);have e:(i+1)*k=y.length+i*k:=by rw[Nat.add_mul,this];omega
  rw[List.flatten_cons,e,<-List.drop_drop,List.drop_left']
  ·exact zC1 r k (fun x hx=>hl x (by simp[hx])) i x h
  ·rfl
theorem zFp {α:Type}:∀(n:Nat) (a b:List α),a.length=n*2->b.length=n*2->(∀i,i<n->(a.drop (i*2)).take 2=(b.drop (i*2)).take 2)->a=b
 | 0,a,b,ha,hb,_=>by
  have e1:a=[]:=List.length_eq_zero_iff.1 (by omega);have e2:b=[]:=List.length_eq_zero_iff.1 (by omega);rw[e1,e2]
 | n+1,a,b,ha,hb,h=>by
  have h0:=h 0 (by omega);simp only[Nat.zero_mul,List.drop_zero] at h0;have ht:a.drop 2=b.drop 2:=by
   refine zFp n _ _ (by rw[List.length_drop];omega) (by rw[List.length_drop];omega) fun i hi=>?_
   have:=h (i+1) (by omega);rw[List.drop_drop,List.drop_drop];rw[show 2+i*2=(i+1)*2 by omega];exact this
  rw[<-List.take_append_drop 2 a,<-List.take_append_drop 2 b,h0,ht]
theorem two_ext {α:Type} {l:List α} {a b:α} (h:l.length=2) (h0:(l.drop 0).take 1=[a]) (h1:(l.drop 1).take 1=[b]):l=[a,b]:=by
 match l,h with
 | [x,y],_=>
  simp at h0 h1;rw[h0,h1]
theorem zB0 (s:ByteArray) (l:List UInt8) (h:s.data.toList=l):s=txt l:=by
 subst h;exact ByteArray.ext (Array.ext' (by simp[txt]))
theorem zEm {W:World} (h:laidMet Tryz.prog laid W):Types W:=by
 have h':laidMet Tryz.prog (_::_::_::_::_::_::_::_::[]) W:=h;have hr:VarReads Tryz.prog W "verger/rule.types" typesData:=types_eq ▸ Lib.laidMet.reads h' (by simp)
 obtain⟨g,t,cs,fuel,p,hg,hty,hvar,hd⟩:=hr;obtain rfl:=Option.some.inj ((show Tryz.prog.globalNamed "verger/rule.types" =some 0 by kernel_rfl).symm.trans hg)
 obtain rfl:=Option.some.inj ((show (Tryz.prog.globals[0]?).map (·.type)=some 128 by kernel_rfl).symm.trans hty);refine⟨?_⟩;rw[hvar];congr 1;obtain⟨xs,m,rfl,hx,hl,hxl,hall⟩:=DataW.trod_array Tryz.underlying128 hd;have hxs:xs.map (·.1)=tab.map fun e=>(DataW.agg [.lit (.string e.1),.lit (.int .i64 e.2)]:DataW Unit):=by have:=congrArg Prod.fst hx;simpa[typesData] using this.symm
 have hlen:cs.toList.length=28:=by rw[hl];kernel_rfl
 refine Array.ext' ?_;refine zFp 14 _ _ hlen (by simp[tabCells,tab]) fun i hi=>?_
 have h1:=hall i hi;have hc2:Tryz.prog.cellsOf 127=2:=by kernel_rfl
 rw[hc2] at h1;have hit:i<tab.length:=by simpa[tab] using hi
 obtain⟨e,he⟩:∃e,tab[i]?=some e:=⟨_,List.getElem?_eq_getElem hit⟩;obtain⟨b,hb⟩:∃b,xs[i]?=some b:=⟨xs[i]'(by omega),List.getElem?_eq_getElem (by omega)⟩;rw[hb] at h1;have hb1:b.1=.agg [.lit (.string e.1),.lit (.int .i64 e.2)]:=by
  have:(xs.map (·.1))[i]?=some b.1:=by simp[hb]
  rw[hxs] at this;simpa[he] using this.symm
 generalize hcut:(cs.toList.drop (i*2)).take 2=cut at h1;have hR:(tabCells.toArray.toList.drop (i*2)).take 2=[.string (txt e.1),.int .i64 e.2]:=by
  have:=zC1 (tab.map fun e=>[Value.string (txt e.1),.int .i64 e.2]) 2 (by intro x hx;obtain⟨e',_,rfl⟩:=List.mem_map.1 hx;rfl) i [.string (txt e.1),.int .i64 e.2] (by simp[he]);simpa[tabCells,List.flatMap] using this
 rw[hR];obtain⟨ys,n,rfl,hy,hyl,hyl2,hyall⟩:=DataW.trod_struct Tryz.underlying127 h1;have hys:ys.map (·.1)=[.lit (.string e.1),.lit (.int .i64 e.2)]:=by
  have:=congrArg Prod.fst hy;rw[hb1] at this;simpa using this.symm
 obtain⟨y0,y1,rfl⟩:∃y0 y1,ys=[y0,y1]:=by
  match ys,hys with
  | [y0,y1],_=>exact⟨y0,y1,rfl⟩
 simp only[List.map_cons,List.map_nil,List.cons.injEq,and_true] at hys;have f0:=hyall 0 _ rfl;have f1:=hyall 1 _ rfl;change DataW.trod _ _ _ _ _ _ _ 9 ((cut.drop 0).take (Tryz.prog.cellsOf 9))=some y0 at f0;change DataW.trod _ _ _ _ _ _ _ 3 ((cut.drop 1).take (Tryz.prog.cellsOf 3))=some y1 at f1;rw[show Tryz.prog.cellsOf 9=1 by kernel_rfl] at f0;rw[show Tryz.prog.cellsOf 3=1 by kernel_rfl] at f1;obtain⟨s,hs,rfl,_⟩:=DataW.trod_string Tryz.underlying9 f0;obtain⟨z,hz,rfl,_⟩:=DataW.trod_int Tryz.underlying3 f1;obtain⟨hs1,hz1⟩:=hys;simp only[DataW.lit.injEq,Lit.string.injEq,Lit.int.injEq,true_and] at hs1 hz1;have hcl:cut.length=2:=by rw[hyl];kernel_rfl
 rw[two_ext hcl hs hz,hz1,zB0 s e.1 hs1]
theorem tab_cell {w:World} (hT:Types w) (j:Nat) (v:Value) (hv:tabCells[j]?=some v):w.cell? ⟨0,j,none⟩=some v:=by
 have:=World.var?_cell (show Tryz.prog.globalNamed "verger/rule.types" =some 0 by kernel_rfl) hT.var j
 rw[this];simpa using hv
theorem typ_hit {l n:List UInt8} {s:Int} {i:Nat} (h:tab[i]?=some (n,s)) (hl:lows n=lows l) (hpre:∀(j:Nat) (e:List UInt8 × Int),j<i->tab[j]?=some e->lows e.1≠lows l):typ l=(n,s):=by
 have key:∀(t:List (List UInt8 × Int)) (i:Nat),t[i]?=some (n,s)->(∀(j:Nat) (e:List UInt8 × Int),j<i->t[j]?=some e->lows e.1≠lows l)->typL (lows l) t=(n,s):=by
  intro t
  induction t with
  | nil=>intro i h;simp at h
  | cons e r ih=>
   intro i h hp;cases i with
   | zero=>
    simp only[List.getElem?_cons_zero,Option.some.injEq] at h;subst h;unfold typL;rw[if_pos hl]
   | succ i=>
    unfold typL;rw[if_neg (hp 0 e (by omega) rfl)];exact ih i (by simpa using h) fun j e' hj he'=>hp (j+1) e' (by omega) (by simpa using he')
 exact key tab i h hpre
theorem typ_miss {l:List UInt8} (hpre:∀(j:Nat) (e:List UInt8 × Int),j<14->tab[j]?=some e->lows e.1≠lows l):typ l=([],0):=by
 have key:∀(t:List (List UInt8 × Int)),(∀(j:Nat) (e:List UInt8 × Int),t[j]?=some e->lows e.1≠lows l)->typL (lows l) t=([],0):=by
  intro t
  induction t with
  | nil=>intro _;rfl
  | cons e r ih=>
   intro hp;unfold typL;rw[if_neg (hp 0 e rfl)];exact ih fun j e' he'=>hp (j+1) e' (by simpa using he')
 refine key tab fun j e he=>hpre j e ?_ he
 have:=(List.getElem?_eq_some_iff.1 he).1;simpa[tab] using this
theorem belowA (w:World) (o:Obj):Below w.heap.size w (w.alloc o):=(Below.refl _ w).alloc (Nat.le_refl _) _
structure Entry (s:ByteArray) (n:ByteArray) (b:Bool):Prop where
 run:∀w,Calls Tryz.prog 59 #[.string n,.string s] w fun e w'=>e=.returned (.bool b)/\∃k,w'=w.drewN k
theorem entry_of (s:ByteArray) (l:List UInt8) (h:l.length<100):Entry s (txt l) (decide (lows l=lows s.data.toList)):=by
 refine⟨fun w=>?_⟩;have hsz:(txt l).size<=281474976710656:=by
  have h1:=Lib.size_eq (txt l);rw[zAd] at h1;omega
 have:=zGw (txt l) s hsz w;rw[zAd] at this;exact this
structure First (T:List (ByteArray × Int × Bool)) (n:ByteArray) (x:Int):Prop where
 hit:∀(i:Nat) (e:ByteArray × Int × Bool),T[i]?=some e->e.2.2=true->(∀(j:Nat) (e:ByteArray × Int × Bool),j<i->T[j]?=some e->e.2.2=false)->e.1=n/\e.2.1=x
 miss:(∀(j:Nat) (e:ByteArray × Int × Bool),j<14->T[j]?=some e->e.2.2=false)->n=⟨#[]⟩/\x=0
theorem zEk (C:Array Value) (i:Nat) (hi:i<14) (u v:Value) (hc:(C.toList.drop (i*2)).take 2=[u,v]) (w:World):
  (Instr.index 128 (.agg C) (.int .i64 (i:Int))).run Tryz.prog w=.ok (.agg #[u,v]) w:=by
 have hn:(0:Int)<=(i:Int)/\(i:Int)<14:=by omega
 have hI:(Tryz.prog.info? 127).map (·.size)=some 2:=by kernel_rfl
 have hS:=Tryz.underlying127;have hA:=Tryz.underlying128;cases hq:Tryz.prog.info? 127 with
 | none=>simp[hq] at hI
 | some inf=>
  have hs:inf.size=2:=by simpa[hq] using hI
  simp[Instr.index,run_underlying hA,run_underlying hS,asIntOf,hn,sizeOf,typeInfo,hq,hs,isAgg,go_sem];rw[if_pos hi];have e:C.extract (i*2) (i*2+2)=#[u,v]:=by
   refine Array.ext' ?_;rw[Array.toList_extract];simp only[List.extract];rw[show i*2+2-i*2=2 by omega,hc]
  rw[e]
theorem zKk (s:ByteArray) (w:World) (Cl:List Value) (T:List (ByteArray × Int × Bool)) (n:ByteArray) (x:Int) (hlen:T.length=14)
  (hc:w.rangeAt 0 0 Cl) (hi28:(Tryz.prog.info? 128).map (·.size)=some Cl.length)
  (hix:∀(i:Nat) (e:ByteArray × Int × Bool),T[i]?=some e->∀w,(Instr.index 128 (.agg Cl.toArray) (.int .i64 (i:Int))).run Tryz.prog w=.ok (.agg #[.string e.1,.int .i64 e.2.1]) w)
  (hE:∀(i:Nat) (e:ByteArray × Int × Bool),T[i]?=some e->Entry s e.1 e.2.2) (HF:First T n x):
  Calls Tryz.prog 46 #[.string s] w fun e w'=>e=.returned (.tuple #[.string n,.int .i64 x])/\Below w.heap.size w w':=by
 replace hix:=hide hix;replace hE:=hide hE;replace hlen:=hide hlen;go_enter Tryz.func46,Tryz.ntmps46;replace hi28:=hide hi28;generalize hC:Cl.toArray=C at hix;replace hC:=hide hC;have hld:∀{ops:Array Oper} {rest:List Oper} {op:Oper} {a:Act} {Q:Exit->Act->World->Prop},op.guard=none->op.op=.load 128 (.global 0)->
   wpList Tryz.prog ops Q rest (a.put op.dst (.agg C)) w->wpList Tryz.prog ops Q (op::rest) a w:=by
  intro ops rest op a Q h1 h2 h3;refine wpList_load_mid h1 _ _ h2 0 0 rfl Cl _ hc Tryz.underlying128 rfl hi28.out ?_;rw[hC.out];exact h3
 clear hi28 hc;go_wp2_with (refine hld rfl rfl ?_);clear hld
 go_loopg [7] 14 (fun k s7 wx=>∃i:Nat,i+k=14/\s7=.int .i64 (i:Int)/\Below w.heap.size w wx/\Hid (∀(j:Nat) (e:ByteArray × Int × Bool),j<i->T[j]?=some e->e.2.2=false))
 case atStart=>exact⟨0,by omega,rfl,Below.refl _ _,hide fun j e hj=>by omega⟩
 case round=>
  obtain⟨i,hig,rfl,hb,hpre⟩:=hrel;cases gk with
  | zero=>
   obtain rfl:i=14:=by omega
   obtain⟨rfl,rfl⟩:=HF.miss hpre.out;clear HF hpre hix hE hlen;go_wp2;go_ret2;exact⟨rfl,hb⟩
  | succ k=>
   have hi:i<14:=by omega
   have hiz:(i:Int)<14:=by omega
   obtain⟨⟨N,y,b⟩,he⟩:∃e,T[i]?=some e:=⟨_,List.getElem?_eq_getElem (by rw[hlen.out];exact hi)⟩;have hx:=hix.out i _ he;have hr:=(hE.out i _ he).run;simp only at hx hr;have He:=hide he;clear he hix hE hlen;cases b with
   | true=>
    obtain⟨h1,h2⟩:=HF.hit i _ He.out rfl hpre.out;simp only at h1 h2;subst h1 h2;clear HF hpre He;go_wp2_with (go_at_call 59;fail);refine (hr _).mono ?_;rintro e w1 ⟨rfl,q,rfl⟩;go_wp2
    go_quiet (fail)
    go_wp2;go_ret2;exact⟨rfl,Below.drewN (Below.drewN (hb.trans ((belowA wr _).mono hb.size)) _) _⟩
   | false=>
    have hpre2:Hid (∀(j:Nat) (e:ByteArray × Int × Bool),j<i+1->T[j]?=some e->e.2.2=false):=by
     refine hide fun j e hj hje=>?_
     by_cases h:j=i
     ·subst h;rw[He.out] at hje;obtain rfl:=Option.some.inj hje;rfl
     ·exact hpre.out j e (by omega) hje
    clear HF hpre He;go_wp2_with (go_at_call 59;fail);refine (hr _).mono ?_;rintro e w1 ⟨rfl,q,rfl⟩;go_wp2
    go_roundg k
    case measure=>omega
    case rel=>exact⟨i+1,by omega,by go_num,Below.drewN (hb.trans ((belowA wr _).mono hb.size)) _,hpre2⟩
theorem txt_nil:txt []=⟨#[]⟩:=rfl
theorem zKq (l:List UInt8):First (tab.map fun e=>(txt e.1,e.2,decide (lows e.1=lows l))) (txt (typ l).1) (typ l).2:=by
 refine⟨fun i e he hb hp=>?_,fun hp=>?_⟩
 ·rw [List.getElem?_map] at he;cases hx:tab[i]? with
  | none=>rw[hx] at he;cases he
  | some d=>
   rw[hx] at he;obtain rfl:=Option.some.inj he;have hb':lows d.1=lows l:=by simpa using hb
   have:=typ_hit (n:=d.1) (s:=d.2) (i:=i) hx hb' fun j e hj hje=>by
    have:=hp j _ hj (by rw[List.getElem?_map,hje];rfl);simpa using this
   rw[this];exact⟨rfl,rfl⟩
 ·have:=typ_miss (l:=l) fun j e hj hje=>by
   have:=hp j _ hj (by rw[List.getElem?_map,hje];rfl);simpa using this
  rw[this];exact⟨txt_nil,rfl⟩
theorem zKs:∀e∈tab,e.1.length<100:=by decide
theorem zCj (s:ByteArray) (w:World) (hT:Types w):
  Calls Tryz.prog 46 #[.string s] w fun e w'=>e=.returned (.tuple #[.string (txt (typ s.data.toList).1),.int .i64 (typ s.data.toList).2])/\Below w.heap.size w w':=by
 refine zKk s w tabCells (tab.map fun e=>(txt e.1,e.2,decide (lows e.1=lows s.data.toList))) _ _ (by simp[tab]) (fun j v hv=>?_) (by kernel_rfl) (fun i e he w=>?_) (fun i e he=>?_) (zKq _)
 ·rw [Nat.zero_add];exact tab_cell hT j v hv
 ·rw [List.getElem?_map] at he;cases hx:tab[i]? with
  | none=>rw[hx] at he;cases he
  | some d=>
   rw[hx] at he;obtain rfl:=Option.some.inj he;refine zEk tabCells.toArray i ?_ _ _ ?_ w
   ·have:=(List.getElem?_eq_some_iff.1 hx).1;simpa[tab] using this
   ·have:=zC1 (tab.map fun e=>[Value.string (txt e.1),.int .i64 e.2]) 2 (by intro x hx;obtain⟨e',_,rfl⟩:=List.mem_map.1 hx;rfl) i [.string (txt d.1),.int .i64 d.2] (by simp[hx]);simpa[tabCells,List.flatMap] using this
 ·rw [List.getElem?_map] at he;cases hx:tab[i]? with
  | none=>rw[hx] at he;cases he
  | some d=>
   rw[hx] at he;obtain rfl:=Option.some.inj he;exact entry_of s d.1 (zKs d (List.mem_of_getElem? hx))
theorem make8 (w:World) (n:Nat) (hn:n<=281474976710656):
  ∃w',(Instr.makeSlice 95 (.int .i64 0) (.int .i64 (n:Int))).run Tryz.prog w=.ok (.slice (some ⟨w.heap.size,0,none⟩) 0 n) w'/\
   w'.ownsRow w.heap.size 5 1 (.slice (some ⟨w.heap.size,0,none⟩) 0 n) 0 (bys [])/\Below w.heap.size w w':=by
 obtain⟨i0,hi,hz0,hz1,hz2⟩:=info_parts info8;obtain⟨w',h1,h2,h3⟩:=run_make_own (P:=Tryz.prog) w w.heap.size 95 5 i0 (.int .u8 0) 1 Tryz.underlying95 hi hz0 hz1 .i64 .i64 n (by rw[hz2];omega) (by unfold maxLen;omega) (Nat.le_refl _);exact⟨w',h1,h2,(Below.refl _ _).grown h3 (Nat.le_refl _) (fun g hg=>by cases hg)⟩
theorem own_cons {w:World} {base:Nat} {v:Value} {acc:List UInt8} {y:UInt8} (h:w.ownsRow base 5 1 v (acc++[y]).length (bys (acc++[y]))):
  ∃g cap,v=.slice (some ⟨g,0,none⟩) (acc.length+1) cap/\w.cell? ⟨g,acc.length,none⟩=some (.int .u8 (y.toNat:Int)):=by
 have hn:(acc++[y]).length=acc.length+1:=by simp
 rw[hn] at h;obtain⟨g,cap,rfl,_⟩:=h.form (by omega);refine⟨g,cap,rfl,?_⟩;rw[h.cellAt acc.length (by omega)];simp[bys,c8]
theorem zGh (l:List UInt8):Lib.trimSuffix (ntAll l) [32]=nt l:=by
 rw[nt_trim];unfold Lib.trimSuffix Lib.hasSuffix;rcases List.eq_nil_or_concat (ntAll l) with h | ⟨a,y,h⟩
 ·rw [h];rfl
 ·rw [List.concat_eq_append] at h;rw[h];by_cases hy:y=32
  ·subst hy;simp
  ·simp [hy];exact fun e=>hy e.symm
theorem zIy (s:ByteArray) (h200:s.size<=200) (w:World):
  Calls Tryz.prog 61 #[.string s] w fun e w'=>e=.returned (.string (txt (nt s.data.toList)))/\Below w.heap.size w w':=by
 obtain⟨w1,hmake,hown,hb⟩:=make8 w s.size (by omega);have hL:=hide (Lib.size_eq s);have hat:∀(i:Nat) (hi:i<s.size),s.data.toList[i]?=some s[i]:=fun i hi=>Lib.data_getElem? s i hi
 generalize hl:s.data.toList=l at *;replace hl:=hide hl;replace hat:=hide hat;go_enter Tryz.func61,Tryz.ntmps61;go_wp2
 go_loopg [3,11] s.size (fun k s3 s11 wx=>∃(i:Nat) (acc:List UInt8),i+k=s.size/\s11=.int .i64 (i:Int)/\Hid (acc=ntAll (l.take i))/\wx.ownsRow w.heap.size 5 1 s3 acc.length (bys acc)/\Below w.heap.size w wx)
 case atStart=>exact⟨0,[],by omega,rfl,hide rfl,hown,hb⟩
 case round=>
  obtain⟨i,acc,hig,rfl,hacc,hor,hbr⟩:=hrel;clear hown hb hmake;cases gk with
  | zero=>
   obtain rfl:i=s.size:=by omega
   have hiz:¬((s.size:Int)<(s.size:Int)):=by omega
   obtain⟨A,c,rfl,hnc,hHas⟩:=zAg hor;have htx:=txt8 wr c hHas;have hacc3:Hid (Lib.trimSuffix (txt acc).data.toList (⟨#[32]⟩:ByteArray).data.toList=nt l):=by refine hide ?_;rw[zAd];have e:=hacc.out;rw[List.take_of_length_le (by rw[<-hL.out];exact Nat.le_refl _)] at e;rw[e];exact zGh l
   have hts:(txt acc).size<=9223372036854775807:=by rw[Lib.size_eq,zAd];have e:=hacc.out;have:=zHw (l.take s.size);rw[<-e,List.length_take] at this;omega
   have hT:=fun w=>Tryz.strings_TrimSuffix (txt acc) ⟨#[32]⟩ w hts
   rw[hacc3.out] at hT;generalize hR:nt l=R at *;generalize txt acc=X at *;clear hacc hacc3 hts hHas hor;go_wp2_with (go_at_call 84;refine (hT _).mono ?_;rintro e w' ⟨rfl,rfl⟩);go_ret;exact⟨by rw[hR];rfl,hbr⟩
  | succ k=>
   have hi:i<s.size:=by omega
   have hiz:(i:Int)<(s.size:Int):=by omega
   obtain⟨x,hx⟩:∃x:UInt8,s[i]'hi=x:=⟨_,rfl⟩;have hxl:l[i]?=some x:=by rw[hat.out i hi,hx]
   have htk:l.take (i+1)=l.take i++[x]:=by rw[List.take_add_one,hxl];rfl
   have hacc2:Hid (ntAll (l.take (i+1))=ntStep acc x):=by refine hide ?_;rw[htk,zDr,hacc.out]
   have hlen:Hid (acc.length<=200):=hide (by
    rw[hacc.out]
    have:=zHw (l.take i)
    rw[List.length_take] at this
    omega)
   clear hxl htk;have hone:=one8 wr (low x);unfold c8 at hone;have hH:=Has.own hone;have hor1:=hor.alloc (.cells #[.int .u8 ((low x).toNat:Int)] 5);have hbr1:=hbr.alloc hbr.size (.cells #[.int .u8 ((low x).toNat:Int)] 5);have hs1:=hbr1.size;clear hone;have hsm:=fun w=>zDc x w
   by_cases hb32:x=32
   ·subst hb32;have e32:low 32=32:=by decide
    have hbz:((((32:UInt8).toNat:Int))==32)=true:=rfl;rcases List.eq_nil_or_concat acc with hnil | ⟨a,y,hcat⟩
    ·subst hnil;have hstep:Hid (ntStep [] 32=[]):=hide (by unfold ntStep;rw[if_pos ⟨rfl,Or.inl rfl⟩]);obtain⟨A,c,rfl,hnc,hHas⟩:=zAg hor;clear hH hor1 hbr1 hs1 hsm hHas;go_wp2
     go_roundg k
     case measure=>omega
     case rel=>exact⟨i+1,[],by omega,by go_num,hide (by rw[hacc2.out,hstep.out]),hor,hbr⟩
    ·rw [List.concat_eq_append] at hcat;subst hcat;obtain⟨g,cap,rfl,hcell⟩:=own_cons hor;have hml:(a.length:Int)+1<=200:=by have:=hlen.out;simp at this;omega
     have hpos:((a.length+1:Nat):Int)=(a.length:Int)+1:=(by omega);have hz0:((a.length:Int)+1==0)=false:=beq_false_of_ne (by omega);by_cases hy:y=32
     ·subst hy;have hstep:Hid (ntStep (a++[32]) 32=a++[32]):=hide (by unfold ntStep;rw[if_pos ⟨rfl,Or.inr (by simp)⟩]);clear hH hor1 hbr1 hs1 hsm;go_wp2
      go_roundg k
      case measure=>omega
      case rel=>exact⟨i+1,a++[32],by omega,by go_num,hide (by rw[hacc2.out,hstep.out]),by simpa using hor,hbr⟩
     ·have hyz:((y.toNat:Int)==32)=false:=beq_false_of_ne (fun h=>hy (zFo (by have:(32:UInt8).toNat=32:=rfl;omega)));have hstep:Hid (ntStep (a++[y]) 32=a++[y]++[low 32]):=hide (by
       unfold ntStep
       rw[if_neg]
       rintro ⟨_,h | h⟩
       ·simp at h
       ·simp at h;exact hy h)
      rw[e32] at hstep;clear hor1 hbr1 hs1 hH;have hone:(wr.alloc (.cells #[.int .u8 32] 5)).ownsRow wr.heap.size 5 1 (.slice (some ⟨wr.heap.size,0,none⟩) 1 1) 1 (bys [32]):=one8 wr 32;have hH:=Has.own hone;have hor1:=hor.alloc (.cells #[.int .u8 32] 5);have hbr1:=hbr.alloc hbr.size (.cells #[.int .u8 32] 5);have hs1:=hbr1.size;clear hone hor hbr;go_wp2_with (first
       |(go_at_call 79;refine (hsm _).mono ?_;rintro e w' ⟨rfl,rfl⟩)
       |(at_builtin;go_must (refine app8 _ rfl (.tmp 33) (.tmp 38) rfl w.heap.size _ (a++[y]).length (a++[y]) rfl hor1 _ _ 1 1 [32] rfl hH (by have:=hlen.out;omega) hs1 ?_)))
      intro v' w3 hown3 hb3 _;have hb4:=hbr1.trans hb3;clear hor1 hbr1 hs1 hH hb3;go_wp2
      go_roundg k
      case measure=>omega
      case rel=>exact⟨i+1,a++[y]++[32],by omega,by go_num,hide (by rw[hacc2.out,hstep.out]),by simpa using hown3,hb4⟩
   ·have hne:((x.toNat:Int)==32)=false:=beq_false_of_ne (fun h=>hb32 (zFo (by have:(32:UInt8).toNat=32:=rfl;omega)));have hstep:Hid (ntStep acc x=acc++[low x]):=hide (by unfold ntStep;rw[if_neg (fun h=>hb32 h.1)]);clear hb32 hor hbr;go_wp2_with (first
     |(go_at_call 79;refine (hsm _).mono ?_;rintro e w' ⟨rfl,rfl⟩)
     |(at_builtin;go_must (refine app8 _ rfl (.tmp 33) (.tmp 38) rfl w.heap.size _ acc.length acc rfl hor1 _ _ 1 1 [low x] rfl hH (by have:=hlen.out;omega) hs1 ?_)))
    intro v' w3 hown3 hb3 _;have hb4:=hbr1.trans hb3;clear hor1 hbr1 hs1 hH hb3;go_wp2
    go_roundg k
    case measure=>omega
    case rel=>exact⟨i+1,acc++[low x],by omega,by go_num,hide (by rw[hacc2.out,hstep.out]),by simpa using hown3,hb4⟩
theorem int_or (l:List UInt8):(∃n,IsInt l n)\/∀n,¬IsInt l n:=by
 by_cases h:∃n,IsInt l n
 ·exact Or.inl h
 ·exact Or.inr fun n hn=>h ⟨n,hn⟩
theorem zCd:∀(l:List UInt8) (acc m:Nat),decFrom acc l=some m->m<1844674407370955161->parseUint10 acc l=.ok m
 | [],acc,m,h,_=>by simp only[decFrom,Option.some.injEq] at h;subst h;rfl
 | b::r,acc,m,h,hm=>by
  simp only[decFrom] at h;cases hb:digitVal b with
  | none=>rw[hb] at h;cases h
  | some v=>
   rw[hb] at h;obtain⟨h1,h2,h3⟩:=digitVal_eq hb;have hge:∀(l:List UInt8) (a m:Nat),decFrom a l=some m->a<=m:=by
    intro l
    induction l with
    | nil=>intro a m h;simp only[decFrom,Option.some.injEq] at h;omega
    | cons b r ih=>
     intro a m h;simp only[decFrom] at h;cases hb:digitVal b with
     | none=>rw[hb] at h;cases h
     | some v=>rw[hb] at h;have:=ih _ _ h;omega
   have hle:=hge _ _ _ h;unfold parseUint10;rw[if_pos ⟨h1,h2⟩,if_neg (by omega),if_neg (by omega),<-h3];exact zCd r _ m h hm
theorem zKa {l:List UInt8} {n:Int} (h:IsInt l n):parseIntB 64 l=.ok n:=by
 obtain⟨⟨h0,h1⟩,rfl⟩:=h;rw[parseIntB_64];have key:∀u:Nat,u<=999999999999999999->parseMag (decDigits u)=.ok u:=by intro u hu;obtain⟨x,r,hx,_⟩:=zB2 u;unfold parseMag;rw[if_neg (by rw[hx];simp)];exact zCd _ 0 u (zJu u) (by omega)
 by_cases hn:0<=n
 ·rw [zA2 hn];have hk:=key n.toNat (by omega);obtain⟨x,r,hx,hd⟩:=zB2 n.toNat;rw[hx] at hk ⊢;rw[atoiAll_plain x r (by unfold IsDig at hd;omega) (by unfold IsDig at hd;omega),hk];simp only[signless];rw[if_neg (by omega)];congr 1;omega
 ·rw [itoa_neg' (by omega),atoiAll_minus,key n.natAbs (by omega)];simp only[signed];rw[if_neg (by omega)];congr 1;omega
end Go.Proofs.YtlfglibcggphjaaGreatDoor
namespace Go.Proofs.YtlfglibcggphjaaGreatDoor
open Go.RowKit
theorem zC6 (s:ByteArray) (hs:s.size<=281474976710656) (v:Int) (h:Lib.parseIntB 64 s.data.toList=.ok v) (w:World):
  Calls Tryz.prog 102 #[.string s,.int .i64 10,.int .i64 64] w fun e w'=>e=.returned (.tuple #[.int .i64 v,.nilIface])/\Below w.heap.size w w':=by
 refine (Tryz.strconv_ParseInt_10_at64_ok s (by omega) v h w).mono ?_;rintro e w' ⟨rfl,hw⟩;refine⟨rfl,?_⟩;rcases hw with rfl | ⟨t,rfl⟩
 ·exact Below.refl _ _
 ·exact Lib.bytesWorld_below w _ t
theorem zFq (s:ByteArray) (hs:s.size<=281474976710656) (h:∀v,Lib.parseIntB 64 s.data.toList≠.ok v) (w:World) (hT:Tabs w):
  Calls Tryz.prog 102 #[.string s,.int .i64 10,.int .i64 64] w (BadPost w):=by
 obtain⟨tp,p,hsyn⟩:=hT.syn;obtain⟨tq,q,hrng⟩:=hT.rng;cases he:Lib.parseIntB 64 s.data.toList
 ·exact absurd he (h _)
 ·refine (Any.strconv_ParseInt_10_at64_syntax_var Tryz.laysC174 s hs he tp p w hsyn).mono ?_;rintro e w' ⟨N,rfl,_,_,hb⟩;exact⟨_,N,rfl,hb⟩
 ·refine (Any.strconv_ParseInt_10_at64_range_var Tryz.laysC174 s hs he tq q w hrng).mono ?_;rintro e w' ⟨N,rfl,_,_,hb⟩;exact⟨_,N,rfl,hb⟩
theorem zF9 (s:ByteArray) (hs:s.size<=281474976710656) (n:Int) (h:IsInt s.data.toList n) (w:World) (hT:Tabs w):
  Calls Tryz.prog 82 #[.string s] w fun e w'=>e=.returned (.tuple #[.int .i64 n,.bool true])/\Below w.heap.size w w':=by
 have hP:=zC6 s hs n (zKa h) w;obtain⟨⟨h0,h1⟩,he⟩:=h;have hF:=fun w hT=>zDn n (by omega) (by omega) w hT
 have hst:=zB0 s _ he;rw[<-hst] at hF;have hne:(s.toList !=s.toList)=false:=by simp
 clear he hst;go_enter Tryz.func82,Tryz.ntmps82;go_wp2_with (go_at_call 102;fail);refine hP.mono ?_;rintro e w1 ⟨rfl,hb1⟩;have hT1:=hT.below hb1;clear hP;go_wp2_with (go_at_call 103;fail);refine (hF _ hT1).mono ?_;rintro e w2 ⟨rfl,hb2⟩;clear hF;go_wp2;go_ret2;exact⟨rfl,hb1.trans (hb2.mono hb1.size)⟩
theorem zIn (s:ByteArray) (hs:s.size<=281474976710656) (h:∀n,¬IsInt s.data.toList n) (w:World) (hT:Tabs w):
  Calls Tryz.prog 82 #[.string s] w fun e w'=>e=.returned (.tuple #[.int .i64 0,.bool false])/\Below w.heap.size w w':=by
 by_cases hv:∃v,Lib.parseIntB 64 s.data.toList=.ok v
 ·obtain ⟨v,hv⟩:=hv;have hP:=zC6 s hs v hv w;have hbd:=Lib.parseIntB_bounds hv;have e63:((2 ^ (64-1):Nat):Int)=9223372036854775808:=by decide
  rw[e63] at hbd;by_cases hlo:v< -999999999999999999
  ·clear h hv;go_enter Tryz.func82,Tryz.ntmps82;go_wp2_with (go_at_call 102;fail);refine hP.mono ?_;rintro e w1 ⟨rfl,hb1⟩;clear hP;go_wp2;go_ret2;exact⟨rfl,hb1⟩
  ·by_cases hhi:999999999999999999<v
   ·clear h hv;go_enter Tryz.func82,Tryz.ntmps82;go_wp2_with (go_at_call 102;fail);refine hP.mono ?_;rintro e w1 ⟨rfl,hb1⟩;clear hP;go_wp2;go_ret2;exact⟨rfl,hb1⟩
   ·have hF:=fun w hT=>zDn v (by omega) (by omega) w hT
    have hne:((txt (Lib.itoa v)).toList==s.toList)=false:=by
     rw[zAm,Lib.toList_data];refine beq_false_of_ne fun e=>?_
     exact h v ⟨⟨by omega,by omega⟩,e.symm⟩
    generalize txt (Lib.itoa v)=X at *;clear h hv;go_enter Tryz.func82,Tryz.ntmps82;go_wp2_with (go_at_call 102;fail);refine hP.mono ?_;rintro e w1 ⟨rfl,hb1⟩;have hT1:=hT.below hb1;clear hP;go_wp2_with (go_at_call 103;fail);refine (hF _ hT1).mono ?_;rintro e w2 ⟨rfl,hb2⟩;clear hF;go_wp2;go_ret2;exact⟨rfl,hb1.trans (hb2.mono hb1.size)⟩
 ·have hP:=zFq s hs (fun v e=>hv ⟨v,e⟩) w hT;clear h hv;go_enter Tryz.func82,Tryz.ntmps82;go_wp2_with (go_at_call 102;fail);refine hP.mono ?_;rintro e w1 ⟨v,N,rfl,hb1⟩;clear hP;unfold badV;go_wp2;go_ret2;exact⟨rfl,hb1⟩
structure TT (w:World):Prop where
 tabs:Tabs w
 types:Types w
theorem TT.below {w w':World} (h:TT w) (hb:Below w.heap.size w w'):TT w':=⟨h.tabs.below hb,h.types.below hb⟩
structure Formed (x:Int) (l:List UInt8):Prop where
 tx:x=1->(0:UInt8) ∉ l/\nt l≠[]
 nu:x=3->∃n,IsInt l n
 pl:x=4->∃a b,Small a/\Small b/\l=text a b
theorem zHo {p:UInt8->Bool} {l:List UInt8} {b:UInt8} (h:b∈l) (hb:p b=false):b∈l.dropWhile p:=by
 induction l with
 | nil=>cases h
 | cons x r ih=>
  rw[List.dropWhile_cons];split
  ·rename_i hx;rcases List.mem_cons.1 h with rfl | h
   ·rw [hb] at hx;cases hx
   ·exact ih h
  ·exact h
theorem trim_nil (l:List UInt8):Lib.trimB l 32=[]↔nt l=[]:=by
 rw[nt_nil];constructor
 ·intro h b hb;refine Classical.byContradiction fun hne=>?_
  have hp:(b==32)=false:=beq_false_of_ne hne;have h1:b∈Lib.trimRightB l 32:=by unfold Lib.trimRightB;rw[List.mem_reverse];exact zHo (List.mem_reverse.2 hb) hp
  have h2:b∈Lib.trimB l 32:=by unfold Lib.trimB Lib.trimLeftB;exact zHo h1 hp
  rw[h] at h2;cases h2
 ·intro h;have h1:∀l:List UInt8,(∀b∈l,b=32)->l.dropWhile (·==32)=[]:=by
   intro l
   induction l with
   | nil=>intro _;rfl
   | cons x r ih=>
    intro h;rw[List.dropWhile_cons,if_pos (by simp[h x (by simp)])];exact ih fun b hb=>h b (by simp[hb])
  unfold Lib.trimB Lib.trimLeftB Lib.trimRightB;rw[h1 l.reverse fun b hb=>h b (List.mem_reverse.1 hb)];rfl
theorem zIr (l:List UInt8):Lib.indexByte l 0<0↔(0:UInt8) ∉ l:=by
 have hge:=Lib.indexByte_ge l 0;constructor
 ·intro h hm;obtain⟨k,hk,hk2⟩:=List.mem_iff_getElem.1 hm;exact Lib.indexByte_none (by omega:Lib.indexByte l 0= -1) k (by rw[List.getElem?_eq_getElem hk,hk2])
 ·intro h;refine Classical.byContradiction fun hn=>?_
  have:=(Lib.indexByte_some (o:=(Lib.indexByte l 0).toNat) (by omega:Lib.indexByte l 0=_)).1;exact h (List.mem_of_getElem? this)
theorem formed1 (s:ByteArray) (h200:s.size<=200) (b:Bool) (hb:b=true↔Formed 1 s.data.toList) (w:World):
  Calls Tryz.prog 60 #[.int .i64 1,.string s] w fun e w'=>e=.returned (.bool b)/\Below w.heap.size w w':=by
 have hTr:=fun w=>Tryz.strings_Trim_one s 32 (by decide) w (by omega)
 have hIx:=fun w=>Tryz.strings_IndexByte s 0 w
 have hz:((0:Int).toNat.toUInt8)=0:=rfl;rw[hz] at hIx;have hXl:(⟨(Lib.trimB s.data.toList 32).toArray⟩:ByteArray).toList.isEmpty=decide (nt s.data.toList=[]):=by
  rw[ByteArray.toList_mk];have:=trim_nil s.data.toList;cases hq:Lib.trimB s.data.toList 32 with
  | nil=>rw[hq] at this;simp[this.1 rfl]
  | cons x r=>
   have hne:¬nt s.data.toList=[]:=fun e=>by rw[this.2 e] at hq;cases hq
   simp[hne]
 have hI:=zIr s.data.toList;have hF:Formed 1 s.data.toList↔(0:UInt8) ∉ s.data.toList/\nt s.data.toList≠[]:=⟨fun h=>h.tx rfl,fun h=>⟨fun _=>h,fun e=>(by omega),fun e=>(by omega)⟩⟩;rw[hF] at hb;clear hF;generalize (⟨(Lib.trimB s.data.toList 32).toArray⟩:ByteArray)=X at *;by_cases hn:nt s.data.toList=[]
 ·have hb':Hid (b=false):=hide (by cases b with | false=>rfl | true=>exact absurd hn (hb.1 rfl).2);rw[decide_eq_true hn] at hXl;clear hb hI hIx hn;go_enter Tryz.func60,Tryz.ntmps60;go_wp2_with (go_at_call 80;fail);refine (hTr _).mono ?_;rintro e w1 ⟨rfl,hw⟩;have hb1:Below w.heap.size w w1:=by
   rcases hw with rfl | rfl
   ·exact Below.refl _ _
   ·exact (Below.refl _ _).drew
  clear hw hTr;go_wp2;go_ret;exact⟨by rw[hb'.out];rfl,hb1⟩
 ·have hb':Hid (b=decide (Lib.indexByte s.data.toList 0<0)):=hide (by
   by_cases hm:(0:UInt8)∈s.data.toList
   ·rw [decide_eq_false (by rw[hI];exact fun h=>h hm)]
    cases b with
    | false=>rfl
    | true=>exact absurd hm (hb.1 rfl).1
   ·rw [decide_eq_true (hI.2 hm)]
    exact hb.2 ⟨hm,hn⟩)
  rw[decide_eq_false hn] at hXl;clear hb hI hn;generalize Lib.indexByte s.data.toList 0=I at *;go_enter Tryz.func60,Tryz.ntmps60;go_wp2_with (go_at_call 80;fail);refine (hTr _).mono ?_;rintro e w1 ⟨rfl,hw⟩;have hb1:Below w.heap.size w w1:=by
   rcases hw with rfl | rfl
   ·exact Below.refl _ _
   ·exact (Below.refl _ _).drew
  clear hw hTr;go_wp2_with (go_at_call 81;fail);refine (hIx _).mono ?_;rintro e w2 ⟨rfl,rfl⟩;clear hIx;go_wp2;go_ret;exact⟨by rw[hb'.out];rfl,hb1⟩
theorem formed2 (s:ByteArray) (b:Bool) (hb:b=true↔Formed 2 s.data.toList) (w:World):
  Calls Tryz.prog 60 #[.int .i64 2,.string s] w fun e w'=>e=.returned (.bool b)/\Below w.heap.size w w':=by
 have hb':Hid (b=true):=hide (hb.2 ⟨fun e=>(by omega),fun e=>(by omega),fun e=>(by omega)⟩);clear hb;go_enter Tryz.func60,Tryz.ntmps60;go_wp2;go_ret;exact⟨by rw[hb'.out];rfl,Below.refl _ _⟩
theorem formed3 (s:ByteArray) (h200:s.size<=200) (b:Bool) (hb:b=true↔Formed 3 s.data.toList) (w:World) (hT:TT w):
  Calls Tryz.prog 60 #[.int .i64 3,.string s] w fun e w'=>e=.returned (.bool b)/\Below w.heap.size w w':=by
 have hF:Formed 3 s.data.toList↔∃n,IsInt s.data.toList n:=⟨fun h=>h.nu rfl,fun h=>⟨fun e=>(by omega),fun _=>h,fun e=>(by omega)⟩⟩;rw[hF] at hb;clear hF;have hI:∃n,Hid True/\∀w,Tabs w->Calls Tryz.prog 82 #[.string s] w fun e w'=>e=.returned (.tuple #[.int .i64 n,.bool b])/\Below w.heap.size w w':=by
  rcases int_or s.data.toList with⟨n,hn⟩ | hn
  ·have:b=true:=hb.2 ⟨n,hn⟩;rw[this];exact⟨n,hide trivial,fun w hT=>zF9 s (by omega) n hn w hT⟩
  ·have:b=false:=by cases b with | false=>rfl | true=>obtain⟨n,h⟩:=hb.1 rfl;exact absurd h (hn n)
   rw[this];exact⟨0,hide trivial,fun w hT=>zIn s (by omega) hn w hT⟩
 obtain⟨n,_,hI⟩:=hI;clear hb;go_enter Tryz.func60,Tryz.ntmps60;go_wp2_with (go_at_call 82;fail);refine (hI _ hT.tabs).mono ?_;rintro e w1 ⟨rfl,hb1⟩;go_wp2;go_ret;exact⟨rfl,hb1⟩
theorem formed4 (s:ByteArray) (h200:s.size<=200) (b:Bool) (hb:b=true↔Formed 4 s.data.toList) (w:World) (hT:TT w):
  Calls Tryz.prog 60 #[.int .i64 4,.string s] w fun e w'=>e=.returned (.bool b)/\Below w.heap.size w w':=by
 have hF:Formed 4 s.data.toList↔IsText s:=⟨fun h=>h.pl rfl,fun h=>⟨fun e=>(by omega),fun e=>(by omega),fun _=>h⟩⟩;rw[hF] at hb;clear hF;by_cases h:IsText s
 ·have hb':Hid (b=true):=hide (hb.2 h);clear hb;obtain⟨p,q,hp,hq,e⟩:=h;have hP:=fun w hT=>zJs s (by omega) p q hp hq e w hT
  clear e;go_enter Tryz.func60,Tryz.ntmps60;go_wp2_with (go_at_call 83;fail);refine (hP _ hT.tabs).mono ?_;rintro e w1 ⟨rfl,hb1⟩;go_wp2;go_ret;exact⟨by rw[hb'.out];rfl,hb1⟩
 ·have hb':Hid (b=false):=hide (by cases b with | false=>rfl | true=>exact absurd (hb.1 rfl) h);have hP:=fun w hT=>parse_no s (by omega) h w hT
  clear hb h;go_enter Tryz.func60,Tryz.ntmps60;go_wp2_with (go_at_call 83;fail);refine (hP _ hT.tabs).mono ?_;rintro e w1 ⟨rfl,hb1⟩;go_wp2;go_ret;exact⟨by rw[hb'.out];rfl,hb1⟩
theorem zGx (x:Int) (hx:1<=x/\x<=4) (s:ByteArray) (h200:s.size<=200) (b:Bool) (hb:b=true↔Formed x s.data.toList) (w:World) (hT:TT w):
  Calls Tryz.prog 60 #[.int .i64 x,.string s] w fun e w'=>e=.returned (.bool b)/\Below w.heap.size w w':=by
 have:x=1\/x=2\/x=3\/x=4:=by omega
 rcases this with rfl | rfl | rfl | rfl
 ·exact formed1 s h200 b hb w
 ·exact formed2 s b hb w
 ·exact formed3 s h200 b hb w hT
 ·exact formed4 s h200 b hb w hT
open Classical in
noncomputable def norm (n v:List UInt8):List UInt8 × Int:=
 if (typ n).2=0 then ([],5)
 else if (typ n).2=5 then ([],1)
 else if v.length<1\/200<v.length\/¬Formed (typ n).2 v then ([],2)
 else if (typ n).2=1 then (nt v,0)
 else (v,0)
inductive Road (n v:List UInt8):Prop where
 | none (h:(typ n).2=0) (r:norm n v=([],5))
 | name (h:(typ n).2=5) (r:norm n v=([],1))
 | short (h:1<=(typ n).2/\(typ n).2<=4) (k:v.length<1) (r:norm n v=([],2))
 | long (h:1<=(typ n).2/\(typ n).2<=4) (k:200<v.length) (r:norm n v=([],2))
 | form (h:1<=(typ n).2/\(typ n).2<=4) (k:1<=v.length/\v.length<=200) (f:¬Formed (typ n).2 v) (r:norm n v=([],2))
 | text (h:(typ n).2=1) (k:1<=v.length/\v.length<=200) (f:Formed (typ n).2 v) (r:norm n v=(nt v,0))
 | same (h:2<=(typ n).2/\(typ n).2<=4) (k:1<=v.length/\v.length<=200) (f:Formed (typ n).2 v) (r:norm n v=(v,0))
theorem road (n v:List UInt8):Road n v:=by
 have hr:=zJq n;by_cases h0:(typ n).2=0
 ·exact .none h0 (by unfold norm;rw[if_pos h0])
 ·by_cases h5:(typ n).2=5
  ·exact .name h5 (by unfold norm;rw[if_neg h0,if_pos h5])
  ·have h14:1<=(typ n).2/\(typ n).2<=4:=by omega
   by_cases k1:v.length<1
   ·exact .short h14 k1 (by unfold norm;rw[if_neg h0,if_neg h5,if_pos (Or.inl k1)])
   ·by_cases k2:200<v.length
    ·exact .long h14 k2 (by unfold norm;rw[if_neg h0,if_neg h5,if_pos (Or.inr (Or.inl k2))])
    ·by_cases f:Formed (typ n).2 v
     ·have hno:¬(v.length<1\/200<v.length\/¬Formed (typ n).2 v):=by
       rintro (h | h | h)
       ·exact k1 h
       ·exact k2 h
       ·exact h f
      by_cases h1:(typ n).2=1
      ·exact .text h1 ⟨by omega,by omega⟩ f (by unfold norm;rw[if_neg h0,if_neg h5,if_neg hno,if_pos h1])
      ·exact .same ⟨by omega,by omega⟩ ⟨by omega,by omega⟩ f (by unfold norm;rw[if_neg h0,if_neg h5,if_neg hno,if_neg h1])
     ·exact .form h14 ⟨by omega,by omega⟩ f (by unfold norm;rw[if_neg h0,if_neg h5,if_pos (Or.inr (Or.inr f))])
theorem zB4 {x:Int} (h:1<=x/\x<=4):((x==0)=false)/\((x==5)=false):=⟨beq_false_of_ne (by omega),beq_false_of_ne (by omega)⟩
theorem zFe (s:ByteArray) (h:s.size<=281474976710656) (w:World):
  Calls Tryz.prog 40 #[.string s] w fun e w'=>e=.returned (.string s)/\Below w.heap.size w w':=by
 have hC:=fun w=>Tryz.stringslite_Clone s w h
 go_enter Tryz.func40,Tryz.ntmps40;go_wp2_with (go_at_call 52;fail);refine (hC _).mono ?_;rintro e w1 ⟨rfl,hb⟩;go_wp2;go_ret;exact⟨rfl,hb⟩
theorem zDv (n v:ByteArray) (hv:v.size<=281474976710656) (w:World) (hT:TT w):
  Calls Tryz.prog 47 #[.string n,.string v] w fun e w'=>e=.returned (.tuple #[.string (txt (norm n.data.toList v.data.toList).1),.int .i64 (norm n.data.toList v.data.toList).2])/\Below w.heap.size w w':=by
 have hTy:=zCj n w hT.types;have hF:=fun (hx:1<=(typ n.data.toList).2/\(typ n.data.toList).2<=4) h200 b hb w hT=>zGx (typ n.data.toList).2 hx v h200 b hb w hT
 have hN:=fun h w=>zIy v h w
 have hC:=fun w=>zFe v hv w
 have hsz:=Lib.size_eq v;have hR:=road n.data.toList v.data.toList;have hself:txt v.data.toList=v:=(zB0 v _ rfl).symm;generalize hl:v.data.toList=l at *;generalize hn:n.data.toList=m at *;obtain⟨X,hX⟩:∃X,txt (typ m).1=X:=⟨_,rfl⟩;rw[hX] at hTy;obtain⟨x,hx⟩:∃x,(typ m).2=x:=⟨_,rfl⟩;rw[hx] at hTy hF;have hlT:=fun w1 (h:Below w.heap.size w w1)=>hT.below h
 cases hR with
 | none h r=>
  obtain rfl:x=0:=by omega
  rw[r];clear hF hN hC hself hX hx h r;go_enter Tryz.func47,Tryz.ntmps47;go_wp2_with (go_at_call 46;fail);refine hTy.mono ?_;rintro e w1 ⟨rfl,hb1⟩;go_wp2;go_ret2;exact⟨rfl,hb1⟩
 | name h r=>
  obtain rfl:x=5:=by omega
  rw[r];clear hF hN hC hself hX hx h r;go_enter Tryz.func47,Tryz.ntmps47;go_wp2_with (go_at_call 46;fail);refine hTy.mono ?_;rintro e w1 ⟨rfl,hb1⟩;go_wp2;go_ret2;exact⟨rfl,hb1⟩
 | short h k r=>
  rw[hx] at h;obtain⟨e0,e5⟩:=zB4 h;have hk:((v.size:Int)<1):=by omega
  rw[r];clear hF hN hC hself hX hx h r;go_enter Tryz.func47,Tryz.ntmps47;go_wp2_with (go_at_call 46;fail);refine hTy.mono ?_;rintro e w1 ⟨rfl,hb1⟩;go_wp2;go_ret2;exact⟨rfl,hb1⟩
 | long h k r=>
  rw[hx] at h;obtain⟨e0,e5⟩:=zB4 h;have hk:¬((v.size:Int)<1):=by omega
  have hk2:((200:Int)<(v.size:Int)):=by omega
  rw[r];clear hF hN hC hself hX hx h r;go_enter Tryz.func47,Tryz.ntmps47;go_wp2_with (go_at_call 46;fail);refine hTy.mono ?_;rintro e w1 ⟨rfl,hb1⟩;go_wp2;go_ret2;exact⟨rfl,hb1⟩
 | form h k f r=>
  rw[hx] at h f;obtain⟨e0,e5⟩:=zB4 h;have hk:¬((v.size:Int)<1):=by omega
  have hk2:¬((200:Int)<(v.size:Int)):=by omega
  have hFo:=fun w hT=>hF h (by omega) false (by simp[f]) w hT
  rw[r];clear hF hN hC hself hX hx h r f;go_enter Tryz.func47,Tryz.ntmps47;go_wp2_with (go_at_call 46;fail);refine hTy.mono ?_;rintro e w1 ⟨rfl,hb1⟩;go_wp2_with (go_at_call 60;fail);refine (hFo _ (hlT _ hb1)).mono ?_;rintro e w2 ⟨rfl,hb2⟩;go_wp2;go_ret2;exact⟨rfl,hb1.trans (hb2.mono hb1.size)⟩
 | text h k f r=>
  obtain rfl:x=1:=by omega
  rw[h] at f;have hk:¬((v.size:Int)<1):=by omega
  have hk2:¬((200:Int)<(v.size:Int)):=by omega
  have hFo:=fun w hT=>hF ⟨by omega,by omega⟩ (by omega) true (by simp[f]) w hT
  have hNo:=fun w=>hN (by omega) w
  rw[r];simp only;generalize txt (nt l)=Y at *;clear hF hN hC hself hX hx h r f;go_enter Tryz.func47,Tryz.ntmps47;go_wp2_with (go_at_call 46;fail);refine hTy.mono ?_;rintro e w1 ⟨rfl,hb1⟩;go_wp2_with (go_at_call 60;fail);refine (hFo _ (hlT _ hb1)).mono ?_;rintro e w2 ⟨rfl,hb2⟩;go_wp2_with (go_at_call 61;fail);refine (hNo _).mono ?_;rintro e w3 ⟨rfl,hb3⟩;go_wp2;go_ret2;have hb12:=hb1.trans (hb2.mono hb1.size);exact⟨rfl,hb12.trans (hb3.mono hb12.size)⟩
 | same h k f r=>
  rw[hx] at h f;obtain⟨e0,e5⟩:=zB4 (x:=x) ⟨by omega,by omega⟩;have e1:(x==1)=false:=beq_false_of_ne (by omega);have hk:¬((v.size:Int)<1):=by omega
  have hk2:¬((200:Int)<(v.size:Int)):=by omega
  have hFo:=fun w hT=>hF ⟨by omega,by omega⟩ (by omega) true (by simp[f]) w hT
  rw[r];simp only;rw[hself];clear hF hN hself hX hx h r f;go_enter Tryz.func47,Tryz.ntmps47;go_wp2_with (go_at_call 46;fail);refine hTy.mono ?_;rintro e w1 ⟨rfl,hb1⟩;go_wp2_with (go_at_call 60;fail);refine (hFo _ (hlT _ hb1)).mono ?_;rintro e w2 ⟨rfl,hb2⟩;go_wp2_with (go_at_call 40;fail);refine (hC _).mono ?_;rintro e w3 ⟨rfl,hb3⟩;go_wp2;go_ret2;have hb12:=hb1.trans (hb2.mono hb1.size);exact⟨rfl,hb12.trans (hb3.mono hb12.size)⟩
theorem norm_own {n v:List UInt8} (h:(norm n v).2=0):norm n (norm n v).1=((norm n v).1,0):=by
 cases road n v with
 | none _ r=>rw[r] at h;simp at h
 | name _ r=>rw[r] at h;simp at h
 | short _ _ r=>rw[r] at h;simp at h
 | long _ _ r=>rw[r] at h;simp at h
 | form _ _ _ r=>rw[r] at h;simp at h
 | same _ _ _ r=>rw[r];exact r
 | text ht k f r=>
  rw[r];simp only;rw[ht] at f;obtain⟨h0,h1⟩:=f.tx rfl;have hf:Formed 1 (nt v):=⟨fun _=>⟨nt_zero v h0,by rw[nt_nt];exact h1⟩,fun e=>(by omega),fun e=>(by omega)⟩;have hl:=nt_le v;have hp:=List.length_pos_iff.2 h1;unfold norm;rw[ht,if_neg (by omega),if_neg (by omega),if_neg,if_pos rfl,nt_nt];rintro (h | h | h)
  ·omega
  ·omega
  ·exact h hf
end Go.Proofs.YtlfglibcggphjaaGreatDoor
