/- Several texts in one: PNorm, PSort, PParseM, PParse, PRParse, PFew. By an AI agent. -/
import Derived.Laws.MakeOwn
import Derived.Shelf.SlSortCmp.SmallK
import Derived.Test.YtdkekamkmlpnhaaGreatDoorMF
import Derived.Test.YtdkekamkmlpnhaaGreatDoorME
set_option linter.unusedSimpArgs false
set_option linter.unusedVariables false
set_option maxRecDepth 100000
set_option maxHeartbeats 64000000
namespace Go.Proofs.YtdkekamkmlpnhaaGreatDoor
open Go.RowKit
structure ListPost (E:TypeId) (o:Option (List P2)) (er:Int) (w:World) (e:Ending) (w':World):Prop where
 out:∃v,e=.returned (.tuple #[v,.int .i64 (if o.isSome then 0 else er)])/\w'.ownsRow w.heap.size E 2 v (o.getD []).length (prs (o.getD []))/\Below w.heap.size w w'
open Classical in
noncomputable def normV (l:List P2):Option (List P2):=if PartOk l then some (normP l) else none
open Classical in
theorem zD5 {l:List P2} (h:PartOk l):normV l=some (normP l):=by unfold normV;rw[if_pos h]
open Classical in
theorem zMo {l:List P2} (h:¬PartOk l):normV l=none:=by unfold normV;rw[if_neg h]
theorem makeA (w:World) (n:Nat) (hn:n<=1000000):
  ∃w',(Instr.makeSlice 130 (.int .i64 0) (.int .i64 (n:Int))).run Tryz.prog w=.ok (.slice (some ⟨w.heap.size,0,none⟩) 0 n) w'/\
   w'.ownsRow w.heap.size 133 2 (.slice (some ⟨w.heap.size,0,none⟩) 0 n) 0 (prs [])/\Below w.heap.size w w':=by
 obtain⟨i0,hi,hz0,hz1,hz2⟩:=info_parts infoA;obtain⟨w',h1,h2,h3⟩:=run_make_own (P:=Tryz.prog) w w.heap.size 130 133 i0 (.agg #[.string .empty,.string .empty]) 2 Tryz.underlying130 hi hz0 hz1 .i64 .i64 n (by rw[hz2];omega) (by unfold maxLen;omega) (Nat.le_refl _);exact⟨w',h1,h2,(Below.refl _ _).grown h3 (Nat.le_refl _) (fun g hg=>by cases hg)⟩
theorem zHe {l:List P2} {i:Nat} {a:P2} (ha:l[i]?=some a):prs (normP (l.take (i+1)))=prs (normP (l.take i))++[.string (txt a.1),.string (txt (norm a.1 a.2).1)]:=by
 have htk:l.take (i+1)=l.take i++[a]:=by rw[List.take_add_one,ha];rfl
 rw[htk];simp[normP,prs]
theorem zLz (w:World) (A:Option Addr) (n c:Nat) (l:List P2) (h:Has w w.heap.size 2 A n (prs l)) (hn:n<=10000) (hs:∀a∈l,a.2.length<=1000000) (hT:TT w):
  Calls Tryz.prog 168 #[.slice A n c] w (ListPost 133 (normV l) 1 w):=by
 have hF:=zDr w A n c l h hn hs hT;by_cases hp:PartOk l
 ·rw [zD5 hp];rw[zBb hp] at hF;have hnl:=h.pairs_n;obtain⟨g,o,rfl,hg,hrd⟩:=h.reads (by rintro rfl;have:=hp.pos;simp at this);have HL:=hide hnl;have HR:=hide hrd;have HP:=hide hp;have HN:Hid ((normP l).length=n):=hide (by simp[normP];exact hnl.symm);have hn3:n<=3:=by have:=hp.le;omega
  clear hnl h hrd hs hp;go_enter Tryz.func168,Tryz.ntmps168;go_wp2_with (go_at_call 182;fail);refine hF.mono ?_;rintro e w0 ⟨rfl,hb0⟩;clear hF;obtain⟨wm,hmake,hom,hbm⟩:=makeA w0 n (by omega);have hbrm:=hb0.trans (hbm.mono hb0.size);have horm:=zEf hom hb0.size;clear hom hbm hb0;go_wp2
  go_loopg [4,19] n (fun k s4 s19 wx=>∃i:Nat,i+k=n/\s19=.int .i64 (i:Int)/\wx.ownsRow w.heap.size 133 2 s4 i (prs (normP (l.take i)))/\Below w.heap.size w wx)
  case atStart=>exact⟨0,by omega,rfl,by simpa[normP] using horm,hbrm⟩
  case round=>
   obtain⟨i,hig,rfl,hor,hbr⟩:=hrel;clear horm hbrm hmake;cases gk with
   | zero=>
    obtain rfl:i=n:=by omega
    have hiz:¬((i:Int)<(i:Int)):=(by omega);rw[List.take_of_length_le (by rw[HL.out];exact Nat.le_refl _)] at hor;have Hor:=hide hor;clear hor HL HR HP;go_wp2;go_ret2;exact⟨_,rfl,by have:=Hor.out;rw[<-HN.out] at this;exact this,hbr⟩
   | succ k=>
    have hi:i<n:=(by omega);have hiz:(i:Int)<(n:Int):=(by omega);obtain⟨a,ha⟩:∃a,l[i]?=some a:=⟨_,List.getElem?_eq_getElem (by rw[<-HL.out];exact hi)⟩;have c0:=(hbr.cell (p:=⟨g,o+i*2,none⟩) hg).trans (HR.out.fst i a ha);have c1:=(hbr.cell (p:=⟨g,o+i*2+1,none⟩) hg).trans (HR.out.snd i a ha);have hok:=HP.out.each a (List.mem_of_getElem? ha);have hsm:=hok.small;have hTy:=fun w hT=>zB1 (txt a.1) w hT
    have hNo:=fun w hT=>zEt (txt a.1) (txt a.2) (by rw[zAg];omega) w hT
    simp only[zAf] at hTy hNo;rw[hok.name] at hTy;have hnx:=zHe ha;generalize hU:txt a.1=U at *;generalize hV:txt a.2=V at *;generalize hY:txt (norm a.1 a.2).1=Y at *;generalize (norm a.1 a.2).2=y at *;generalize (typ a.1).2=x at *;have Hnx:=hide hnx;clear ha hok hsm hU hV hY hnx HR HP HL;have hbx:=Bx.new wr U V 133;have hbr1:=hbr.alloc hbr.size (.cells #[.string U,.string V] 133);have hor1:=hor.alloc (.cells #[.string U,.string V] 133);have e0:=hbx.c0;clear hor hbr;go_wp2_with (go_at_call 104;fail);refine (hTy _ (hT.below hbr1).types).mono ?_;rintro e w2 ⟨rfl,hb2⟩;have hbx2:=hbx.below hb2;have hor2:=zAc hor1 hb2;have hbr2:=hbr1.trans (hb2.mono hbr1.size);have d1:=hbx2.c1;clear hbx hor1 hbr1 hb2 hTy e0;go_wp2_with (go_at_call 188;fail);refine (hNo _ (hT.below hbr2)).mono ?_;rintro e w3 ⟨rfl,hb3⟩;have hor3:=zAc hor2 hb3;have hbr3:=hbr2.trans (hb3.mono hbr2.size);clear hor2 hbr2 hb3 hNo d1 hbx2 c0 c1;have hone:=litP w3 U Y 133;have hH:=Has.own hone;have hor4:=hor3.alloc (.cells #[.string U,.string Y] 133);have hbr4:=hbr3.alloc hbr3.size (.cells #[.string U,.string Y] 133);have hs4:=hbr4.size;have h1c:∀u∈[Value.string U,Value.string Y],u.oneCell'=true:=by simp[Value.oneCell']
    clear hone hor3 hbr3;go_wp2_with (at_builtin;go_must (refine appE _ 130 133 _ 2 32 Tryz.underlying130 infoA rfl (by omega) (by omega) rfl (.tmp 36) (.tmp 40) rfl w.heap.size _ i _ rfl hor4 _ _ 1 1 [.string U,.string Y] rfl hH h1c (by omega) hs4 ?_));intro v' w5 hor5 hb5 _;have hbr5:=hbr4.trans hb5;rw[<-Hnx.out] at hor5;clear hor4 hbr4 hs4 hH hb5 h1c;go_wp2
    go_roundg k
    case measure=>omega
    case rel=>exact⟨i+1,by omega,by go_num,hor5,hbr5⟩
 ·rw [zMo hp];rw[zAn hp] at hF;clear h hs hp hT;go_enter Tryz.func168,Tryz.ntmps168;go_wp2_with (go_at_call 182;fail);refine hF.mono ?_;rintro e w0 ⟨rfl,hb0⟩;clear hF;go_wp2;go_ret2;exact⟨_,rfl,nil_own _ _ _ _,hb0⟩
theorem zJy (w:World) (A:Option Addr) (n c:Nat) (l:List P2) (h:Has w w.heap.size 2 A n (prs l)) (hn:n<=10000) (hs:∀a∈l,a.1.length<=1000000/\a.2.length<=1000000) (hT:TT w):
  Calls Tryz.prog 121 #[.slice A n c] w (ListPost 149 (normV l) 1 w):=by
 have hF:=zCz w A n c l h hn hs hT;by_cases hp:PartOk l
 ·rw [zD5 hp];rw[zBb hp] at hF;have hnl:=h.pairs_n;obtain⟨g,o,rfl,hg,hrd⟩:=h.reads (by rintro rfl;have:=hp.pos;simp at this);have HL:=hide hnl;have HR:=hide hrd;have HP:=hide hp;have HN:Hid ((normP l).length=n):=hide (by simp[normP];exact hnl.symm);have hn3:n<=3:=by have:=hp.le;omega
  clear hnl h hrd hs hp;go_enter Tryz.func121,Tryz.ntmps121;go_wp2_with (go_at_call 141;fail);refine hF.mono ?_;rintro e w0 ⟨rfl,hb0⟩;clear hF;go_wp2
  go_loopg [4,13] n (fun k s4 s13 wx=>∃i:Nat,i+k=n/\s13=.int .i64 (i:Int)/\wx.ownsRow w.heap.size 149 2 s4 i (prs (normP (l.take i)))/\Below w.heap.size w wx)
  case atStart=>exact⟨0,by omega,rfl,by simpa[normP,prs] using nil_own _ _ _ _,hb0⟩
  case round=>
   obtain⟨i,hig,rfl,hor,hbr⟩:=hrel;clear hb0;cases gk with
   | zero=>
    obtain rfl:i=n:=by omega
    have hiz:¬((i:Int)<(i:Int)):=(by omega);rw[List.take_of_length_le (by rw[HL.out];exact Nat.le_refl _)] at hor;have Hor:=hide hor;clear hor HL HR HP;go_wp2;go_ret2;exact⟨_,rfl,by have:=Hor.out;rw[<-HN.out] at this;exact this,hbr⟩
   | succ k=>
    have hi:i<n:=(by omega);have hiz:(i:Int)<(n:Int):=(by omega);obtain⟨a,ha⟩:∃a,l[i]?=some a:=⟨_,List.getElem?_eq_getElem (by rw[<-HL.out];exact hi)⟩;have cw0:∀W,Below w.heap.size w W->W.cell? ⟨g,o+i*2,none⟩=some (.string (txt a.1)):=fun W hW=>(hW.cell (p:=⟨g,o+i*2,none⟩) hg).trans (HR.out.fst i a ha)
    have cw1:∀W,Below w.heap.size w W->W.cell? ⟨g,o+i*2+1,none⟩=some (.string (txt a.2)):=fun W hW=>(hW.cell (p:=⟨g,o+i*2+1,none⟩) hg).trans (HR.out.snd i a ha)
    have hok:=HP.out.each a (List.mem_of_getElem? ha);have hsm:=hok.small;have hNo:=fun w hT=>zDw (txt a.1) (txt a.2) (by rw[zAg];omega) (by rw[zAg];omega) w hT
    simp only[zAf] at hNo;have hnx:=zHe ha;generalize hU:txt a.1=U at *;generalize hV:txt a.2=V at *;generalize hY:txt (norm a.1 a.2).1=Y at *;generalize (norm a.1 a.2).2=y at *;have Hnx:=hide hnx;clear ha hok hsm hU hV hY hnx HR HP HL;go_wp2_with fail;refine zAk w.heap.size (by kernel_rfl) ?_;have hbr2:Below w.heap.size w wr.drew:=hbr.trans ((Below.refl _ _).drew);have hor2:=zAc hor (Below.refl wr.heap.size wr).drew;clear hor hbr;generalize wr.drew=w3 at *;refine yTk 0 (some 17) ?_;simp only[pUz];refine yTk 1 (some 18) ?_;simp only[pUz];refine yTk 2 (some 19) ?_;simp only[pUz];refine yTk 3 (some 20) ?_;simp only[pUz];refine zAa 4 (some 21) (v:=?va4) rfl rfl (by kernel_rfl) rfl (by rfl) (fun W hW=>?ya4) ?_
    case ya4=>have h1:=cw0 W (hbr2.trans hW);go_simp<;>with_reducible rfl
    simp only[pUz];refine yTk 5 (some 22) ?_;simp only[pUz];refine yTk 6 (some 23) ?_;simp only[pUz];refine yTk 7 (some 24) ?_;simp only[pUz];refine yTk 8 (some 25) ?_;simp only[pUz];refine zAa 9 (some 26) (v:=?va9) rfl rfl (by kernel_rfl) rfl (by rfl) (fun W hW=>?ya9) ?_
    case ya9=>have h1:=cw1 W (hbr2.trans hW);go_simp<;>with_reducible rfl
    simp only[pUz];refine zAe 10 rfl (by kernel_rfl) (fun K hK=>?_);go_simp;have hT3:=hT.below hbr2;refine (hNo _ hT3).mono ?_;rintro e w4 ⟨rfl,hb4⟩;have hb4m:=hb4.mono hbr2.size;have hbr4:=hbr2.trans hb4m;have hor4:=zAc hor2 hb4;refine hK.out _ _ hb4m ?_;clear hK K hb4 hb4m hT3 hor2;(try simp only[pUz]);refine yTk 11 (some 16) ?_;simp only[pUz];refine yTk 12 (some 28) ?_;simp only[pUz];refine yTk 13 (some 29) ?_;simp only[pUz];refine yTk 14 (some 6) ?_;simp only[pUz];refine yTk 15 (some 7) ?_;simp only[pUz];refine zAi (by kernel_rfl) ?_ _;have hone:=litP w4 U Y 149;have hH:=Has.own hone;have hor5:=hor4.alloc (.cells #[.string U,.string Y] 149);have hbr5:=hbr4.alloc hbr4.size (.cells #[.string U,.string Y] 149);have hs5:=hbr5.size;have h1c:∀u∈[Value.string U,Value.string Y],u.oneCell'=true:=by simp[Value.oneCell']
    have c0:=cw0 _ hbr4;clear hone hor4 hbr4 cw0 cw1;go_wp2_with (at_builtin;go_must (refine appE _ 116 149 _ 2 32 Tryz.underlying116 infoB rfl (by omega) (by omega) rfl (.tmp 30) (.tmp 38) rfl w.heap.size _ i _ rfl hor5 _ _ 1 1 [.string U,.string Y] rfl hH h1c (by omega) hs5 ?_));intro v' w6 hor6 hb6 _;have hbr6:=hbr5.trans hb6;rw[<-Hnx.out] at hor6;clear hor5 hbr5 hs5 hH hb6 h1c c0;go_wp2
    go_roundg k
    case measure=>omega
    case rel=>exact⟨i+1,by omega,by go_num,hor6,hbr6⟩
 ·rw [zMo hp];rw[zAn hp] at hF;clear h hs hp hT;go_enter Tryz.func121,Tryz.ntmps121;go_wp2_with (go_at_call 141;fail);refine hF.mono ?_;rintro e w0 ⟨rfl,hb0⟩;clear hF;go_wp2;go_ret2;exact⟨_,rfl,nil_own _ _ _ _,hb0⟩
open Go.Sort
theorem ins2 (lt:P2->P2->Bool) (a b:P2):(Sort.insertionSort lt #[a,b] 0 2).toList=if lt b a then [b,a] else [a,b]:=by
 cases h:lt b a<;>simp[Sort.insertionSort,Sort.insOuter,Sort.insInner,h,Sort.swp]
theorem ins3 (lt:P2->P2->Bool) (a b c:P2):(Sort.insertionSort lt #[a,b,c] 0 3).toList=
  if lt b a then (if lt c a then (if lt c b then [c,b,a] else [b,c,a]) else [b,a,c]) else (if lt c b then (if lt c a then [c,a,b] else [a,c,b]) else [a,b,c]):=by
 cases h:lt b a<;>cases h2:lt c a<;>cases h3:lt c b<;>simp[Sort.insertionSort,Sort.insOuter,Sort.insInner,h,h2,h3,Sort.swp]
theorem zHi (lt:P2->P2->Bool) (a:Nat):∀(j:Nat) (d:Array P2),(Sort.insInner lt a j d).size=d.size
 | 0,d=>rfl
 | j+1,d=>by
  unfold Sort.insInner;split
  ·rw [zHi lt a j];simp[Sort.swp]
  ·rfl
theorem zOf (lt:P2->P2->Bool) (a b:Nat):∀(n i:Nat) (d:Array P2),b-i<=n->(Sort.insOuter lt a b i d).size=d.size:=by
 intro n
 induction n with
 | zero=>intro i d h;rw[Sort.insOuter,if_neg (by omega)]
 | succ n ih=>
  intro i d h;rw[Sort.insOuter];split
  ·rw [ih (i+1) _ (by omega),zHi]
  ·rfl
theorem zMr (lt:P2->P2->Bool) (d:Array P2) (a b:Nat):(Sort.insertionSort lt d a b).size=d.size:=zOf lt a b _ _ d (Nat.le_refl _)
def cfP (x y:P2):Int:=Lib.compareBytes x.1 y.1
theorem bytesCmp:∀(x y:List UInt8),Lib.compareBytes x y=if Op.bytesLess x y then -1 else if Op.bytesLess y x then 1 else 0
 | [],[]=>by simp[Lib.compareBytes,Op.bytesLess]
 | [],_::_=>by simp[Lib.compareBytes,Op.bytesLess]
 | _::_,[]=>by simp[Lib.compareBytes,Op.bytesLess]
 | a::x,b::y=>by
  have ih:=bytesCmp x y;unfold Lib.compareBytes Op.bytesLess;by_cases h1:a<b
  ·simp [h1]
  ·by_cases h2:b<a
   ·have:a≠b:=by rintro rfl;exact h1 h2
    simp[h1,h2,this]
   ·have hl:∀{x y:UInt8},x<y↔x.toNat<y.toNat:=Iff.rfl;obtain rfl:a=b:=zCp (by rw[hl] at h1 h2;omega);simp[h1,ih]
theorem zMz (x y:P2):ltOf cfP x y=decide (x.1<y.1):=by
 unfold ltOf cfP;rw[bytesCmp,bytesLess_eq,bytesLess_eq];by_cases h:x.1<y.1
 ·simp [h]
 ·by_cases h2:y.1<x.1<;>simp[h,h2]
def goSort (l:List P2):List P2:=(Sort.insertionSort (ltOf cfP) l.toArray 0 l.toArray.size).toList
theorem zHl {l:List P2} (h0:1<=l.length) (h3:l.length<=3) (h:(goSort l).Pairwise (fun x y=>x.1<y.1)\/(sortP l).Pairwise (fun x y=>x.1<y.1)):goSort l=sortP l:=by
 have asy:∀{x y:List UInt8},x<y->¬y<x:=fun {x y} h1 h2=>List.lt_irrefl x (List.lt_trans h1 h2)
 match l,h0,h3,h with
 | [a],_,_,_=>simp[goSort,Sort.insertionSort,Sort.insOuter,sortP,insP]
 | [a,b],_,_,h=>
  have e:goSort [a,b]=_:=ins2 (ltOf cfP) a b;rw[e] at h ⊢;rw[zMz] at h ⊢;simp only[sortP,insP,List.foldl_cons,List.foldl_nil,List.takeWhile_nil,List.dropWhile_nil,List.nil_append] at h ⊢;by_cases h1:a.1<b.1
  ·have:=asy h1;simp[h1,this]
  ·by_cases h2:b.1<a.1
   ·simp [h1,h2]
   ·simp [h1,h2] at h
 | [a,b,c],_,_,h=>
  have e:goSort [a,b,c]=_:=ins3 (ltOf cfP) a b c;rw[e] at h ⊢;rw[zMz,zMz,zMz] at h ⊢;simp only[sortP,insP,List.foldl_cons,List.foldl_nil,List.takeWhile_nil,List.dropWhile_nil,List.nil_append] at h ⊢;by_cases ab:a.1<b.1<;>by_cases ba:b.1<a.1<;>by_cases bc:b.1<c.1<;>by_cases cb:c.1<b.1<;>by_cases ac:a.1<c.1<;>by_cases ca:c.1<a.1
  all_goals first
   | exact absurd ba (asy ab)
   | exact absurd cb (asy bc)
   | exact absurd ca (asy ac)
   | exact absurd (List.lt_trans ab bc) ac
   | exact absurd (List.lt_trans cb ba) ca
   |(simp[ab,ba,bc,cb,ac,ca];done)
   |(simp[ab,ba,bc,cb,ac,ca] at h;done)
   | skip
def encP (a:P2):List Value:=[.string (txt a.1),.string (txt a.2)]
theorem encP_len (a:P2):(encP a).length=2:=rfl
theorem encP_one (a:P2):∀v∈encP a,v.oneCell'=true:=by
 intro v hv;simp only[encP,List.mem_cons,List.not_mem_nil,or_false] at hv;rcases hv with rfl | rfl<;>rfl
theorem zM0 (l:List P2) (t:Nat) (ht:t<l.length*2):(prs l)[t]?=some ((flatK encP 2 l.toArray)[t]!):=by
 rw[get_flatK encP 2 l.toArray t (by simpa using ht)];have hi:t/2<l.length:=by omega
 have ha:l[t/2]?=some l[t/2]:=List.getElem?_eq_getElem hi;have hb:l.toArray[t/2]! =l[t/2]:=by simp[hi]
 obtain⟨h1,h2⟩:=zJr l (t/2) _ ha;rw[hb];rcases Nat.mod_two_eq_zero_or_one t with h | h
 ·rw [h];have e:t/2*2=t:=by omega
  rw[e] at h1;exact h1
 ·rw [h];have e:t/2*2+1=t:=by omega
  rw[e] at h2;exact h2
theorem zQb {w:World} {base g n cap:Nat} {l:List P2} (h:w.ownsRow base 133 2 (.slice (some ⟨g,0,none⟩) n cap) n (prs l)):HoldsK encP 2 w g 0 l.toArray:=by
 have hn:=h.1;rw[zBg] at hn;rcases h.2 with⟨h0,_⟩ | ⟨g',cap',cur,hv,_,hh,_,_,hsz,_⟩
 ·cases h0
 ·simp only[Value.slice.injEq,Option.some.injEq,Addr.mk.injEq] at hv;obtain⟨⟨rfl,_⟩,_⟩:=hv;intro j hj;rw[size_flatK] at hj;simp only[List.size_toArray] at hj;have hc:=h.cellAt j (by omega);have hf:=zM0 l j hj;refine⟨?_,?_⟩
  ·rw [Nat.zero_add,hc,hf];rfl
  ·simp [World.frozen?,hh]
theorem zQ5 {w:World} {g:Nat} {l:List P2} (hg:g<w.heap.size) (h:HoldsK encP 2 w g 0 l.toArray):Has w w.heap.size 2 (some ⟨g,0,none⟩) l.length (prs l):=by
 refine⟨zBg l,.inr ⟨_,rfl,hg,fun j u hu=>?_⟩⟩;have hj:j<l.length*2:=by
  have:=(List.getElem?_eq_some_iff.1 hu).1
  rwa [zBg] at this
 have h1:=(h j (by rw[size_flatK];simpa using hj)).1;have hf:=zM0 l j hj;rw[hu] at hf;obtain rfl:=Option.some.inj hf;rw[Nat.zero_add] at h1;have e:(⟨g,0,none⟩:Addr).add j=⟨g,j,none⟩:=by unfold Addr.add;split<;>simp_all
 rw[e];exact h1
theorem zL8 (x y:P2) (W:World):Calls Tryz.prog 180 #[.agg #[.string (txt x.1),.string (txt x.2)],.agg #[.string (txt y.1),.string (txt y.2)]] W fun e w'=>e=.returned (.int .i64 (cfP x y))/\∃q os',w'=grow (W.drewN q) os':=by
 have hC:=fun w=>Tryz.strings_Compare (txt x.1) (txt y.1) w
 simp only[zAf] at hC;unfold cfP;generalize Lib.compareBytes x.1 y.1=r at *;generalize txt x.1=X1 at *;generalize txt x.2=X2 at *;generalize txt y.1=Y1 at *;generalize txt y.2=Y2 at *;go_enter Tryz.func180,Tryz.ntmps180;go_wp2_with (go_at_call 181;refine (hC _).mono ?_;rintro e w' ⟨rfl,rfl⟩);go_ret;exact⟨rfl,0,_,by rw[alloc_eq_grow,alloc_eq_grow,grow_grow];rfl⟩
theorem zHh {base:Nat} (w:World) (g n:Nat) (d:Array P2) (os:Array Obj) (hb:base<=g) (hg:g<w.heap.size) (hbs:base<=w.heap.size):Below base w (sortWorldK encP 2 w g 0 n d os):=by
 unfold sortWorldK;refine⟨rfl,rfl,rfl,?_,fun k hk=>?_⟩
 ·simp [grow,putRowK,putRow,mapBlock,Sort.ahead]
 ·simp only[grow,putRowK,putRow,mapBlock,Sort.ahead];rw[Array.getElem?_append_left (by simp;omega),Array.getElem?_modify,if_neg (by omega)]
theorem sort_any (w:World) (base g cap:Nat) (l:List P2) (hb:base<=w.heap.size) (h12:l.length<=12) (h:w.ownsRow base 133 2 (.slice (some ⟨g,0,none⟩) l.length cap) l.length (prs l)) (hg:g<w.heap.size) (hbg:base<=g):
  Calls Tryz.prog 179 #[.slice (some ⟨g,0,none⟩) l.length cap,.func (.func 180) #[] #[]] w fun e w'=>e=.returned (.tuple #[])/\Has w' w'.heap.size 2 (some ⟨g,0,none⟩) l.length (prs (goSort l))/\Below base w w':=by
 have eg:∀args w,(callFunc 180 args).run Tryz.prog w=.ok (.enter 180 args) w:=enters_of Tryz.func180 (by kernel_rfl) rfl;have hH:=zQb h;have hcon:=AnyQ.slices_SortFunc_small Tryz.sortAva 2 Tryz.isAgg133 Tryz.sizeOf133 encP encP_len encP_one cfP 180 #[] g 0 cap l.toArray w eg (fun _ _ _ _ x y=>zL8 x y _) hH hg (by simpa using h12)
  (fun n W hn=>(Tryz.bits_Len n W (by omega) (by omega)).mono fun _ _ ⟨he,hw⟩=>⟨⟨_,he⟩,hw⟩)
 refine Calls.mono hcon ?_;rintro e w' ⟨rfl,n,os,rfl⟩;refine⟨rfl,?_,zHh w g n _ os hbg hg hb⟩;have hsz:(Sort.insertionSort (ltOf cfP) l.toArray 0 l.toArray.size).size=l.toArray.size:=zMr _ _ _ _;have h1:=holdsK_sortWorldK_c encP 2 w g 0 l.toArray (Sort.insertionSort (ltOf cfP) l.toArray 0 l.toArray.size) n os hH hg hsz;have hlen:l.length=(goSort l).length:=by unfold goSort;rw[Array.length_toList];exact hsz.symm
 have h2:HoldsK encP 2 (sortWorldK encP 2 w g 0 n (Sort.insertionSort (ltOf cfP) l.toArray 0 l.toArray.size) os) g 0 (goSort l).toArray:=by
  have:(goSort l).toArray=Sort.insertionSort (ltOf cfP) l.toArray 0 l.toArray.size:=by unfold goSort;simp
  rw[this];exact h1
 rw[hlen];exact zQ5 (Nat.lt_of_lt_of_le hg (zHh w g n _ os hbg hg hb).size) h2
end Go.Proofs.YtdkekamkmlpnhaaGreatDoor
namespace Go.Proofs.YtdkekamkmlpnhaaGreatDoor
section
variable {α β:Type} {f g:α->Option β}
theorem mapM_cons' (a:α) (r:List α):(a::r).mapM f=(f a).bind fun b=>(r.mapM f).map fun c=>b::c:=by
 rw[List.mapM_cons];cases f a with
 | none=>rfl
 | some b=>cases r.mapM f<;>rfl
theorem zCt:∀{ps:List α} {i:Nat} {p:α} {L:List β} {a:β},ps[i]?=some p->(ps.take i).mapM f=some L->f p=some a->(ps.take (i+1)).mapM f=some (L++[a])
 | [],i,p,L,a,h,_,_=>by simp at h
 | x::r,0,p,L,a,h,hL,ha=>by
  simp only[List.getElem?_cons_zero,Option.some.injEq] at h;subst h;simp only[List.take_zero,List.mapM_nil] at hL;obtain rfl:=Option.some.inj hL;rw[List.take_succ_cons,mapM_cons',ha];simp
 | x::r,i+1,p,L,a,h,hL,ha=>by
  simp only[List.getElem?_cons_succ] at h;rw[List.take_succ_cons,mapM_cons'] at hL ⊢;cases hx:f x with
  | none=>rw[hx] at hL;cases hL
  | some b=>
   rw[hx] at hL;cases hr:(r.take i).mapM f with
   | none=>rw[hr] at hL;cases hL
   | some M=>
    rw[hr] at hL;obtain rfl:=Option.some.inj hL;rw[zCt h hr ha];rfl
theorem zCs:∀{ps:List α} {p:α},p∈ps->f p=none->ps.mapM f=none
 | [],p,h,_=>by cases h
 | x::r,p,h,hp=>by
  rw[mapM_cons'];rcases List.mem_cons.1 h with rfl | h
  ·rw [hp];rfl
  ·rw [zCs h hp];cases f x<;>rfl
theorem mapM_congr':∀{ps:List α} {L:List β},ps.mapM f=some L->(∀p a,p∈ps->a∈L->f p=some a->g p=some a)->ps.mapM g=some L
 | [],L,h,_=>h
 | x::r,L,h,hg=>by
  rw[mapM_cons'] at h ⊢;cases hx:f x with
  | none=>rw[hx] at h;cases h
  | some b=>
   rw[hx] at h;cases hr:r.mapM f with
   | none=>rw[hr] at h;cases h
   | some M=>
    rw[hr] at h;obtain rfl:=Option.some.inj h;rw[hg x b (by simp) (by simp) hx,mapM_congr' hr fun p a hp ha hf=>hg p a (by simp[hp]) (by simp[ha]) hf];rfl
theorem zMv:∀{ps:List α} {L:List β} {p:α} {a:β},ps.mapM f=some L->p∈ps->f p=some a->a∈L
 | [],L,p,a,_,h,_=>by cases h
 | x::r,L,p,a,h,hp,ha=>by
  rw[mapM_cons'] at h;cases hx:f x with
  | none=>rw[hx] at h;cases h
  | some b=>
   rw[hx] at h;cases hr:r.mapM f with
   | none=>rw[hr] at h;cases h
   | some M=>
    rw[hr] at h;obtain rfl:=Option.some.inj h;rcases List.mem_cons.1 hp with rfl | hp
    ·rw [hx] at ha;obtain rfl:=Option.some.inj ha;simp
    ·exact List.mem_cons_of_mem _ (zMv hr hp ha)
theorem zFi:∀{ps:List α} {L:List β},ps.mapM f=some L->L.length=ps.length
 | [],L,h=>by obtain rfl:=Option.some.inj h;rfl
 | x::r,L,h=>by
  rw[mapM_cons'] at h;cases hx:f x with
  | none=>rw[hx] at h;cases h
  | some b=>
   rw[hx] at h;cases hr:r.mapM f with
   | none=>rw[hr] at h;cases h
   | some M=>
    rw[hr] at h;obtain rfl:=Option.some.inj h;have:=zFi hr;simp[this]
end
theorem mem_ins {a x:P2} {l:List P2}:x∈insP a l↔x=a\/x∈l:=by
 have h:=List.takeWhile_append_dropWhile (p:=fun b:P2=>decide (b.1<a.1)) (l:=l);unfold insP;constructor
 ·intro hx;rw[<-h];simp only[List.mem_append,List.mem_cons] at hx ⊢;rcases hx with h1 | h1 | h1
  ·exact Or.inr (Or.inl h1)
  ·exact Or.inl h1
  ·exact Or.inr (Or.inr h1)
 ·rintro (rfl | hx)
  ·simp
  ·rw [<-h] at hx;simp only[List.mem_append,List.mem_cons] at hx ⊢;rcases hx with h1 | h1
   ·exact Or.inl h1
   ·exact Or.inr (Or.inr h1)
theorem mem_sort {x:P2} {l:List P2}:x∈sortP l↔x∈l:=by
 have key:∀(r o:List P2),x∈r.foldl (fun o a=>insP a o) o↔x∈o\/x∈r:=by
  intro r
  induction r with
  | nil=>intro o;simp
  | cons a r ih=>
   intro o;rw[List.foldl_cons,ih,mem_ins,List.mem_cons];constructor
   ·rintro ((h | h) | h)
    ·exact Or.inr (Or.inl h)
    ·exact Or.inl h
    ·exact Or.inr (Or.inr h)
   ·rintro (h | h | h)
    ·exact Or.inl (Or.inr h)
    ·exact Or.inl (Or.inl h)
    ·exact Or.inr h
 have:=key l [];simpa[sortP] using this
theorem t_of_q {p:List UInt8} {a:P2} (h:rqPairT p=some a) (h0:(0:UInt8) ∉ a.2):rdPairT p=some a:=by
 unfold rqPairT at h;unfold rdPairT;cases he:eqCut p with
 | none=>rw[he] at h;cases h
 | some q=>
  rw[he] at h;simp only[Option.bind_some] at h ⊢;cases hq:rqFrom true q.2 with
  | none=>rw[hq] at h;cases h
  | some v=>
   rw[hq] at h;obtain rfl:=Option.some.inj h;cases hr:rd q.2 with
   | none=>exact absurd (rq_zero hr hq) h0
   | some u=>
    have:=zNw hr;rw[hq] at this;obtain rfl:=Option.some.inj this;rfl
theorem zRk {p:List UInt8} {a:P2} (h:rdPairT p=some a):rqPairT p=some a:=by
 unfold rdPairT at h;unfold rqPairT;cases he:eqCut p with
 | none=>rw[he] at h;cases h
 | some q=>
  rw[he] at h;simp only[Option.bind_some] at h ⊢;cases hr:rd q.2 with
  | none=>rw[hr] at h;cases h
  | some u=>
   rw[hr] at h;rw[zNw hr];exact h
theorem t_of_s {p:List UInt8} {a:P2} (h:rdPairS p=some a):rdPairT p=some a:=by
 unfold rdPairS at h;unfold rdPairT;cases he:eqCut p with
 | none=>rw[he] at h;cases h
 | some q=>
  rw[he] at h;simp only[Option.bind_some] at h ⊢;split at h
  ·cases h
  ·exact h
theorem zNr {n:List UInt8} (h:(typ n).2=0):(typ n).1=[]:=by
 have key:∀(t:List (List UInt8 × Int)) (m:List UInt8),(∀e∈t,e.2≠0)->(typL m t).2=0->(typL m t).1=[]:=by
  intro t
  induction t with
  | nil=>intro m _ _;rfl
  | cons e r ih=>
   intro m hne h;unfold typL at h ⊢;split
   ·rename_i he;rw[if_pos he] at h;exact absurd h (hne e (by simp))
   ·rename_i he;rw[if_neg he] at h;exact ih m (fun e' h'=>hne e' (by simp[h'])) h
 exact key tab _ (by decide) h
theorem typ_nil:(typ []).2=0:=by decide
theorem zG7 {s p:List UInt8} (hp:p∈cuts 43 s) (h:rqPairT p=none):parseP s=none:=by
 refine zGn (zCs hp ?_);cases hr:rdPairT p with
 | none=>rfl
 | some a=>rw[zRk hr] at h;cases h
open Classical in
theorem zHp {s:List UInt8} {L:List P2} (h3:(cuts 43 s).length<=3) (h:(cuts 43 s).mapM rqPairT=some L):parseP s=if PartOk (goSort L) then some (goSort L) else none:=by
 have hl:=zFi h;have h1:1<=L.length:=by rw[hl];simp[cuts]
 by_cases hp:PartOk (goSort L)
 ·rw [if_pos hp];have hs:=zHl h1 (by omega) (Or.inl hp.order);have hT:(cuts 43 s).mapM rdPairT=some L:=mapM_congr' h fun p a _ ha hf=>t_of_q hf (hp.each a (by rw[hs];exact mem_sort.2 ha)).zero
  rw[zBr h3 hT,<-hs,if_pos hp]
 ·rw [if_neg hp];cases hT:(cuts 43 s).mapM rdPairT with
  | none=>exact zGn hT
  | some M=>
   have hq:=mapM_congr' (g:=rqPairT) hT fun p a _ _ hf=>zRk hf
   rw[h] at hq;obtain rfl:=Option.some.inj hq;rw[zBr h3 hT,if_neg];intro hp2;exact hp (by rw[zHl h1 (by omega) (Or.inr hp2.order)];exact hp2)
theorem zIt {s p:List UInt8} (h3:(cuts 43 s).length<=3) (hp:p∈cuts 43 s) (h:rdPairS p=none):parseP s=none:=by
 cases hT:(cuts 43 s).mapM rdPairT with
 | none=>exact zGn hT
 | some M=>
  cases hr:rdPairT p with
  | none=>rw[zCs hp hr] at hT;cases hT
  | some a=>
   have ha:=zMv hT hp hr;have hno:¬PairOk a:=by
    intro hok;unfold rdPairS at h;unfold rdPairT at hr;cases he:eqCut p with
    | none=>rw[he] at hr;cases hr
    | some q=>
     rw[he] at h hr;simp only[Option.bind_some] at h hr;cases hv:rd q.2 with
     | none=>rw[hv] at hr;cases hr
     | some v=>
      rw[hv] at h hr;obtain rfl:=Option.some.inj hr;by_cases hz:(typ q.1).2=0
      ·have:=hok.nz;simp only[zNr hz] at this;exact this typ_nil
      ·rw [if_neg hz] at h;cases h
   rw[zBr h3 hT,if_neg];intro hk;exact hno (hk.each a (mem_sort.2 ha))
open Classical in
theorem zJ1 {s:List UInt8} {L:List P2} (h3:(cuts 43 s).length<=3) (h:(cuts 43 s).mapM rdPairS=some L):parseP s=if PartOk (sortP L) then some (sortP L) else none:=
 zBr h3 (mapM_congr' h fun p a _ _ hf=>t_of_s hf)
theorem zHb {s:List UInt8} {L:List P2} (h3:(cuts 43 s).length<=3) (h:(cuts 43 s).mapM rqPairT=some L) (hp:PartOk (goSort L)):parseP s=some (goSort L):=by rw[zHp h3 h,if_pos hp]
theorem zIp {s:List UInt8} {L:List P2} (h3:(cuts 43 s).length<=3) (h:(cuts 43 s).mapM rqPairT=some L) (hp:¬PartOk (goSort L)):parseP s=none:=by rw[zHp h3 h,if_neg hp]
theorem zH7 {s:List UInt8} {L:List P2} (h3:(cuts 43 s).length<=3) (h:(cuts 43 s).mapM rdPairS=some L) (hp:PartOk (sortP L)):parseP s=some (sortP L):=by rw[zJ1 h3 h,if_pos hp]
theorem zJn {s:List UInt8} {L:List P2} (h3:(cuts 43 s).length<=3) (h:(cuts 43 s).mapM rdPairS=some L) (hp:¬PartOk (sortP L)):parseP s=none:=by rw[zJ1 h3 h,if_neg hp]
open Go.RowKit
theorem zMx {w:World} {base size n m c:Nat} {e:TypeId} {A:Option Addr} {xs:List Value} (h:w.ownsRow base e size (.slice A m c) n xs):n<=c/\c<=maxLen:=by
 rcases h.2 with⟨hv,rfl⟩ | ⟨g,cap,cur,hv,_,_,h1,h2,_⟩
 ·cases hv;exact⟨Nat.le_refl _,Nat.zero_le _⟩
 ·cases hv;exact⟨h1,h2⟩
theorem zS0 {w:World} {base size n m c:Nat} {e:TypeId} {A:Option Addr} {xs:List Value} (h:w.ownsRow base e size (.slice A m c) n xs):∀ad,A=some ad->base<=ad.block:=by
 intro ad ha;rcases h.2 with⟨hv,rfl⟩ | ⟨g,cap,cur,hv,hb,_⟩
 ·cases hv;cases ha
 ·cases hv;cases ha;exact hb
theorem zNj:∀(n:Nat) (l:List UInt8) (first:Bool) (v:List UInt8),l.length<=n->rqFrom first l=some v->v.length<=l.length
 | 0,l,first,v,h,hv=>by
  obtain rfl:=List.eq_nil_of_length_eq_zero (Nat.le_zero.1 h);simp[rqFrom] at hv;subst hv;simp
 | n+1,l,first,v,h,hv=>by
  by_cases hl:l=[]
  ·subst hl;simp[rqFrom] at hv;subst hv;simp
  ·have step:∀(r:List UInt8) (x:UInt8),r.length<l.length->rqFrom first l=(rqFrom false r).map (x::·)->v.length<=l.length:=by
    intro r x hr e;rw[e] at hv;cases hw:rqFrom false r with
    | none=>rw[hw] at hv;cases hv
    | some u=>
     rw[hw] at hv;obtain rfl:=Option.some.inj hv;have:=zNj n r false u (by omega) hw;simp only[List.length_cons];omega
   cases rway first l hl with
   | bad c r hh _ _ e1 e2=>rw[e2] at hv;cases hv
   | zero r hh e1 e2=>exact step r 0 (by rw[hh];simp) e2
   | one c r hh _ _ _ e1 e2=>exact step r c (by rw[hh];simp) e2
   | stop hh e1 e2=>rw[e2] at hv;cases hv
   | pair d r hh _ e1 e2=>exact step r d (by rw[hh];simp;omega) e2
   | half d hh _ e1 e2=>rw[e2] at hv;cases hv
   | hex d f a b r hh _ _ _ e1 e2=>exact step r _ (by rw[hh];simp;omega) e2
   | nohex d f r hh _ _ e1 e2=>rw[e2] at hv;cases hv
theorem zGj {p:List UInt8} {a:P2} (h:rqPairT p=some a):a.2.length<=p.length:=by
 unfold rqPairT at h;rcases zFf p with⟨h1,_⟩ | ⟨x,y,h1,h2,_⟩
 ·rw [h1] at h;cases h
 ·rw [h1] at h;simp only[Option.bind_some] at h;cases hr:rqFrom true y with
  | none=>rw[hr] at h;cases h
  | some v=>
   rw[hr] at h;obtain rfl:=Option.some.inj h;have:=zNj _ y true v (Nat.le_refl _) hr;have:=congrArg List.length h2;rw[List.length_append,List.length_cons] at this;simp only;omega
theorem zOn {l:List P2} (h0:1<=l.length) (h3:l.length<=3) {x:P2} (hx:x∈goSort l):x∈l:=by
 match l,h0,h3,hx with
 | [a],_,_,hx=>simpa[goSort,Sort.insertionSort,Sort.insOuter] using hx
 | [a,b],_,_,hx=>
  have e:goSort [a,b]=_:=ins2 (ltOf cfP) a b;rw[e] at hx;split at hx<;>(simp only[List.mem_cons,List.not_mem_nil,or_false] at hx ⊢;rcases hx with h | h<;>simp[h])
 | [a,b,c],_,_,hx=>
  have e:goSort [a,b,c]=_:=ins3 (ltOf cfP) a b c;rw[e] at hx
  repeat' split at hx
  all_goals (simp only[List.mem_cons,List.not_mem_nil,or_false] at hx ⊢;rcases hx with h | h | h<;>simp[h])
theorem zPi (l:List P2):(goSort l).length=l.length:=by unfold goSort;rw[Array.length_toList,zMr];simp
structure PartPostL (o:Option (List P2)) (er:Int) (w:World) (e:Ending) (w':World):Prop where
 out:∃A n c,e=.returned (.tuple #[.slice A n c,.int .i64 (if o.isSome then 0 else er)])/\n=(o.getD []).length/\Has w' w'.heap.size 2 A n (prs (o.getD []))/\Below w.heap.size w w'/\(∀ad,A=some ad->w.heap.size<=ad.block)
theorem zBu (er:Int) (w w':World) (hb:Below w.heap.size w w'):PartPostL none er w (.returned (.tuple #[.slice none 0 0,.int .i64 er])) w':=⟨none,0,0,rfl,rfl,Has.nil,hb,fun _ h=>(by cases h)⟩
theorem zOw (s:ByteArray) (hs:s.size<=1000000) (w:World) (hT:TM w):
  Calls Tryz.prog 134 #[.string s] w (PartPostL (parseP s.data.toList) 2 w):=by
 have hSp:=zEv s hs 43 (by decide) w;have hL:=Lib.size_eq s;generalize hl:s.data.toList=l at *;obtain⟨ps,hps⟩:∃ps,cuts 43 l=ps:=⟨_,rfl⟩;rw[hps] at hSp;have hsm:∀p∈ps,p.length<=1000000:=fun p hp=>by rw[<-hps] at hp;have:=zC3 hp;omega
 have hps1:1<=ps.length:=by rw[<-hps];simp[cuts]
 obtain⟨R,hR⟩:∃R,parseP l=R:=⟨_,rfl⟩;rw[hR];replace hR:=hide hR;replace hps:=hide hps;clear hL hl;by_cases h3:3<ps.length
 ·have hRn:Hid (R=none):=hide (by rw[<-hR.out];exact zH2 (by rw[hps.out];exact h3));have z3:((3:Int)<(ps.length:Int)):=by omega
  clear hR hps hsm;go_enter Tryz.func134,Tryz.ntmps134;go_wp2_with (go_at_call 75;fail);refine hSp.mono ?_;rintro e w1 ⟨v,rfl,hown,hb1⟩;obtain⟨Ap,cp,rfl,_,_⟩:=zAh hown;clear hown hSp;generalize ps.length=np at *;go_wp2;go_ret2;exact hRn.out ▸ zBu 2 w w1 hb1
 ·have z3:¬((3:Int)<(ps.length:Int)):=by omega
  have Hsm:=hide hsm;obtain⟨np,hnp⟩:∃np,ps.length=np:=⟨_,rfl⟩;rw[hnp] at hSp z3 h3 hps1;have Hnp:=hide hnp;clear hsm hnp;go_enter Tryz.func134,Tryz.ntmps134;go_wp2_with (go_at_call 75;fail);refine hSp.mono ?_;rintro e w1 ⟨v,rfl,hown,hb1⟩;obtain⟨Ap,cp,rfl,_,hHp⟩:=zAh hown;obtain⟨g,o,rfl,hg,hcell⟩:=hHp.texts (fun h=>by have:=Hnp.out;rw[h] at this;simp at this;omega);have HC:=hide hcell;clear hown hSp hHp hcell;obtain⟨wm,hmake,hom,hbm⟩:=makeA w1 np (by omega);have horm:=hom;have HB1:=hide hbm;have HW:=hide hb1;clear hom hbm hb1;go_wp2
  go_loopg [5,20] np (fun k s5 s20 wx=>∃(i:Nat) (L:List P2),i+k=np/\s20=.int .i64 (i:Int)/\Hid ((ps.take i).mapM rqPairT=some L/\∀a∈L,a.2.length<=1000000)/\wx.ownsRow w1.heap.size 133 2 s5 i (prs L)/\Hid (Below w1.heap.size w1 wx))
  case atStart=>exact⟨0,[],by omega,rfl,hide ⟨rfl,fun a h=>by cases h⟩,horm,HB1⟩
  case round=>
   obtain⟨i,L,hig,rfl,hM,hor,hB1⟩:=hrel;have hbr:=HW.out.trans (hB1.out.mono HW.out.size);clear horm hmake HB1;cases gk with
   | zero=>
    obtain rfl:i=np:=by omega
    have hiz:¬((i:Int)<(i:Int)):=(by omega);have hfull:(cuts 43 l).mapM rqPairT=some L:=(by have h1:=hM.out.1;rw[List.take_of_length_le (by rw[Hnp.out];exact Nat.le_refl _)] at h1;rw[hps.out];exact h1);have hRy:Hid (PartOk (goSort L)->R=some (goSort L)):=hide fun hp=>by
     rw[<-hR.out];exact zHb (by rw[hps.out,Hnp.out];omega) hfull hp
    have hRn:Hid (¬PartOk (goSort L)->R=none):=hide fun hp=>by
     rw[<-hR.out];exact zIp (by rw[hps.out,Hnp.out];omega) hfull hp
    have hLn:L.length=i:=(by rw[zFi hfull,hps.out,Hnp.out]);have hsz:=hM.out.2;obtain⟨g2,cap2,rfl,hbg,hglt⟩:=hor.form (by omega);rw[<-hLn] at hor;have hSo:=sort_any wr w1.heap.size g2 cap2 L hB1.out.size (by omega) hor hglt hbg;have hGs:∀a∈goSort L,a.2.length<=1000000:=fun a ha=>hsz a (zOn (by omega) (by omega) ha)
    have hGl:=zPi L;have hlow:Hid (w.heap.size<=g2):=hide (Nat.le_trans HW.out.size hbg);rw[hLn] at hSo hGl;clear hR hps hM hfull hsz hor Hnp Hsm HC hLn;go_wp2_with (go_at_call 179;fail);refine hSo.mono ?_;rintro e w4 ⟨rfl,hH4,hb4⟩;have hbr4:=HW.out.trans ((hB1.out.trans hb4).mono HW.out.size);have hF:=zDr w4 _ i cap2 (goSort L) hH4 (by omega) hGs (hT.tt.below hbr4);clear hSo hb4 hbr hB1 HW;by_cases hp:PartOk (goSort L)
    ·rw [zBb hp] at hF;have hRs:Hid (R=some (goSort L)):=hide (hRy.out hp);have Hgl:=hide hGl;generalize goSort L=G at *;clear hRy hRn hp hGs hGl;go_wp2_with (go_at_call 182;fail);refine hF.mono ?_;rintro e w5 ⟨rfl,hb5⟩;have hH5:=(hH4.below hb5).upto hb5.size;have hbr5:=hbr4.trans (hb5.mono hbr4.size);have HH:=hide hH5;clear hF hb5 hH4 hbr4 hH5;go_wp2;go_ret2;refine hRs.out ▸ ⟨_,_,_,rfl,Hgl.out.symm,HH.out,hbr5,fun ad h=>?_⟩;obtain rfl:=Option.some.inj h;exact hlow.out
    ·rw [zAn hp] at hF;have hRs:Hid (R=none):=hide (hRn.out hp);generalize goSort L=G at *;clear hRy hRn hp hGs hGl;go_wp2_with (go_at_call 182;fail);refine hF.mono ?_;rintro e w5 ⟨rfl,hb5⟩;have hbr5:=hbr4.trans (hb5.mono hbr4.size);clear hF hb5 hH4 hbr4;go_wp2;go_ret2;exact hRs.out ▸ zBu 2 w w5 hbr5
   | succ k=>
    have hi:i<np:=(by omega);have hiz:(i:Int)<(np:Int):=(by omega);obtain⟨p,hp⟩:∃p,ps[i]?=some p:=⟨_,List.getElem?_eq_getElem (by rw[Hnp.out];exact hi)⟩;have c0:=(hB1.out.cell (p:=⟨g,o+i,none⟩) hg).trans (HC.out i p hp);have hP:=fun w hT=>zSr (txt p) (by rw[zAg];exact Hsm.out p (List.mem_of_getElem? hp)) w hT
    simp only[zAf] at hP;have Hp:=hide hp;have hps7:=Hsm.out p (List.mem_of_getElem? hp);have Hps7:=hide hps7;clear hp hps7 HC;generalize txt p=U at *;cases hq:rqPairT p with
    | none=>
     have hRn:Hid (R=none):=hide (by rw[<-hR.out];exact zG7 (by rw[hps.out];exact List.mem_of_getElem? Hp.out) hq);rw[hq] at hP;clear hq hR hps hM Hp Hps7 Hsm Hnp;go_wp2_with (go_at_call 178;fail);refine (hP _ (hT.below hbr)).mono ?_;rintro e w3 hpost;obtain⟨X,Y,rfl,_,hb3⟩:=hpost.out;have hbr3:=hbr.trans (hb3.mono hbr.size);have hbr4:=hbr3.alloc hbr3.size (.cells #[.string X,.string Y] 133);clear hb3 hbr hP c0 hor hB1 hpost;go_wp2;go_ret2;exact hRn.out ▸ zBu 2 w _ hbr4
    | some a=>
     have hM2:Hid ((ps.take (i+1)).mapM rqPairT=some (L++[a])/\∀b∈L++[a],b.2.length<=1000000):=hide ⟨zCt Hp.out hM.out.1 hq,fun b hb=>by
      rcases List.mem_append.1 hb with hb | hb
      ·exact hM.out.2 b hb
      ·obtain rfl:=List.mem_singleton.1 hb
       have:=zGj hq
       have:=Hps7.out
       omega⟩
     rw[hq] at hP;clear hq hM Hp Hps7;go_wp2_with (go_at_call 178;fail);refine (hP _ (hT.below hbr)).mono ?_;rintro e w3 hpost;obtain⟨X,Y,rfl,hXY,hb3⟩:=hpost.out;obtain⟨hX,hY⟩:=hXY a rfl;have hB3:=hTz hB1 hb3;have hor3:=zAc hor hb3;have hv2:Hid (prs (L++[a])=prs L++[.string X,.string Y]):=hide (by rw[zEo,hX,hY];rfl);clear hb3 hbr hP c0 hor hB1 hpost hXY hX hY;have hor4:=hor3.alloc (.cells #[.string X,.string Y] 133);have hB4:=hide (hB3.out.alloc hB3.out.size (.cells #[.string X,.string Y] 133));have hbx:=Bx.new w3 X Y 133;have e0:=hbx.c0;have e1:=hbx.c1;clear hor3 hB3 hbx;generalize hW:w3.alloc (.cells #[.string X,.string Y] 133)=w4 at *;have hone:=litP w4 X Y 133;have hH:=Has.own hone;have hor5:=hor4.alloc (.cells #[.string X,.string Y] 133);have hB5:=hide (hB4.out.alloc hB4.out.size (.cells #[.string X,.string Y] 133));have hs5:=hB5.out.size;have h1c:∀u∈[Value.string X,Value.string Y],u.oneCell'=true:=by simp[Value.oneCell']
     clear hone hor4 hB4;go_wp2_with (at_builtin;go_must (refine appE _ 130 133 _ 2 32 Tryz.underlying130 infoA rfl (by omega) (by omega) rfl (.tmp 31) (.tmp 33) rfl w1.heap.size _ i _ rfl hor5 _ _ 1 1 [.string X,.string Y] rfl hH h1c (by omega) hs5 ?_));intro v' w6 hor6 hb6 hg6;have hB6:=hide (hB5.out.trans hb6);rw[<-hv2.out] at hor6;clear hor5 hB5 hs5 hH hb6 hg6 h1c e0 e1 hW;go_wp2
     go_roundg k
     case measure=>omega
     case rel=>exact⟨i+1,L++[a],by omega,by go_num,hM2,hor6,hB6⟩
theorem zI9 (n:List UInt8):(typ n).1.length<=20:=by
 by_cases h:(typ n).2=0
 ·rw [zNr h];simp
 ·obtain ⟨e,he,hq⟩:=zK1 h;have hl:∀e∈tab,e.1.length<=20:=by decide
  rw[hq];exact hl e he
theorem zKz {p:List UInt8} {a:P2} (h:rdPairS p=some a):a.1.length<=20/\a.2.length<=p.length:=by
 have ht:=zRk (t_of_s h);refine⟨?_,zGj ht⟩;unfold rqPairT at ht;cases he:eqCut p with
 | none=>rw[he] at ht;cases ht
 | some q=>
  rw[he] at ht;simp only[Option.bind_some] at ht;cases hr:rqFrom true q.2 with
  | none=>rw[hr] at ht;cases ht
  | some v=>
   rw[hr] at ht;obtain rfl:=Option.some.inj ht;exact zI9 _
structure InsAt (a:P2) (l:List P2) (K:Nat):Prop where
 le:K<=l.length
 eq:insP a l=l.take K++a::l.drop K
 less:∀j b,j<K->l[j]?=some b->b.1<a.1
 stop:∀b,l[K]?=some b->¬b.1<a.1
theorem zSs (a:P2):∀l:List P2,∃K,InsAt a l K
 | []=>⟨0,by simp,by simp[insP],fun j b h=>by omega,fun b h=>by simp at h⟩
 | x::r=>by
  by_cases h:x.1<a.1
  ·obtain ⟨K,h1,h2,h3,h4⟩:=zSs a r;refine⟨K+1,by simp;omega,?_,?_,?_⟩
   ·unfold insP at h2 ⊢;rw[List.takeWhile_cons_of_pos (by simpa using h),List.dropWhile_cons_of_pos (by simpa using h),List.cons_append,h2];simp
   ·intro j b hj hb;cases j with
    | zero=>
     simp only[List.getElem?_cons_zero,Option.some.injEq] at hb;rw[<-hb];exact h
    | succ j=>exact h3 j b (by omega) (by simpa using hb)
   ·intro b hb;exact h4 b (by simpa using hb)
  ·refine ⟨0,by simp,?_,fun j b hj=>by omega,?_⟩
   ·unfold insP;rw[List.takeWhile_cons_of_neg (by simpa using h),List.dropWhile_cons_of_neg (by simpa using h)];simp
   ·intro b hb;simp only[List.getElem?_cons_zero,Option.some.injEq] at hb;rw[<-hb];exact h
theorem zSb (L:List P2) (a:P2):sortP (L++[a])=insP a (sortP L):=by simp[sortP]
theorem zNa (L:List P2):(sortP L).length=L.length:=by
 have h1:∀(a:P2) (l:List P2),(insP a l).length=l.length+1:=by intro a l;obtain⟨K,h⟩:=zSs a l;have:=h.le;rw[h.eq,List.length_append,List.length_cons,List.length_take,List.length_drop];omega
 have key:∀(r o:List P2),(r.foldl (fun o a=>insP a o) o).length=o.length+r.length:=by
  intro r
  induction r with
  | nil=>intro o;rfl
  | cons a r ih=>intro o;rw[List.foldl_cons,ih,h1,List.length_cons];omega
 have:=key L [];simpa[sortP] using this
theorem zMh (g o k:Nat):(⟨g,o,none⟩:Addr).add k=⟨g,o+k,none⟩:=by unfold Addr.add;split<;>simp_all
theorem appEv {ops:Array Oper} {rest:List Oper} {o:Oper} {a:Act} {Q:Exit->Act->World->Prop} (W:World) (hgd:o.guard=none) (s x:Operand)
  (ho:o.op=.call { callee:=.builtin .append,args:=#[s,x],argTypes:=#[116,116] })
  (base:Nat) (v:Value) (n:Nat) (xs:List Value) (hs:a.eval s=v) (hown:W.ownsRow base 149 2 v n xs)
  (B:Nat) (A:Option Addr) (m c:Nat) (l:List Value) (hx:a.eval x=.slice A m c) (hr:Has W B 2 A m l) (h1:∀u∈l,u.oneCell'=true) (N:Nat) (ys:List Value) (hN:Hid (n+m=N)) (hys:Hid (xs++l=ys))
  (hb:n+m<=10000000) (hbase:base<=W.heap.size)
  (h:∀v' w',w'.ownsRow base 149 2 v' N ys->Below base W w'->wpList Tryz.prog ops Q rest (a.put o.dst v') w'):
  wpList Tryz.prog ops Q (o::rest) a W:=by
 refine appE W 116 149 _ 2 32 Tryz.underlying116 infoB rfl (by omega) (by omega) hgd s x ho base v n xs hs hown B A m c l hx hr h1 hb hbase ?_;intro v' w' h1 h2 _;rw[hN.out,hys.out] at h1;exact h v' w' h1 h2
theorem zO0 (s:ByteArray) (hs:s.size<=1000000) (w:World) (hT:TM w):
  Calls Tryz.prog 92 #[.string s] w (PartPostL (parseP s.data.toList) 2 w):=by
 have hSp:=zHj s hs 43 (by decide) w;have hL:=Lib.size_eq s;generalize hl:s.data.toList=l at *;obtain⟨ps,hps⟩:∃ps,cuts 43 l=ps:=⟨_,rfl⟩;rw[hps] at hSp;have hsm:∀p∈ps,p.length<=1000000:=fun p hp=>by rw[<-hps] at hp;have:=zC3 hp;omega
 have hps1:1<=ps.length:=by rw[<-hps];simp[cuts]
 obtain⟨R,hR⟩:∃R,parseP l=R:=⟨_,rfl⟩;rw[hR];replace hR:=hide hR;replace hps:=hide hps;clear hL hl;by_cases h3:3<ps.length
 ·have hRn:Hid (R=none):=hide (by rw[<-hR.out];exact zH2 (by rw[hps.out];exact h3));have z3:((3:Int)<(ps.length:Int)):=by omega
  clear hR hps hsm;go_enter Tryz.func92,Tryz.ntmps92;go_wp2_with (go_at_call 139;fail);refine hSp.mono ?_;rintro e w1 ⟨v,rfl,hown,hb1⟩;obtain⟨Ap,cp,rfl,_,_⟩:=zAh hown;clear hown hSp;generalize ps.length=np at *;go_wp2;go_ret2;exact hRn.out ▸ zBu 2 w w1 hb1
 ·have z3:¬((3:Int)<(ps.length:Int)):=by omega
  have Hsm:=hide hsm;obtain⟨np,hnp⟩:∃np,ps.length=np:=⟨_,rfl⟩;rw[hnp] at hSp z3 h3 hps1;have Hnp:=hide hnp;have H3:=hide h3;clear hsm hnp;go_enter Tryz.func92,Tryz.ntmps92;go_wp2_with (go_at_call 139;fail);refine hSp.mono ?_;rintro e w1 ⟨v,rfl,hown,hb1⟩;obtain⟨Ap,cp,rfl,_,hHp⟩:=zAh hown;obtain⟨g,o,rfl,hg,hcell⟩:=hHp.texts (fun h=>by have:=Hnp.out;rw[h] at this;simp at this;omega);have HC:=hide hcell;have HW:=hide hb1;clear hown hSp hHp hcell hb1 h3;go_wp2
  go_loopg [4,18] np (fun k s4 s18 wx=>∃(i:Nat) (L:List P2) (A:Option Addr) (c:Nat),i+k=np/\s18=.int .i64 (i:Int)/\s4=.slice A i c/\i<=c/\Hid ((ps.take i).mapM rdPairS=some L/\(∀a∈L,a.1.length<=1000000/\a.2.length<=1000000)/\L.length=i)/\Hid (Has wx wx.heap.size 2 A i (prs (sortP L)))/\Hid (Below w1.heap.size w1 wx)/\Hid (∀ad,A=some ad->w.heap.size<=ad.block))
  case atStart=>exact⟨0,[],none,0,by omega,rfl,rfl,by omega,hide ⟨rfl,fun a h=>(by cases h),rfl⟩,hide Has.nil,hide (Below.refl _ _),hide fun _ h=>(by cases h)⟩
  case round=>
   obtain⟨i,L,A,c,hig,rfl,rfl,hic,hM,hHas,hB1,hLo⟩:=hrel;have hbr:=HW.out.trans (hB1.out.mono HW.out.size);cases gk with
   | zero=>
    obtain rfl:i=np:=by omega
    have hiz:¬((i:Int)<(i:Int)):=(by omega);have hfull:(cuts 43 l).mapM rdPairS=some L:=(by have h1:=hM.out.1;rw[List.take_of_length_le (by rw[Hnp.out];exact Nat.le_refl _)] at h1;rw[hps.out];exact h1);have h3:=H3.out;have hF:=zCz wr A i c (sortP L) hHas.out (by omega) (fun a ha=>hM.out.2.1 a (mem_sort.1 ha)) (hT.tt.below hbr);by_cases hp:PartOk (sortP L)
    ·rw [zBb hp] at hF;have hRs:Hid (R=some (sortP L)):=hide (by rw[<-hR.out];exact zH7 (by rw[hps.out,Hnp.out];omega) hfull hp);have Hgl:Hid (i=(sortP L).length):=hide (by rw[zNa];exact hM.out.2.2.symm);generalize sortP L=G at *;clear hp hfull hR hps hM Hnp Hsm HC HW H3 h3;go_wp2_with (go_at_call 141;fail);refine hF.mono ?_;rintro e w5 ⟨rfl,hb5⟩;have HH:=hide ((hHas.out.below hb5).upto hb5.size);have hbr5:=hbr.trans (hb5.mono hbr.size);clear hF hb5 hHas hbr hB1;go_wp2;go_ret2;exact hRs.out ▸ ⟨_,_,_,rfl,Hgl.out,HH.out,hbr5,hLo.out⟩
    ·rw [zAn hp] at hF;have hRs:Hid (R=none):=hide (by rw[<-hR.out];exact zJn (by rw[hps.out,Hnp.out];omega) hfull hp);generalize sortP L=G at *;clear hp hfull hR hps hM Hnp Hsm HC HW H3 h3;go_wp2_with (go_at_call 141;fail);refine hF.mono ?_;rintro e w5 ⟨rfl,hb5⟩;have hbr5:=hbr.trans (hb5.mono hbr.size);clear hF hb5 hHas hbr hB1;go_wp2;go_ret2;exact hRs.out ▸ zBu 2 w w5 hbr5
   | succ k=>
    have hi:i<np:=(by omega);have hiz:(i:Int)<(np:Int):=(by omega);obtain⟨p,hp⟩:∃p,ps[i]?=some p:=⟨_,List.getElem?_eq_getElem (by rw[Hnp.out];exact hi)⟩;have c0:=(hB1.out.cell (p:=⟨g,o+i,none⟩) hg).trans (HC.out i p hp);have hP:=fun w hT=>zRw (txt p) (by rw[zAg];exact Hsm.out p (List.mem_of_getElem? hp)) w hT
    simp only[zAf] at hP;have Hp:=hide hp;have hps7:=Hsm.out p (List.mem_of_getElem? hp);have Hps7:=hide hps7;clear hp hps7 HC;generalize txt p=U at *;cases hq:rdPairS p with
    | none=>
     have h3:=H3.out;have hRn:Hid (R=none):=hide (by rw[<-hR.out];exact zIt (by rw[hps.out,Hnp.out];omega) (by rw[hps.out];exact List.mem_of_getElem? Hp.out) hq);rw[hq] at hP;clear hq hR hps hM Hp Hps7 Hsm Hnp h3 H3 hHas;go_wp2_with (go_at_call 140;fail);refine (hP _ (hT.below hbr)).mono ?_;rintro e w3 hpost;obtain⟨X,Y,rfl,_,hb3⟩:=hpost.out;have hbr3:=hbr.trans (hb3.mono hbr.size);have hbr4:=hbr3.alloc hbr3.size (.cells #[.string X,.string Y] 149);clear hb3 hbr hP c0 hB1 hpost;go_wp2;go_ret2;exact hRn.out ▸ zBu 2 w _ hbr4
    | some a=>
     have hM2:Hid ((ps.take (i+1)).mapM rdPairS=some (L++[a])/\(∀b∈L++[a],b.1.length<=1000000/\b.2.length<=1000000)/\(L++[a]).length=i+1):=hide ⟨zCt Hp.out hM.out.1 hq,fun b hb=>by
      rcases List.mem_append.1 hb with hb | hb
      ·exact hM.out.2.1 b hb
      ·obtain rfl:=List.mem_singleton.1 hb
       have:=zKz hq
       have:=Hps7.out
       omega,by rw[List.length_append,hM.out.2.2];rfl⟩
     have hsl:Hid ((sortP L).length=i):=hide (by rw[zNa];exact hM.out.2.2);obtain⟨K,hK0⟩:=zSs a (sortP L);have HK:=hide hK0;have hKi:K<=i:=by have:=hK0.le;have:=hsl.out;omega
     have hsm2:=zSb L a;have Hs2:=hide hsm2;rw[hq] at hP;clear hq hM Hp Hps7 hK0 hsm2;generalize sortP L=G at *;go_wp2_with (go_at_call 140;fail);refine (hP _ (hT.below hbr)).mono ?_;rintro e w3 hpost;obtain⟨X,Y,rfl,hXY,hb3⟩:=hpost.out;obtain⟨hX,hY⟩:=hXY a rfl;have HX:=hide hX;have HY:=hide hY;have hB3:=hTz hB1 hb3;have hHas3:=hide ((hHas.out.below hb3).upto hb3.size);clear hb3 hbr hP c0 hB1 hpost hXY hX hY hHas;have hbx:=Bx.new w3 X Y 149;have hB4:=hide (hB3.out.alloc hB3.out.size (.cells #[.string X,.string Y] 149));have hHas4:=hide ((hHas3.out.below (below1 w3 (.cells #[.string X,.string Y] 149))).upto (below1 w3 (.cells #[.string X,.string Y] 149)).size);obtain⟨w4,hw4⟩:∃w4,w3.alloc (.cells #[.string X,.string Y] 149)=w4:=⟨_,rfl⟩;obtain⟨b7,hb7⟩:∃b7,w3.heap.size=b7:=⟨_,rfl⟩;rw[hw4] at hbx hB4 hHas4;rw[hb7] at hbx;clear hB3 hHas3;go_wp2
     go_loopg [9] K (fun k2 s9 wx=>∃j:Nat,j+k2=K/\s9=.int .i64 (j:Int)/\Hid (Below w4.heap.size w4 wx))
     case atStart=>exact⟨0,by omega,rfl,hide (Below.refl _ _)⟩
     case round=>
      obtain⟨j,hjk,rfl,hBx⟩:=hrel;cases gk with
      | succ k2=>
       have hjK:j<K:=(by omega);have hji:(j:Int)<(i:Int):=(by omega);obtain⟨b,hb⟩:∃b,G[j]?=some b:=⟨_,List.getElem?_eq_getElem (by rw[hsl.out];omega)⟩;obtain⟨g2,o2,rfl,hg2,hrd⟩:=hHas4.out.reads (fun h=>by rw[h] at hb;simp at hb);have e0:=(hBx.out.cell (p:=⟨g2,o2+j*2,none⟩) hg2).trans (hrd.fst j b hb);have e1:=(hbx.below hBx.out).c0;have hbl:Op.bytesLess (txt b.1).toList X.toList=true:=by rw[HX.out,zAb,zAb];exact zEi (HK.out.less j b hjK hb)
       generalize txt b.1=T at *;clear hHas4 hrd hb hB4;go_wp2
       go_quiet (fail)
       go_wp2
       go_roundg k2
       case measure=>omega
       case rel=>exact⟨j+1,by omega,by go_num,hide (Below.drewN hBx.out _)⟩
      | zero=>
       obtain rfl:j=K:=by omega
       by_cases hKi2:j=i
       ·subst hKi2;have hji:¬((j:Int)<(j:Int)):=by omega
        go_wp2
        go_quiet (fail)
        obtain⟨w5,hw5⟩:∃w5,wr.drewN nq=w5:=⟨_,rfl⟩;have hB5:Below w4.heap.size w4 w5:=by rw[<-hw5];exact Below.drewN hBx.out _
        rw[hw5];clear hw5;have hHas5:=(hHas4.out.below hB5).upto hB5.size;have hbx5:=hbx.below hB5;have hBB5:=hTz hB4 hB5;have hs50:w.heap.size<=w5.heap.size:=Nat.le_trans HW.out.size hBB5.out.size;have hF1:=hHas5.first hKi;rw[zMp] at hF1
        have h1a:=zKs (G.take j);have HH5:=hide hHas5;clear hHas4 hB4 hB5 hbx hHas5 hBx;have hKz:(j:Int)<=(c:Int):=by omega
        have hKz2:(j:Int)<=(j:Int):=(by omega);have n1:Hid (0+j=j):=hide (Nat.zero_add j);obtain⟨ys1,hys1⟩:∃ys,([]:List Value)++prs (G.take j)=ys:=⟨_,rfl⟩;replace hys1:=hide hys1;go_wp2_with (at_builtin;go_must (refine appEv _ rfl (.tmp 47) (.tmp 50) rfl w5.heap.size _ 0 [] rfl (nil_own _ _ _ _) _ _ j _ (prs (G.take j)) rfl hF1 h1a j ys1 n1 hys1 (by omega) (Nat.le_refl _) ?_));intro v6 w6 hor6 hb6;have hbx6:=hbx5.below hb6;have d0:=hbx6.c0;have d1:=hbx6.c1;have HH6:=hide (HH5.out.below hb6);clear hbx5 hF1 h1a n1;have hone:=litP w6 X Y 149;have hH:=Has.own hone;have hor7:=hor6.alloc (.cells #[.string X,.string Y] 149);have hb7':=hb6.alloc hb6.size (.cells #[.string X,.string Y] 149);clear hone hor6;have hs7:=hb7'.size;have h1c:∀u∈[Value.string X,Value.string Y],u.oneCell'=true:=by simp[Value.oneCell']
        obtain⟨ys2,hys2⟩:∃ys,ys1++[.string X,.string Y]=ys:=⟨_,rfl⟩;replace hys2:=hide hys2;have n2:Hid (j+1=j+1):=hide rfl;go_wp2_with (at_builtin;go_must (refine appEv _ rfl (.tmp 52) (.tmp 54) rfl w5.heap.size _ j _ rfl hor7 _ _ 1 1 [.string X,.string Y] rfl hH h1c (j+1) ys2 n2 hys2 (by omega) hs7 ?_));intro v8 w8 hor8 hb8;have hb58:=hb7'.trans hb8;have HH8:=HH5.out.below hb58;have hdn:G.drop j=[]:=List.drop_eq_nil_of_le (by rw[hsl.out];exact Nat.le_refl _);have hs8:=hb58.size;clear hor7 hb7' hb8 hH h1c n2 d0 d1 hbx6 HH6 hb6 HH8 HH5;obtain⟨ys3,hys3⟩:∃ys,ys2++[]=ys:=⟨_,rfl⟩;replace hys3:=hide hys3;have n3:Hid (j+1+0=j+1):=hide rfl;have HDN:=hide hdn;clear hdn;go_wp2_with (at_builtin;go_must (refine appEv _ rfl (.tmp 56) (.tmp 59) rfl w5.heap.size _ (j+1) _ rfl hor8 w5.heap.size _ 0 _ [] rfl ⟨rfl,.inl rfl⟩ (fun u hu=>(by cases hu)) (j+1) ys3 n3 hys3 (by omega) hs8 ?_))
        all_goals
         intro v9 w9 hor9 hb9;have hb59:=hb58.trans hb9;obtain⟨A9,c9,rfl,hc9,hH9⟩:=zAh hor9;have hLo9:Hid (∀ad,A9=some ad->w.heap.size<=ad.block):=hide fun ad h=>Nat.le_trans hs50 (zS0 hor9 ad h)
         have hB9:=hTz hBB5 hb59;have hH9':Hid (Has w9 w9.heap.size 2 A9 (j+1) (prs (sortP (L++[a])))):=hide (by
          rw[Hs2.out,HK.out.eq,zEo,HDN.out]
          have e1:prs [a]=[.string X,.string Y]++[]:=(by rw[HX.out,HY.out];rfl);rw[e1,<-List.append_assoc]
          have h1:=hys1.out
          rw[List.nil_append] at h1
          rw[h1,hys2.out,hys3.out]
          exact hH9)
         clear hor8 hor9 hb9 hb58 hb59 n3 hH9 hs8 hBB5;go_wp2
         go_roundg k
         case measure=>omega
         case rel=>exact⟨j+1,L++[a],A9,c9,by omega,by go_num,rfl,hc9,hM2,hH9',hB9,hLo9⟩
       ·have hji:(j:Int)<(i:Int):=by omega
        obtain⟨b,hb⟩:∃b,G[j]?=some b:=⟨_,List.getElem?_eq_getElem (by rw[hsl.out];omega)⟩;obtain⟨g2,o2,rfl,hg2,hrd⟩:=hHas4.out.reads (fun h=>by rw[h] at hb;simp at hb);have e0:=(hBx.out.cell (p:=⟨g2,o2+j*2,none⟩) hg2).trans (hrd.fst j b hb);have e1:=(hbx.below hBx.out).c0;have hbl:Op.bytesLess (txt b.1).toList X.toList=false:=by rw[HX.out,zAb,zAb];exact zG6 (HK.out.stop b hb)
        generalize txt b.1=T at *;have HRD:=hide hrd;clear hrd hb;go_wp2
        go_quiet (fail)
        obtain⟨w5,hw5⟩:∃w5,wr.drewN nq=w5:=⟨_,rfl⟩;have hB5:Below w4.heap.size w4 w5:=by rw[<-hw5];exact Below.drewN hBx.out _
        rw[hw5];clear hw5;have hHas5:=(hHas4.out.below hB5).upto hB5.size;have hbx5:=hbx.below hB5;have hBB5:=hTz hB4 hB5;have hs50:w.heap.size<=w5.heap.size:=Nat.le_trans HW.out.size hBB5.out.size;have hF1:=hHas5.first hKi;rw[zMp] at hF1
        have h1a:=zKs (G.take j);have HH5:=hide hHas5;clear hHas4 hB4 hB5 hbx hHas5 hBx;have hKz:(j:Int)<=(c:Int):=by omega
        have hKz2:(j:Int)<=(i:Int):=(by omega);have n1:Hid (0+j=j):=hide (Nat.zero_add j);obtain⟨ys1,hys1⟩:∃ys,([]:List Value)++prs (G.take j)=ys:=⟨_,rfl⟩;replace hys1:=hide hys1;go_wp2_with (at_builtin;go_must (refine appEv _ rfl (.tmp 47) (.tmp 50) rfl w5.heap.size _ 0 [] rfl (nil_own _ _ _ _) _ _ j _ (prs (G.take j)) rfl hF1 h1a j ys1 n1 hys1 (by omega) (Nat.le_refl _) ?_));intro v6 w6 hor6 hb6;have hbx6:=hbx5.below hb6;have d0:=hbx6.c0;have d1:=hbx6.c1;have HH6:=hide (HH5.out.below hb6);clear hbx5 hF1 h1a n1;have hone:=litP w6 X Y 149;have hH:=Has.own hone;have hor7:=hor6.alloc (.cells #[.string X,.string Y] 149);have hb7':=hb6.alloc hb6.size (.cells #[.string X,.string Y] 149);clear hone hor6;have hs7:=hb7'.size;have h1c:∀u∈[Value.string X,Value.string Y],u.oneCell'=true:=by simp[Value.oneCell']
        obtain⟨ys2,hys2⟩:∃ys,ys1++[.string X,.string Y]=ys:=⟨_,rfl⟩;replace hys2:=hide hys2;have n2:Hid (j+1=j+1):=hide rfl;go_wp2_with (at_builtin;go_must (refine appEv _ rfl (.tmp 52) (.tmp 54) rfl w5.heap.size _ j _ rfl hor7 _ _ 1 1 [.string X,.string Y] rfl hH h1c (j+1) ys2 n2 hys2 (by omega) hs7 ?_));intro v8 w8 hor8 hb8;have hb58:=hb7'.trans hb8;have HH8:=HH5.out.below hb58;have hfr:=HH8.from_ hKi hic;rw[prs_drop] at hfr;have had:=zMh g2 o2 (j*2);rw[if_neg (by omega),Option.map_some,had] at hfr;have h1d:=zKs (G.drop j);have hs8:=hb58.size;clear hor7 hb7' hb8 hH h1c n2 d0 d1 hbx6 HH6 hb6 HH8 HH5;obtain⟨ys3,hys3⟩:∃ys,ys2++prs (G.drop j)=ys:=⟨_,rfl⟩;replace hys3:=hide hys3;have n3:Hid (j+1+(i-j)=i+1):=hide (by omega);go_wp2_with (at_builtin;go_must (refine appEv _ rfl (.tmp 56) (.tmp 59) rfl w5.heap.size _ (j+1) _ rfl hor8 _ _ (i-j) _ (prs (G.drop j)) rfl hfr h1d (i+1) ys3 n3 hys3 (by omega) hs8 ?_));intro v9 w9 hor9 hb9;have hb59:=hb58.trans hb9;obtain⟨A9,c9,rfl,hc9,hH9⟩:=zAh hor9;have hLo9:Hid (∀ad,A9=some ad->w.heap.size<=ad.block):=hide fun ad h=>Nat.le_trans hs50 (zS0 hor9 ad h)
        have hB9:=hTz hBB5 hb59;have hH9':Hid (Has w9 w9.heap.size 2 A9 (i+1) (prs (sortP (L++[a])))):=hide (by
         rw[Hs2.out,HK.out.eq,zEo]
         have e1:prs (a::G.drop j)=[.string X,.string Y]++prs (G.drop j):=(by rw[HX.out,HY.out];rfl);rw[e1,<-List.append_assoc]
         have h1:=hys1.out
         rw[List.nil_append] at h1
         rw[h1,hys2.out,hys3.out]
         exact hH9)
        clear hor8 hor9 hb9 hb58 hb59 hfr h1d n3 hH9 hs8 hBB5;go_wp2
        go_roundg k
        case measure=>omega
        case rel=>exact⟨i+1,L++[a],A9,c9,by omega,by go_num,rfl,hc9,hM2,hH9',hB9,hLo9⟩
theorem zD8 (n v:List UInt8) (h1:(typ n).2=1) (hv:1<=v.length/\v.length<=200) (h0:(0:UInt8) ∉ v) (hn:nt v≠[]):norm n v=(nt v,0):=by
 have hf:Formed 1 v:=⟨fun _=>⟨h0,hn⟩,fun e=>(by omega),fun e=>(by omega)⟩;unfold norm;rw[h1,if_neg (by omega),if_neg (by omega),if_neg,if_pos rfl];rintro (h | h | h)
 ·omega
 ·omega
 ·exact h hf
end Go.Proofs.YtdkekamkmlpnhaaGreatDoor
