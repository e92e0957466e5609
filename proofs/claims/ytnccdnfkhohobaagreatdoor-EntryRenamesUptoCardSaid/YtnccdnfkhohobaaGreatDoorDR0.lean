/- Several texts in one: DRWithout. By an AI agent. -/
import Derived.Test.YtnccdnfkhohobaaGreatDoorEX
import Derived.Laws.MakeOwn
set_option linter.unusedSimpArgs false
set_option linter.unusedVariables false
set_option maxRecDepth 100000
set_option maxHeartbeats 32000000
namespace Go.Proofs.YtnccdnfkhohobaaGreatDoor
open Go Go.RowKit
open Classical in
noncomputable def woV (t v:List UInt8):List (List UInt8)->Bool->List (List UInt8) × Bool
 | [],g=>([],g)
 | x::r,g=>if g=false/\AlikeV t x v then woV t v r true else (x::(woV t v r g).1,(woV t v r g).2)
theorem within_one {t x v:List UInt8}:WithinV t [x] v↔AlikeV t x v:=by
 unfold WithinV;simp
structure LessPost (R:List (List UInt8) × Bool) (w:World) (e:Ending) (w':World):Prop where
 out:∃v,e=.returned (.tuple #[v,.bool R.2])/\w'.ownsRow w.heap.size 9 1 v R.1.length (strs R.1)/\Below w.heap.size w w'
theorem zJ1 (t v:List UInt8) (L:List (List UInt8)) (w:World) (A:Option Addr) (n c:Nat) (hA:Has w w.heap.size 1 A n (strs L)) (hn:n<=1000000) (hnc:n<=c) (hcm:c<=maxLen) (ht:t.length<=1000000) (hv:v.length<=1000000) (hL:∀u∈L,u.length<=1000000) (hT:TM w):
  Calls Tryz.prog 24 #[.string (txt t),.slice A n c,.string (txt v)] w (LessPost (woV t v L false) w):=by
 suffices H:Calls Tryz.prog 24 #[.string (txt t),.slice A n c,.string (txt v)] w (fun e w'=>∃k val,e=.returned (.tuple #[val,.bool (woV t v L false).2])/\Hid (k=(woV t v L false).1.length)/\w'.ownsRow w.heap.size 9 1 val k (strs (woV t v L false).1)/\Below w.heap.size w w') from
  H.mono fun e w' ⟨k,val,h1,h2,h3,h4⟩=>⟨val,h1,by rw[<-h2.out];exact h3,h4⟩
 have hnl:=hA.strs_n;unfold maxLen at hcm;obtain⟨RR,hRR⟩:∃R,woV t v L false=R:=⟨_,rfl⟩;rw[hRR];obtain⟨R1,R2⟩:=RR;have HR:=hide hRR;have HA:=hide hA;have HN:=hide hnl;have HLn:=hide hL;have HT:=hide hT;have Htv:=hide (And.intro ht hv);clear hRR hA hnl hL hT ht hv;obtain⟨TN,hTN⟩:∃S,txt t=S:=⟨_,rfl⟩;obtain⟨VN,hVN⟩:∃S,txt v=S:=⟨_,rfl⟩;have HTN:=hide (And.intro hTN hVN);rw[hTN,hVN];clear hTN hVN;go_enter Tryz.func24,Tryz.ntmps24;go_wp2
 go_loopg [8,9,13] n (fun r s8 s9 s13 wx=>∃(i:Nat) (gone:Bool) (acc:List (List UInt8)),i+r=n/\s13=.int .i64 (i:Int)/\s9=.bool gone/\Hid (acc++(woV t v (L.drop i) gone).1=R1/\(woV t v (L.drop i) gone).2=R2/\acc.length<=i)/\wx.ownsRow w.heap.size 9 1 s8 acc.length (strs acc)/\Below w.heap.size w wx)
 case atStart=>exact⟨0,false,[],by omega,rfl,rfl,hide ⟨by rw[List.drop_zero,HR.out];rfl,by rw[List.drop_zero,HR.out],by simp⟩,nil_own _ _ _ _,Below.refl _ _⟩
 case round=>
  obtain⟨i,gone,acc,hig,rfl,rfl,hacc,hor,hbr⟩:=hrel;clear HR;cases gk with
  | zero=>
   obtain rfl:i=n:=by omega
   have hiz:¬((i:Int)<(i:Int)):=by omega
   have he:=hacc.out;rw[List.drop_eq_nil_of_le (by rw[<-HN.out];exact Nat.le_refl _)] at he;unfold woV at he;simp only[List.append_nil] at he;obtain⟨rfl,rfl,_⟩:=he;have Hor:=hide hor;have Hbr:=hide hbr;obtain⟨k,hk⟩:∃k,acc.length=k:=⟨_,rfl⟩;rw[hk] at Hor;have Hk:=hide hk;clear hor hbr hacc hk HA;go_wp2;go_ret2;exact⟨k,_,rfl,hide Hk.out.symm,Hor.out,Hbr.out⟩
  | succ r=>
   have hi:i<n:=by omega
   have hiz:(i:Int)<(n:Int):=by omega
   obtain⟨x,hx⟩:∃x,L[i]?=some x:=⟨_,List.getElem?_eq_getElem (by rw[<-HN.out];exact hi)⟩;have hxm:=List.mem_of_getElem? hx;obtain⟨g,o,hAe,hg,hat⟩:=HA.out.texts (fun h=>by rw[h] at hx;simp at hx);have HAe:=hide hAe;subst hAe;have y0:=(hbr.cell (p:=⟨g,o+i,none⟩) hg).trans (hat i x hx);have hdrop:L.drop i=x::L.drop (i+1):=by obtain⟨h1,h2⟩:=List.getElem?_eq_some_iff.1 hx;rw[List.drop_eq_getElem_cons h1,h2]
   have he:=hacc.out;rw[hdrop] at he;unfold woV at he;have hx1:Has wr wr.heap.size 1 (some ⟨g,o+i,none⟩) 1 (strs [x]):=⟨rfl,.inr ⟨_,rfl,Nat.lt_of_lt_of_le hg hbr.size,fun j u hu=>by
    cases j with
    | zero=>
     simp only[strs,List.map_cons,List.getElem?_cons_zero,Option.some.injEq] at hu
     rw[<-hu]
     exact y0
    | succ j=>simp[strs] at hu⟩⟩
   have HW:=hide (fun cc=>zCi t v [x] wr (some ⟨g,o+i,none⟩) 1 cc hx1 (by omega) Htv.out.1 Htv.out.2 (fun u hu=>by simp only[List.mem_singleton] at hu;rw[hu];exact HLn.out x hxm) (HT.out.below hbr));obtain⟨XN,hXN⟩:∃S,txt x=S:=⟨_,rfl⟩;have HXN:=hide hXN;rw[hXN] at y0;rw[HTN.out.1,HTN.out.2] at HW;have hai:acc.length+1<=10000000:=by have:=hacc.out.2.2;omega
   have hal:=hacc.out.2.2;have hstep:strs (acc++[x])=strs acc++[.string XN]:=by rw[zBc,<-hXN];rfl
   have Hstep:=hide hstep;have Hal:=hide hal;have Hor:=hide hor;have Hbr:=hide hbr;have hic:(i:Int)+1<=(c:Int):=by omega
   have hic':i+1<=c:=by omega
   have hi0:(0:Int)<=(i:Int):=by omega
   clear hstep hal hXN hx1 hdrop hx hat hacc hor hxm;cases gone with
   | true=>
    rw[if_neg (by simp)] at he;have He:=hide he;have hone:=litS wr XN;have hH:=Has.own hone;have hor4:=Hor.out.alloc (.cells #[.string XN] 9);have hbr4:=hbr.alloc hbr.size (.cells #[.string XN] 9);have hs4:=hbr4.size;have h1c:∀u∈[Value.string XN],u.oneCell'=true:=by simp[Value.oneCell']
    clear he hone HW hbr;go_wp2_with (at_builtin;go_must (refine appE _ 33 9 _ 1 16 Tryz.underlying33 infoS rfl (by omega) (by omega) rfl (.tmp 28) (.tmp 33) rfl w.heap.size _ acc.length _ rfl hor4 _ _ 1 1 [.string XN] rfl hH h1c hai hs4 ?_));intro v' w5 hor5 hb5 _;have hbr5:=hbr4.trans hb5;rw[<-Hstep.out] at hor5;clear hor4 hbr4 hs4 hH hb5 h1c;go_wp2
    go_roundg r
    case measure=>omega
    case rel=>exact⟨i+1,true,acc++[x],by omega,by go_num,rfl,hide ⟨by rw[List.append_assoc];exact He.out.1,He.out.2.1,by rw[List.length_append];have:=Hal.out;simp only[List.length_cons,List.length_nil];omega⟩,by rw[List.length_append];exact hor5,hbr5⟩
   | false=>
    by_cases hal:AlikeV t x v
    ·rw [if_pos ⟨rfl,hal⟩] at he;have He:=hide he;rw[zAm (within_one.2 hal)] at HW;clear he hal;go_wp2_with (go_at_call 50;fail);refine (HW.out _).mono ?_;rintro e w2 ⟨rfl,hb2⟩;have HO2:=hide (zAe Hor.out hb2);have HB2:=hide (hbr.trans (hb2.mono hbr.size));clear hb2 HW hbr y0 Hor Hbr;go_wp2
     go_roundg r
     case measure=>omega
     case rel=>exact⟨i+1,true,acc,by omega,by go_num,rfl,hide ⟨He.out.1,He.out.2.1,by have:=Hal.out;omega⟩,HO2.out,HB2.out⟩
    ·rw [if_neg (fun q=>hal q.2)] at he;have He:=hide he;rw[zAq (fun q=>hal (within_one.1 q))] at HW;clear he hal;go_wp2_with (go_at_call 50;fail);refine (HW.out _).mono ?_;rintro e w2 ⟨rfl,hb2⟩;have hor2:=zAe Hor.out hb2;have hbr2:=hbr.trans (hb2.mono hbr.size);have y2:=(hb2.cell (p:=⟨g,o+i,none⟩) (Nat.lt_of_lt_of_le hg hbr.size)).trans y0;have hone:=litS w2 XN;have hH:=Has.own hone;have hor4:=hor2.alloc (.cells #[.string XN] 9);have hbr4:=hbr2.alloc hbr2.size (.cells #[.string XN] 9);have hs4:=hbr4.size;have h1c:∀u∈[Value.string XN],u.oneCell'=true:=by simp[Value.oneCell']
     clear hone HW hbr hb2 y0 Hor Hbr hor2 hbr2;go_wp2_with (at_builtin;go_must (refine appE _ 33 9 _ 1 16 Tryz.underlying33 infoS rfl (by omega) (by omega) rfl (.tmp 28) (.tmp 33) rfl w.heap.size _ acc.length _ rfl hor4 _ _ 1 1 [.string XN] rfl hH h1c hai hs4 ?_));intro v' w5 hor5 hb5 _;have hbr5:=hbr4.trans hb5;rw[<-Hstep.out] at hor5;clear hor4 hbr4 hs4 hH hb5 h1c;go_wp2
     go_roundg r
     case measure=>omega
     case rel=>exact⟨i+1,false,acc++[x],by omega,by go_num,rfl,hide ⟨by rw[List.append_assoc];exact He.out.1,He.out.2.1,by rw[List.length_append];have:=Hal.out;simp only[List.length_cons,List.length_nil];omega⟩,by rw[List.length_append];exact hor5,hbr5⟩
end Go.Proofs.YtnccdnfkhohobaaGreatDoor
