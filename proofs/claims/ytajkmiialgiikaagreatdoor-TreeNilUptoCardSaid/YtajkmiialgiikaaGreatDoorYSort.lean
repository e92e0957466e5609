/- The reference's Sorted: entries in the order of names. By an AI agent. -/
import Derived.Test.YtajkmiialgiikaaGreatDoorYRowG
import Derived.Test.YtajkmiialgiikaaGreatDoorEX
import Derived.BigQuiet
set_option linter.unusedSimpArgs false
set_option linter.unusedVariables false
set_option maxRecDepth 100000
set_option maxHeartbeats 64000000
namespace Go.Proofs.YtajkmiialgiikaaGreatDoor
open Go.RowKit
noncomputable def posN:List EN->List UInt8->Nat
 | [],_=>0
 | e::L,nm=>if compV e.1 nm<0 then posN L nm+1 else 0
noncomputable def insN (out:List EN) (x:EN):List EN:=
 if (out[posN out x.1]?).map (·.1)=some x.1 then out else out.take (posN out x.1)++x::out.drop (posN out x.1)
noncomputable def sortN (L:List EN):List EN:=L.foldl insN []
theorem zKw:∀(L:List EN) (nm:List UInt8),posN L nm<=L.length
 | [],_=>by simp[posN]
 | e::L,nm=>by
  have:=zKw L nm;unfold posN;split<;>simp only[List.length_cons]<;>omega
theorem zQc {L:List EN} {i:Nat} {e:EN} (h:L[i]?=some e) (nm:List UInt8):posN (L.drop i) nm=if compV e.1 nm<0 then posN (L.drop (i+1)) nm+1 else 0:=by
 obtain⟨h1,h2⟩:=List.getElem?_eq_some_iff.1 h;rw[List.drop_eq_getElem_cons h1,h2];rfl
theorem zM5 (L:List EN) (x:EN):sortN (L++[x])=insN (sortN L) x:=by unfold sortN;rw[List.foldl_append];rfl
theorem insN_mem {out:List EN} {x e:EN} (h:e∈insN out x):e∈out\/e=x:=by
 unfold insN at h;split at h
 ·exact Or.inl h
 ·rcases List.mem_append.1 h with h | h
  ·exact Or.inl (List.mem_of_mem_take h)
  ·rcases List.mem_cons.1 h with h | h
   ·exact Or.inr h
   ·exact Or.inl (List.mem_of_mem_drop h)
theorem zP8 {out:List EN} {x e:EN} (h:e∈out):e∈insN out x:=by
 unfold insN;split
 ·exact h
 ·rw [<-List.take_append_drop (posN out x.1) out] at h;rcases List.mem_append.1 h with h | h
  ·exact List.mem_append.2 (Or.inl h)
  ·exact List.mem_append.2 (Or.inr (List.mem_cons.2 (Or.inr h)))
theorem zOi (out:List EN) (x:EN):∃f∈insN out x,f.1=x.1:=by
 unfold insN;split
 ·rename_i h;obtain⟨f,hf,h1⟩:=Option.map_eq_some_iff.1 h;exact⟨f,List.mem_of_getElem? hf,h1⟩
 ·exact ⟨x,by simp,rfl⟩
theorem insN_len (out:List EN) (x:EN):(insN out x).length<=out.length+1:=by
 unfold insN;split
 ·omega
 ·rw [List.length_append,List.length_cons,List.length_take,List.length_drop];have:=zKw out x.1;omega
theorem zIf:∀(L acc:List EN),(∀e∈L.foldl insN acc,e∈acc\/e∈L)/\(∀e∈acc,e∈L.foldl insN acc)/\(∀e∈L,∃f∈L.foldl insN acc,f.1=e.1)/\(L.foldl insN acc).length<=acc.length+L.length
 | [],acc=>⟨fun e h=>Or.inl h,fun e h=>h,fun e h=>(by cases h),by simp⟩
 | x::L,acc=>by
  obtain⟨h1,h2,h3,h4⟩:=zIf L (insN acc x);simp only[List.foldl_cons];refine⟨fun e h=>?_,fun e h=>h2 e (zP8 h),fun e h=>?_,?_⟩
  ·rcases h1 e h with h | h
   ·rcases insN_mem h with h | h
    ·exact Or.inl h
    ·exact Or.inr (by simp[h])
   ·exact Or.inr (by simp[h])
  ·rcases List.mem_cons.1 h with rfl | h
   ·obtain ⟨f,hf,e1⟩:=zOi acc e;exact⟨f,h2 f hf,e1⟩
   ·exact h3 e h
  ·have:=insN_len acc x;simp only[List.length_cons];omega
theorem zPy {L:List EN} {e:EN} (h:e∈sortN L):e∈L:=((zIf L []).1 e h).elim (fun h=>by cases h) id
structure EntsSome (X:List EN) (w:World) (e:Ending) (w':World):Prop where
 out:∃A c ys,e=.returned (.slice A X.length c)/\X.length<=c/\c<=maxLen/\Has w' w'.heap.size 2 A X.length ys/\ENs w' w'.heap.size ys X/\Below w.heap.size w w'
section
variable {w:World} {B:Nat} {xs ys:List Value} {L M:List EN}
theorem ENs.one (h:ENs w B xs L):∀u∈xs,u.oneCell'=true:=by
 intro u hu;obtain⟨j,hj,rfl⟩:=List.mem_iff_getElem.1 hu;have hlen:=h.len;have hi:j/2<L.length:=by omega
 obtain⟨A,c,zs,h1,h2,_⟩:=h.each (j/2) _ (List.getElem?_eq_getElem hi);have hjj:=List.getElem?_eq_getElem hj;rcases Nat.mod_two_eq_zero_or_one j with hm | hm
 ·rw [show j/2*2=j by omega,hjj] at h1;rw[Option.some.inj h1];rfl
 ·rw [show j/2*2+1=j by omega,hjj] at h2;rw[Option.some.inj h2];rfl
theorem ENs.take (h:ENs w B xs L) (k:Nat):ENs w B (xs.take (k*2)) (L.take k):=by
 refine⟨by rw[List.length_take,List.length_take,h.len];omega,fun i e he=>?_⟩;rw[List.getElem?_take] at he;split at he
 ·rename_i hik;obtain⟨A,c,zs,h1,h2,h3⟩:=h.each i e he;exact⟨A,c,zs,by rw[List.getElem?_take,if_pos (by omega)];exact h1,by rw[List.getElem?_take,if_pos (by omega)];exact h2,h3⟩
 ·cases he
theorem ENs.drop (h:ENs w B xs L) (k:Nat):ENs w B (xs.drop (k*2)) (L.drop k):=by
 refine⟨by rw[List.length_drop,List.length_drop,h.len];omega,fun i e he=>?_⟩;rw[List.getElem?_drop] at he;obtain⟨A,c,zs,h1,h2,h3⟩:=h.each (k+i) e he;exact⟨A,c,zs,by rw[List.getElem?_drop,show k*2+i*2=(k+i)*2 by omega];exact h1,by rw[List.getElem?_drop,show k*2+(i*2+1)=(k+i)*2+1 by omega];exact h2,h3⟩
theorem ENs.append (h:ENs w B xs L) (k:ENs w B ys M):ENs w B (xs++ys) (L++M):=by
 refine⟨by rw[List.length_append,List.length_append,h.len,k.len];omega,fun i e he=>?_⟩;by_cases hi:i<L.length
 ·rw [List.getElem?_append_left hi] at he;obtain⟨A,c,zs,h1,h2,h3⟩:=h.each i e he;have hl:=h.len;exact⟨A,c,zs,by rw[List.getElem?_append_left (by omega)];exact h1,by rw[List.getElem?_append_left (by omega)];exact h2,h3⟩
 ·rw [List.getElem?_append_right (by omega)] at he;obtain⟨A,c,zs,h1,h2,h3⟩:=k.each _ e he;have hl:=h.len;exact⟨A,c,zs,by rw[List.getElem?_append_right (by omega),show i*2-xs.length=(i-L.length)*2 by omega];exact h1,by rw[List.getElem?_append_right (by omega),show i*2+1-xs.length=(i-L.length)*2+1 by omega];exact h2,h3⟩
end
theorem zDv (L:List EN) (w:World) (A:Option Addr) (n c:Nat) (xs:List Value) (hA:Has w w.heap.size 2 A n xs) (hL:ENs w w.heap.size xs L) (hn:n<=100000) (hnm:∀e∈L,e.1.length<=1000000) (hT:TM w):
  Calls Tryz.prog 37 #[.slice A n c] w (EntsSome (sortN L) w):=by
 have hnl:=hA.ens_n hL;have hCm:∀e∈L,∀f∈L,∀w,TM w->Calls Tryz.prog 72 #[.string (txt e.1),.string (txt f.1)] w fun e' w'=>e'=.returned (.int .i64 (compV e.1 f.1))/\Below w.heap.size w w':=fun e he f hf w hT=>zG2 e.1 f.1 (hnm e he) (hnm f hf) w hT
 suffices H:Calls Tryz.prog 37 #[.slice A n c] w fun e w'=>Hid (EntsSome (sortN L) w e w') from H.mono fun e w' h=>h.out
 have HA:=hide hA;have HL:=hide hL;have HT:=hide hT;have HN:=hide hnl;have HCms:=hide hCm;clear hA hL hT hnl hCm hnm;go_enter Tryz.func37,Tryz.ntmps37;go_wp2
 go_loopg [3,9] n (fun k s3 s9 wx=>∃(i:Nat) (Ao:Option Addr) (co ko:Nat) (zs:List Value),i+k=n/\s9=.int .i64 (i:Int)/\s3=.slice Ao ko co/\ko<=i/\Hid (Has wx wx.heap.size 2 Ao ko zs/\ENs wx wx.heap.size zs (sortN (L.take i))/\(sortN (L.take i)).length=ko/\ko<=co/\co<=maxLen)/\Hid (Below w.heap.size w wx))
 case atStart=>exact⟨0,none,0,0,[],by omega,rfl,rfl,by omega,hide ⟨Has.nil,⟨rfl,fun i e he=>by simp[sortN] at he⟩,rfl,by omega,by omega⟩,hide (Below.refl _ _)⟩
 case round=>
  obtain⟨i,Ao,co,ko,zs,hig,rfl,rfl,hko,HO,hbr⟩:=hrel;cases gk with
  | zero=>
   obtain rfl:i=n:=by omega
   have hiz:¬((i:Int)<(i:Int)):=by omega
   have ho:=HO.out;rw[List.take_of_length_le (by rw[<-HN.out];exact Nat.le_refl _)] at ho;have Ho:Hid (EntsSome (sortN L) w (.returned (.slice Ao ko co)) wr):=hide (by
    obtain⟨h1,h2,h3,h4,h5⟩:=ho
    subst h3
    exact⟨⟨Ao,co,zs,rfl,h4,h5,h1,h2,hbr.out⟩⟩)
   clear HA HL HT HN HCms HO ho hbr;go_wp2;go_ret;exact Ho
  | succ r=>
   have hi:i<n:=by omega
   have hiz:(i:Int)<(n:Int):=by omega
   obtain⟨x,hx⟩:∃x,L[i]?=some x:=⟨_,List.getElem?_eq_getElem (by rw[<-HN.out];exact hi)⟩;have hxm:=List.mem_of_getElem? hx;obtain⟨g,o,hAe,hg,hat⟩:=HA.out.en HL.out (fun h=>by rw[h] at hx;simp at hx);subst hAe;obtain⟨U,cu,us,hat⟩:=hat i x hx;obtain⟨wo,rfl⟩:∃wo,wo=wr:=⟨wr,rfl⟩;have Hat:=hide hat;have Hso:Hid (∀e∈sortN (L.take i),e∈L):=hide fun e he=>List.mem_of_mem_take (zPy he)
   have Hnx:Hid (sortN (L.take (i+1))=insN (sortN (L.take i)) x):=hide (by rw[List.take_add_one,hx];exact zM5 _ x);have HCx:=hide (fun f hf=>HCms.out f hf x hxm);obtain⟨TX,hTX⟩:∃TX,txt x.1=TX:=⟨_,rfl⟩;obtain⟨kx,hkx⟩:∃kx,x.2.length=kx:=⟨_,rfl⟩;have Hk:=hide (And.intro hTX hkx);have Hcx:Hid (wo.cell? ⟨g,o+i*2,none⟩=some (.string TX)/\wo.cell? ⟨g,o+i*2+1,none⟩=some (.slice U kx cu)):=hide (by
    rw[<-hTX,<-hkx]
    exact⟨(hbr.out.cell (p:=⟨g,o+i*2,none⟩) hg).trans hat.e0,(hbr.out.cell (p:=⟨g,o+i*2+1,none⟩) hg).trans hat.e1⟩)
   have hgo:g<wo.heap.size:=Nat.lt_of_lt_of_le hg hbr.out.size;rw[hTX] at HCx;generalize sortN (L.take i)=O at *;obtain⟨P,hP⟩:∃P,posN O x.1=P:=⟨_,rfl⟩;have HP:=hide hP;have hko9:ko<=100000:=by omega
   clear hat hx hxm hTX hkx hP;go_wp2
   go_loopg [5] ko (fun k s5 wx=>∃q:Nat,q+k=ko/\s5=.int .i64 (q:Int)/\Hid (posN (O.drop q) x.1+q=P)/\Hid (Below wo.heap.size wo wx))
   case atStart=>exact⟨0,by omega,rfl,hide (by rw[List.drop_zero];exact HP.out),hide (Below.refl _ _)⟩
   case round=>
    obtain⟨q,hqg,rfl,hpq,hbq⟩:=hrel;cases gk with
    | zero=>
     obtain rfl:q=ko:=by omega
     have hqz:¬((q:Int)<(q:Int)):=by omega
     have hqz2:decide ((q:Int)<(q:Int))=false:=decide_eq_false hqz;have HPe:Hid (P=q):=hide (by
      have h1:=hpq.out
      have h2:=zKw (O.drop q) x.1
      rw[List.length_drop,HO.out.2.2.1] at h2
      omega)
     have Hne:Hid ((O[P]?).map (·.1)≠some x.1):=hide (by
      rw[HPe.out,List.getElem?_eq_none (by rw[HO.out.2.2.1];exact Nat.le_refl _)]
      simp)
     have HB6:=hide hbq.out.drew;clear hpq HCx Hso HCms;go_wp2_with fail;refine zA0 (by kernel_rfl) ?_;generalize wr.drew=wd at *;refine yTk 0 (some 12) ?_;(try simp only[pUz]);refine yTk 1 (some 13) ?_;(try simp only[pUz]);refine yTk 2 (some 14) ?_;(try simp only[pUz]);refine zAa 3 (some 15) (v:=.bool false) rfl rfl (by kernel_rfl) rfl (by rfl) (fun W hW=>by go_simp<;>with_reducible rfl) ?_;(try simp only[pUz]);refine yTk 4 (some 16) ?_;(try simp only[pUz]);refine zAr 5 (some 17) rfl rfl (by kernel_rfl) rfl (by rfl) ?_;(try simp only[pUz]);refine zAr 6 (some 18) rfl rfl (by kernel_rfl) rfl (by rfl) ?_;(try simp only[pUz]);refine zAr 7 (some 19) rfl rfl (by kernel_rfl) rfl (by rfl) ?_;(try simp only[pUz]);refine zAr 8 (some 20) rfl rfl (by kernel_rfl) rfl (by rfl) ?_;(try simp only[pUz]);refine zAr 9 (some 21) rfl rfl (by kernel_rfl) rfl (by rfl) ?_;(try simp only[pUz]);refine zAr 10 (some 22) rfl rfl (by kernel_rfl) rfl (by rfl) ?_;(try simp only[pUz]);refine zAr 11 (some 23) rfl rfl (by kernel_rfl) rfl (by rfl) ?_;(try simp only[pUz]);refine zAr 12 (some 24) rfl rfl (by kernel_rfl) rfl (by rfl) ?_;(try simp only[pUz]);refine zAr 13 (some 25) rfl rfl (by kernel_rfl) rfl (by rfl) ?_;(try simp only[pUz]);refine zAr 14 (some 26) rfl rfl (by kernel_rfl) rfl (by rfl) ?_;(try simp only[pUz]);refine zAr 15 (some 27) rfl rfl (by kernel_rfl) rfl (by rfl) ?_;(try simp only[pUz]);refine zAr 16 (some 28) rfl rfl (by kernel_rfl) rfl (by rfl) ?_;(try simp only[pUz]);refine yTk 17 (some 29) ?_;(try simp only[pUz]);refine zAj (by kernel_rfl) ?_ _;have hq0:(0:Int)<=(q:Int):=by omega
     go_wp2
     go_quiet (fail)
     have hqk:q<=q:=Nat.le_refl _;have hone:=HO.out.2.1.one;have hone1:∀u∈zs.take (q*2),u.oneCell'=true:=fun u hu=>hone u (List.mem_of_mem_take hu)
     have hone2:∀u∈zs.drop (q*2),u.oneCell'=true:=fun u hu=>hone u (List.mem_of_mem_drop hu)
     have hH1:=HO.out.1.first hqk
     have hcap:=HO.out.2.2.2.1;have hcm:=HO.out.2.2.2.2;unfold maxLen at hcm;have hqc:q<=co:=by omega
     have hqci:(q:Int)<=(co:Int):=(by omega);have Hone2:=hide hone2;clear hone hone2;go_wp2_with (at_builtin;go_must (refine appN _ 22 38 _ 2 40 Tryz.underlying22 infoEN rfl (by omega) (by omega) rfl (.tmp 49) (.tmp 52) rfl wo.heap.size _ 0 [] rfl (World.ownsRow_nil _ _ _ _) _ _ q co _ rfl (hH1.below (Below.drewN HB6.out _)) hone1 (by omega) (Below.drewN HB6.out _).size ?_));intro v1 w1 hown1 hb1 hg1 ht1;have hB1:=(Below.drewN HB6.out _).trans hb1;have c2:=(hB1.cell (p:=⟨g,o+i*2,none⟩) hgo).trans Hcx.out.1;have c3:=(hB1.cell (p:=⟨g,o+i*2+1,none⟩) hgo).trans Hcx.out.2;have hba:=below1 w1 (.cells #[.string TX,.slice U kx cu] 38);have hlit:=litY w1 (.string TX) (.slice U kx cu) 38 rfl rfl;have h1c:∀u∈[Value.string TX,Value.slice U kx cu],u.oneCell'=true:=by simp[Value.oneCell']
     have hown1a:=zAe hown1 hba;have hB1a:=hB1.trans (hba.mono hB1.size);have hs1a:=hB1a.size;have HB1a:=hide hB1a;clear hown1 hb1 hg1 ht1 hB1 hba hone1 hH1 hB1a;go_wp2_with (at_builtin;go_must (refine appN _ 22 38 _ 2 40 Tryz.underlying22 infoEN rfl (by omega) (by omega) rfl (.tmp 54) (.tmp 59) rfl wo.heap.size _ _ _ rfl hown1a _ _ 1 1 [.string TX,.slice U kx cu] rfl (Has.own hlit) h1c (by omega) hs1a ?_));intro v2 w2 hown2 hb2 hg2 ht2;have hB2:=HB1a.out.trans hb2;have hs2:=hB2.size;have hH2:=(HO.out.1.below hB2).from_ (k:=q) (cap:=co) hqk hcap;have HB2:=hide hB2;have hone2:=Hone2.out;clear hb2 hg2 ht2 hB2 hlit h1c hown1a hs1a HB1a c2 c3 Hone2;cases Ao with
     | none=>
      go_wp2_with (at_builtin;go_must (refine appN _ 22 38 _ 2 40 Tryz.underlying22 infoEN rfl (by omega) (by omega) rfl (.tmp 61) (.tmp 64) rfl wo.heap.size _ _ _ rfl hown2 wo.heap.size _ 0 _ [] rfl ⟨by simp,.inl rfl⟩ (fun u hu=>by cases hu) (by omega) hs2 ?_));intro v3 w3 hown3 hb3 hg3 ht3;have hdz:zs.drop (q*2)=[]:=List.drop_eq_nil_of_le (by have:=HO.out.2.1.len;have:=HO.out.2.2.1;omega);rw[<-hdz] at hown3;have hB3:=HB2.out.trans hb3;have hw3:=hbr.out.trans (hB3.mono hbr.out.size);obtain⟨A3,c3,rfl,hc3,hH3⟩:=zAh hown3;have hm3:=zBl hown3;have hE3:=(((HO.out.2.1.below hB3).take q).snoc Hat.out.cap Hat.out.most ((Hat.out.has.below hw3).upto hbr.out.size) ((Hat.out.attrs.below hw3).upto hbr.out.size)).append ((HO.out.2.1.below hB3).drop q);have hins:insN O x=(O.take q++[x])++O.drop q:=by
       unfold insN;rw[HP.out,if_neg Hne.out,HPe.out,List.append_assoc];rfl
      rw[Hk.out.1,Hk.out.2,<-hins,List.append_assoc] at hE3;have hH3:Has w3 w3.heap.size 2 A3 (q+1) (zs.take (q*2)++([.string TX,.slice U kx cu]++zs.drop (q*2))):=by simpa using hH3
      have hlen3:=hH3.ens_n (hE3.upto hB3.size);have HO3:=hide (And.intro hH3 (And.intro (hE3.upto hB3.size) (And.intro hlen3.symm (And.intro hc3 hm3))));have Hw3:=hide hw3;rw[<-Hnx.out] at HO3;clear hown3 hb3 hg3 ht3 hB3 hw3 hc3 hH3 hm3 hE3 hins hlen3 hown2 hs2 hH2 hone2 HB2 hcm HO;go_wp2
      go_roundg r
      case measure=>omega
      case rel=>exact⟨i+1,A3,c3,_,_,by omega,by go_num,rfl,by omega,HO3,Hw3⟩
     | some ad=>
      by_cases hcq:co=q
      ·go_wp2_with (at_builtin;go_must (refine appN _ 22 38 _ 2 40 Tryz.underlying22 infoEN rfl (by omega) (by omega) rfl (.tmp 61) (.tmp 64) rfl wo.heap.size _ _ _ rfl hown2 wo.heap.size _ 0 _ [] rfl ⟨by simp,.inl rfl⟩ (fun u hu=>by cases hu) (by omega) hs2 ?_));intro v3 w3 hown3 hb3 hg3 ht3;have hdz:zs.drop (q*2)=[]:=List.drop_eq_nil_of_le (by have:=HO.out.2.1.len;have:=HO.out.2.2.1;omega);rw[<-hdz] at hown3;have hB3:=HB2.out.trans hb3;have hw3:=hbr.out.trans (hB3.mono hbr.out.size);obtain⟨A3,c3,rfl,hc3,hH3⟩:=zAh hown3;have hm3:=zBl hown3;have hE3:=(((HO.out.2.1.below hB3).take q).snoc Hat.out.cap Hat.out.most ((Hat.out.has.below hw3).upto hbr.out.size) ((Hat.out.attrs.below hw3).upto hbr.out.size)).append ((HO.out.2.1.below hB3).drop q);have hins:insN O x=(O.take q++[x])++O.drop q:=by
        unfold insN;rw[HP.out,if_neg Hne.out,HPe.out,List.append_assoc];rfl
       rw[Hk.out.1,Hk.out.2,<-hins,List.append_assoc] at hE3;have hH3:Has w3 w3.heap.size 2 A3 (q+1) (zs.take (q*2)++([.string TX,.slice U kx cu]++zs.drop (q*2))):=by simpa using hH3
       have hlen3:=hH3.ens_n (hE3.upto hB3.size);have HO3:=hide (And.intro hH3 (And.intro (hE3.upto hB3.size) (And.intro hlen3.symm (And.intro hc3 hm3))));have Hw3:=hide hw3;rw[<-Hnx.out] at HO3;clear hown3 hb3 hg3 ht3 hB3 hw3 hc3 hH3 hm3 hE3 hins hlen3 hown2 hs2 hH2 hone2 HB2 hcm HO;go_wp2
       go_roundg r
       case measure=>omega
       case rel=>exact⟨i+1,A3,c3,_,_,by omega,by go_num,rfl,by omega,HO3,Hw3⟩
      ·go_wp2_with (at_builtin;go_must (refine appN _ 22 38 _ 2 40 Tryz.underlying22 infoEN rfl (by omega) (by omega) rfl (.tmp 61) (.tmp 64) rfl wo.heap.size _ _ _ rfl hown2 wo.heap.size _ 0 _ [] rfl ⟨by simp,.inl rfl⟩ (fun u hu=>by cases hu) (by omega) hs2 ?_));intro v3 w3 hown3 hb3 hg3 ht3;have hdz:zs.drop (q*2)=[]:=List.drop_eq_nil_of_le (by have:=HO.out.2.1.len;have:=HO.out.2.2.1;omega);rw[<-hdz] at hown3;have hB3:=HB2.out.trans hb3;have hw3:=hbr.out.trans (hB3.mono hbr.out.size);obtain⟨A3,c3,rfl,hc3,hH3⟩:=zAh hown3;have hm3:=zBl hown3;have hE3:=(((HO.out.2.1.below hB3).take q).snoc Hat.out.cap Hat.out.most ((Hat.out.has.below hw3).upto hbr.out.size) ((Hat.out.attrs.below hw3).upto hbr.out.size)).append ((HO.out.2.1.below hB3).drop q);have hins:insN O x=(O.take q++[x])++O.drop q:=by
        unfold insN;rw[HP.out,if_neg Hne.out,HPe.out,List.append_assoc];rfl
       rw[Hk.out.1,Hk.out.2,<-hins,List.append_assoc] at hE3;have hH3:Has w3 w3.heap.size 2 A3 (q+1) (zs.take (q*2)++([.string TX,.slice U kx cu]++zs.drop (q*2))):=by simpa using hH3
       have hlen3:=hH3.ens_n (hE3.upto hB3.size);have HO3:=hide (And.intro hH3 (And.intro (hE3.upto hB3.size) (And.intro hlen3.symm (And.intro hc3 hm3))));have Hw3:=hide hw3;rw[<-Hnx.out] at HO3;clear hown3 hb3 hg3 ht3 hB3 hw3 hc3 hH3 hm3 hE3 hins hlen3 hown2 hs2 hH2 hone2 HB2 hcm HO;go_wp2
       go_roundg r
       case measure=>omega
       case rel=>exact⟨i+1,A3,c3,_,_,by omega,by go_num,rfl,by omega,HO3,Hw3⟩
    | succ k2=>
     have hq:q<ko:=(by omega);have hqz:(q:Int)<(ko:Int):=(by omega);obtain⟨f,hf⟩:∃f,O[q]?=some f:=⟨_,List.getElem?_eq_getElem (by rw[HO.out.2.2.1];exact hq)⟩;have hfm:=List.mem_of_getElem? hf;have HCm:=hide (HCx.out f (Hso.out f hfm));obtain⟨go,oo,hOe,hgg,hatf⟩:=HO.out.1.en HO.out.2.1 (fun h=>by rw[h] at hf;simp at hf);subst hOe;obtain⟨Uf,cf,usf,hatf⟩:=hatf q f hf;have hpd:=zQc hf x.1;have HBd:Hid (Below wo.heap.size wo wr.drew):=hide hbq.out.drew;obtain⟨TF,hTF⟩:∃TF,txt f.1=TF:=⟨_,rfl⟩;have X0:Hid (∀W,Below wr.drew.heap.size wr.drew W->W.cell? ⟨go,oo+q*2,none⟩=some (.string TF)/\W.cell? ⟨g,o+i*2,none⟩=some (.string TX)):=hide fun W hW=>by
      have h2:=HBd.out.trans (hW.mono HBd.out.size);rw[<-hTF];exact⟨(h2.cell (p:=⟨go,oo+q*2,none⟩) hgg).trans hatf.e0,(h2.cell (p:=⟨g,o+i*2,none⟩) hgo).trans Hcx.out.1⟩
     have HTF:=hide hTF;have hff:Hid (wo.cell? ⟨go,oo+q*2,none⟩=some (.string TF)):=hide (by rw[<-hTF];exact hatf.e0);rw[hTF] at HCm;have hTo:TM wo:=HT.out.below hbr.out;have HTo:=hide hTo;obtain⟨y,hy⟩:∃y,compV f.1 x.1=y:=⟨_,rfl⟩;rw[hy] at HCm;have Hf:=hide hf;have Hgg:=hide hgg;by_cases hlt:y<0
     ·have zd:decide (y<0)=true:=decide_eq_true hlt;have hpq2:Hid (posN (O.drop (q+1)) x.1+(q+1)=P):=hide (by
       have:=hpq.out
       rw[hpd,if_pos (by rw[hy];exact hlt)] at this
       omega)
      clear hTF hTo hfm hatf hpd hpq hf hgg HTF hff hy HCx Hso HCms;go_wp2_with fail;refine zA0 (by kernel_rfl) ?_;generalize wr.drew=wd at *;refine yTk 0 (some 12) ?_;(try simp only[pUz]);refine yTk 1 (some 13) ?_;(try simp only[pUz]);refine yTk 2 (some 14) ?_;(try simp only[pUz]);refine yTk 3 (some 15) ?_;(try simp only[pUz]);refine yTk 4 (some 16) ?_;(try simp only[pUz]);refine yTk 5 (some 17) ?_;(try simp only[pUz]);refine yTk 6 (some 18) ?_;(try simp only[pUz]);refine yTk 7 (some 19) ?_;(try simp only[pUz]);refine yTk 8 (some 20) ?_;(try simp only[pUz]);refine zAa 9 (some 21) (v:=?vb9) rfl rfl (by kernel_rfl) rfl (by rfl) (fun W hW=>?yb9) ?_
      case yb9=>have k0:=(X0.out W hW).1;go_simp<;>with_reducible rfl
      (try simp only[pUz]);refine yTk 10 (some 22) ?_;(try simp only[pUz]);refine yTk 11 (some 23) ?_;(try simp only[pUz]);refine yTk 12 (some 24) ?_;(try simp only[pUz]);refine yTk 13 (some 25) ?_;(try simp only[pUz]);refine zAa 14 (some 26) (v:=?vb14) rfl rfl (by kernel_rfl) rfl (by rfl) (fun W hW=>?yb14) ?_
      case yb14=>have k0:=(X0.out W hW).2;go_simp<;>with_reducible rfl
      (try simp only[pUz]);refine zAd 15 rfl (by kernel_rfl) (fun K hK=>?_);go_simp;refine (HCm.out _ (HTo.out.below HBd.out)).mono ?_;rintro e w6 ⟨rfl,hb6⟩;refine hK.out _ _ hb6 ?_;have HB6:=hTz HBd hb6;clear hK K hb6 HBd HCm;(try simp only[pUz]);refine zAa 16 (some 28) (v:=.bool true) rfl rfl (by kernel_rfl) rfl (by rfl) (fun W hW=>by go_simp<;>with_reducible rfl) ?_;(try simp only[pUz]);refine yTk 17 (some 29) ?_;(try simp only[pUz]);refine zAj (by kernel_rfl) ?_ _;go_wp2
      go_roundg k2
      case measure=>omega
      case rel=>exact⟨q+1,by omega,by go_num,hpq2,HB6⟩
     ·have zd:decide (y<0)=false:=decide_eq_false hlt;have HPe:Hid (P=q):=hide (by
       have:=hpq.out
       rw[hpd,if_neg (by rw[hy];exact hlt)] at this
       omega)
      clear hTF hTo hfm hatf hpd hpq hf hgg hy HCx Hso HCms;go_wp2_with fail;refine zA0 (by kernel_rfl) ?_;generalize wr.drew=wd at *;refine yTk 0 (some 12) ?_;(try simp only[pUz]);refine yTk 1 (some 13) ?_;(try simp only[pUz]);refine yTk 2 (some 14) ?_;(try simp only[pUz]);refine yTk 3 (some 15) ?_;(try simp only[pUz]);refine yTk 4 (some 16) ?_;(try simp only[pUz]);refine yTk 5 (some 17) ?_;(try simp only[pUz]);refine yTk 6 (some 18) ?_;(try simp only[pUz]);refine yTk 7 (some 19) ?_;(try simp only[pUz]);refine yTk 8 (some 20) ?_;(try simp only[pUz]);refine zAa 9 (some 21) (v:=?vc9) rfl rfl (by kernel_rfl) rfl (by rfl) (fun W hW=>?yc9) ?_
      case yc9=>have k0:=(X0.out W hW).1;go_simp<;>with_reducible rfl
      (try simp only[pUz]);refine yTk 10 (some 22) ?_;(try simp only[pUz]);refine yTk 11 (some 23) ?_;(try simp only[pUz]);refine yTk 12 (some 24) ?_;(try simp only[pUz]);refine yTk 13 (some 25) ?_;(try simp only[pUz]);refine zAa 14 (some 26) (v:=?vc14) rfl rfl (by kernel_rfl) rfl (by rfl) (fun W hW=>?yc14) ?_
      case yc14=>have k0:=(X0.out W hW).2;go_simp<;>with_reducible rfl
      (try simp only[pUz]);refine zAd 15 rfl (by kernel_rfl) (fun K hK=>?_);go_simp;refine (HCm.out _ (HTo.out.below HBd.out)).mono ?_;rintro e w6 ⟨rfl,hb6⟩;refine hK.out _ _ hb6 ?_;have HB6:=hTz HBd hb6;clear hK K hb6 HBd HCm;(try simp only[pUz]);refine zAa 16 (some 28) (v:=.bool false) rfl rfl (by kernel_rfl) rfl (by rfl) (fun W hW=>by go_simp<;>with_reducible rfl) ?_;(try simp only[pUz]);refine yTk 17 (some 29) ?_;(try simp only[pUz]);refine zAj (by kernel_rfl) ?_ _;have c0:=(HB6.out.cell (p:=⟨go,oo+q*2,none⟩) Hgg.out).trans hff.out;have c1:=(HB6.out.cell (p:=⟨g,o+i*2,none⟩) hgo).trans Hcx.out.1;have Hmap:Hid ((O[P]?).map (·.1)=some f.1):=hide (by rw[HPe.out,Hf.out];rfl);clear hff;by_cases hfx:f.1=x.1
      ·have q1:(TF.toList==TX.toList)=true:=by rw[<-HTF.out,<-Hk.out.1,hfx];simp
       have HO2:Hid (insN O x=O):=hide (by unfold insN;rw[HP.out,if_pos (by rw[Hmap.out,hfx])]);clear HTF Hf hfx Hmap;go_wp2
       go_quiet (fail)
       go_wp2
       go_roundg r
       case measure=>omega
       case rel=>have hb:=Below.drewN HB6.out nq;have HO3:=hide (And.intro ((HO.out.1.below hb).upto hb.size) (And.intro (HO.out.2.1.grow hb) HO.out.2.2));have hsx:sortN (L.take (i+1))=O:=Hnx.out.trans HO2.out;rw[<-hsx] at HO3;exact⟨i+1,_,co,ko,zs,by omega,by go_num,rfl,by omega,HO3,hide (hbr.out.trans (hb.mono hbr.out.size))⟩
      ·have q1:(TF.toList==TX.toList)=false:=by rw[<-HTF.out,<-Hk.out.1];exact zC5 hfx
       have Hne:Hid ((O[P]?).map (·.1)≠some x.1):=hide (by rw[Hmap.out];intro h;exact hfx (Option.some.inj h));clear HTF Hf hfx Hmap;go_wp2
       go_quiet (fail)
       have hqk:q<=ko:=(by omega);have hcq:¬(co=q):=(by have:=HO.out.2.2.2.1;omega);have hone:=HO.out.2.1.one;have hone1:∀u∈zs.take (q*2),u.oneCell'=true:=fun u hu=>hone u (List.mem_of_mem_take hu)
       have hone2:∀u∈zs.drop (q*2),u.oneCell'=true:=fun u hu=>hone u (List.mem_of_mem_drop hu)
       have hH1:=HO.out.1.first hqk
       have hcap:=HO.out.2.2.2.1;have hcm:=HO.out.2.2.2.2;unfold maxLen at hcm;have hqc:q<=co:=by omega
       have hqci:(q:Int)<=(co:Int):=(by omega);have Hone2:=hide hone2;clear hone hone2;go_wp2_with (at_builtin;go_must (refine appN _ 22 38 _ 2 40 Tryz.underlying22 infoEN rfl (by omega) (by omega) rfl (.tmp 49) (.tmp 52) rfl wo.heap.size _ 0 [] rfl (World.ownsRow_nil _ _ _ _) _ _ q co _ rfl (hH1.below (Below.drewN HB6.out _)) hone1 (by omega) (Below.drewN HB6.out _).size ?_));intro v1 w1 hown1 hb1 hg1 ht1;have hB1:=(Below.drewN HB6.out _).trans hb1;have c2:=(hB1.cell (p:=⟨g,o+i*2,none⟩) hgo).trans Hcx.out.1;have c3:=(hB1.cell (p:=⟨g,o+i*2+1,none⟩) hgo).trans Hcx.out.2;have hba:=below1 w1 (.cells #[.string TX,.slice U kx cu] 38);have hlit:=litY w1 (.string TX) (.slice U kx cu) 38 rfl rfl;have h1c:∀u∈[Value.string TX,Value.slice U kx cu],u.oneCell'=true:=by simp[Value.oneCell']
       have hown1a:=zAe hown1 hba;have hB1a:=hB1.trans (hba.mono hB1.size);have hs1a:=hB1a.size;have HB1a:=hide hB1a;clear hown1 hb1 hg1 ht1 hB1 hba hone1 hH1 hB1a;go_wp2_with (at_builtin;go_must (refine appN _ 22 38 _ 2 40 Tryz.underlying22 infoEN rfl (by omega) (by omega) rfl (.tmp 54) (.tmp 59) rfl wo.heap.size _ _ _ rfl hown1a _ _ 1 1 [.string TX,.slice U kx cu] rfl (Has.own hlit) h1c (by omega) hs1a ?_));intro v2 w2 hown2 hb2 hg2 ht2;have hB2:=HB1a.out.trans hb2;have hs2:=hB2.size;have hH2:=(HO.out.1.below hB2).from_ (k:=q) (cap:=co) hqk hcap;have HB2:=hide hB2;have hone2:=Hone2.out;clear hb2 hg2 ht2 hB2 hlit h1c hown1a hs1a HB1a c2 c3 Hone2;rw[if_neg hcq] at hH2;have hH2b:Has w2 wo.heap.size 2 (some ⟨go,oo+q*2,none⟩) (ko-q) (zs.drop (q*2)):=by simpa[Addr.add_lit] using hH2
       go_wp2_with (at_builtin;go_must (refine appN _ 22 38 _ 2 40 Tryz.underlying22 infoEN rfl (by omega) (by omega) rfl (.tmp 61) (.tmp 64) rfl wo.heap.size _ _ _ rfl hown2 wo.heap.size _ (ko-q) _ (zs.drop (q*2)) rfl hH2b hone2 (by omega) hs2 ?_));intro v3 w3 hown3 hb3 hg3 ht3;clear hH2b;have hB3:=HB2.out.trans hb3;have hw3:=hbr.out.trans (hB3.mono hbr.out.size);obtain⟨A3,c3,rfl,hc3,hH3⟩:=zAh hown3;have hm3:=zBl hown3;have hE3:=(((HO.out.2.1.below hB3).take q).snoc Hat.out.cap Hat.out.most ((Hat.out.has.below hw3).upto hbr.out.size) ((Hat.out.attrs.below hw3).upto hbr.out.size)).append ((HO.out.2.1.below hB3).drop q);have hins:insN O x=(O.take q++[x])++O.drop q:=by
        unfold insN;rw[HP.out,if_neg Hne.out,HPe.out,List.append_assoc];rfl
       rw[Hk.out.1,Hk.out.2,<-hins,List.append_assoc] at hE3;have hH3:Has w3 w3.heap.size 2 A3 (q+1+(ko-q)) (zs.take (q*2)++([.string TX,.slice U kx cu]++zs.drop (q*2))):=by simpa using hH3
       have hlen3:=hH3.ens_n (hE3.upto hB3.size);have HO3:=hide (And.intro hH3 (And.intro (hE3.upto hB3.size) (And.intro hlen3.symm (And.intro hc3 hm3))));have Hw3:=hide hw3;rw[<-Hnx.out] at HO3;clear hown3 hb3 hg3 ht3 hB3 hw3 hc3 hH3 hm3 hE3 hins hlen3 hown2 hs2 hH2 hone2 HB2 hcm HO;go_wp2
       go_roundg r
       case measure=>omega
       case rel=>exact⟨i+1,A3,c3,_,_,by omega,by go_num,rfl,by omega,HO3,Hw3⟩
end Go.Proofs.YtajkmiialgiikaaGreatDoor
