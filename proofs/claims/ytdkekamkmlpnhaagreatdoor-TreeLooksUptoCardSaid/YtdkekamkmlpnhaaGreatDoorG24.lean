/- The reference's Sorted: entries in the order of names. By an AI agent. -/
import Derived.BigQuiet
import Derived.Test.YtdkekamkmlpnhaaGreatDoorG23
import Derived.Test.YtdkekamkmlpnhaaGreatDoorEX
import Derived.Test.YtdkekamkmlpnhaaGreatDoorEY
import Derived.Test.YtdkekamkmlpnhaaGreatDoorGrow
import Derived.Test.YtdkekamkmlpnhaaGreatDoorG19
import Derived.Test.YtdkekamkmlpnhaaGreatDoorDY
import Derived.Test.YtdkekamkmlpnhaaGreatDoorG17
set_option linter.unusedSimpArgs false
set_option linter.unusedVariables false
set_option maxRecDepth 100000
set_option maxHeartbeats 64000000
namespace Go.Proofs.YtdkekamkmlpnhaaGreatDoor
open Go.RowKit
noncomputable def posN:List EN->List UInt8->Nat
 | [],_=>0
 | e::L,nm=>if compV e.1 nm<0 then posN L nm+1 else 0
noncomputable def insN (out:List EN) (x:EN):List EN:=
 if (out[posN out x.1]?).map (·.1)=some x.1 then out else out.take (posN out x.1)++x::out.drop (posN out x.1)
noncomputable def sortN (L:List EN):List EN:=L.foldl insN []
theorem zLb:∀(L:List EN) (nm:List UInt8),posN L nm<=L.length
 | [],_=>by simp[posN]
 | e::L,nm=>by
  have:=zLb L nm;unfold posN;split<;>simp only[List.length_cons]<;>omega
theorem zQd {L:List EN} {i:Nat} {e:EN} (h:L[i]?=some e) (nm:List UInt8):posN (L.drop i) nm=if compV e.1 nm<0 then posN (L.drop (i+1)) nm+1 else 0:=by
 obtain⟨h1,h2⟩:=List.getElem?_eq_some_iff.1 h;rw[List.drop_eq_getElem_cons h1,h2];rfl
theorem zOs (L:List EN) (x:EN):sortN (L++[x])=insN (sortN L) x:=by unfold sortN;rw[List.foldl_append];rfl
theorem insN_mem {out:List EN} {x e:EN} (h:e∈insN out x):e∈out\/e=x:=by
 unfold insN at h;split at h
 ·exact Or.inl h
 ·rcases List.mem_append.1 h with h | h
  ·exact Or.inl (List.mem_of_mem_take h)
  ·rcases List.mem_cons.1 h with h | h
   ·exact Or.inr h
   ·exact Or.inl (List.mem_of_mem_drop h)
theorem zQc {out:List EN} {x e:EN} (h:e∈out):e∈insN out x:=by
 unfold insN;split
 ·exact h
 ·rw [<-List.take_append_drop (posN out x.1) out] at h;rcases List.mem_append.1 h with h | h
  ·exact List.mem_append.2 (Or.inl h)
  ·exact List.mem_append.2 (Or.inr (List.mem_cons.2 (Or.inr h)))
theorem zSw (out:List EN) (x:EN):∃f∈insN out x,f.1=x.1:=by
 unfold insN;split
 ·rename_i h;obtain⟨f,hf,h1⟩:=Option.map_eq_some_iff.1 h;exact⟨f,List.mem_of_getElem? hf,h1⟩
 ·exact ⟨x,by simp,rfl⟩
theorem insN_len (out:List EN) (x:EN):(insN out x).length<=out.length+1:=by
 unfold insN;split
 ·omega
 ·rw [List.length_append,List.length_cons,List.length_take,List.length_drop];have:=zLb out x.1;omega
theorem zFu:∀(L acc:List EN),(∀e∈L.foldl insN acc,e∈acc\/e∈L)/\(∀e∈acc,e∈L.foldl insN acc)/\(∀e∈L,∃f∈L.foldl insN acc,f.1=e.1)/\(L.foldl insN acc).length<=acc.length+L.length
 | [],acc=>⟨fun e h=>Or.inl h,fun e h=>h,fun e h=>(by cases h),by simp⟩
 | x::L,acc=>by
  obtain⟨h1,h2,h3,h4⟩:=zFu L (insN acc x);simp only[List.foldl_cons];refine⟨fun e h=>?_,fun e h=>h2 e (zQc h),fun e h=>?_,?_⟩
  ·rcases h1 e h with h | h
   ·rcases insN_mem h with h | h
    ·exact Or.inl h
    ·exact Or.inr (by simp[h])
   ·exact Or.inr (by simp[h])
  ·rcases List.mem_cons.1 h with rfl | h
   ·obtain ⟨f,hf,e1⟩:=zSw acc e;exact⟨f,h2 f hf,e1⟩
   ·exact h3 e h
  ·have:=insN_len acc x;simp only[List.length_cons];omega
theorem zBm {L:List EN} {e:EN} (h:e∈sortN L):e∈L:=((zFu L []).1 e h).elim (fun h=>by cases h) id
theorem zF3 (L:List EN):(sortN L).length<=L.length:=by have:=(zFu L []).2.2.2;rw[List.length_nil,Nat.zero_add] at this;exact this
structure EntsSome (X:List EN) (w:World) (e:Ending) (w':World):Prop where
 out:∃A c ys,e=.returned (.slice A X.length c)/\X.length<=c/\c<=maxLen/\Has w' w'.heap.size 2 A X.length ys/\ENs w' w'.heap.size ys X/\Below w.heap.size w w'
section
variable {w:World} {B:Nat} {xs ys:List Value} {L M:List EN}
theorem ENs.one (h:ENs w B xs L):∀u∈xs,u.oneCell'=true:=by
 intro u hu;obtain⟨j,hj,rfl⟩:=List.mem_iff_getElem.1 hu;have hlen:=h.len;have hi:j/2<L.length:=by omega
 obtain⟨A,c,zs,h1,h2,_⟩:=h.each (j/2) _ (List.getElem?_eq_getElem hi);have hjj:=List.getElem?_eq_getElem hj;rcases Nat.mod_two_eq_zero_or_one j with hm | hm
 ·rw [show j/2*2=j by omega,hjj] at h1;rw[Option.some.inj h1];rfl
 ·rw [show j/2*2+1=j by omega,hjj] at h2;rw[Option.some.inj h2];rfl
theorem ENs.take (h:ENs w B xs L) (k:Nat):ENs w B (xs.take (k*2)) (L.take k):=by
 refine⟨by rw[List.length_take,List.length_take,h.len];omega,fun i e he=>?_⟩;rw[List.getElem?_take] at he;split at he
 ·rename_i hik;obtain⟨A,c,zs,h1,h2,h3⟩:=h.each i e he;exact⟨A,c,zs,by rw[List.getElem?_take,if_pos (by omega)];exact h1,by rw[List.getElem?_take,if_pos (by omega)];exact h2,h3⟩
 ·cases he
theorem ENs.drop (h:ENs w B xs L) (k:Nat):ENs w B (xs.drop (k*2)) (L.drop k):=by
 refine⟨by rw[List.length_drop,List.length_drop,h.len];omega,fun i e he=>?_⟩;rw[List.getElem?_drop] at he;obtain⟨A,c,zs,h1,h2,h3⟩:=h.each (k+i) e he;exact⟨A,c,zs,by rw[List.getElem?_drop,show k*2+i*2=(k+i)*2 by omega];exact h1,by rw[List.getElem?_drop,show k*2+(i*2+1)=(k+i)*2+1 by omega];exact h2,h3⟩
theorem ENs.append (h:ENs w B xs L) (k:ENs w B ys M):ENs w B (xs++ys) (L++M):=by
 refine⟨by rw[List.length_append,List.length_append,h.len,k.len];omega,fun i e he=>?_⟩;by_cases hi:i<L.length
 ·rw [List.getElem?_append_left hi] at he;obtain⟨A,c,zs,h1,h2,h3⟩:=h.each i e he;have hl:=h.len;exact⟨A,c,zs,by rw[List.getElem?_append_left (by omega)];exact h1,by rw[List.getElem?_append_left (by omega)];exact h2,h3⟩
 ·rw [List.getElem?_append_right (by omega)] at he;obtain⟨A,c,zs,h1,h2,h3⟩:=k.each _ e he;have hl:=h.len;exact⟨A,c,zs,by rw[List.getElem?_append_right (by omega),show i*2-xs.length=(i-L.length)*2 by omega];exact h1,by rw[List.getElem?_append_right (by omega),show i*2+1-xs.length=(i-L.length)*2+1 by omega];exact h2,h3⟩
end
theorem zO7 (L:List EN) (w:World) (A:Option Addr) (n c:Nat) (xs:List Value) (hA:Has w w.heap.size 2 A n xs) (hL:ENs w w.heap.size xs L) (hn:n<=100000) (hnm:∀e∈L,e.1.length<=1000000) (hT:TM w):
  Calls Tryz.prog 37 #[.slice A n c] w (EntsSome (sortN L) w):=by
 have hnl:=hA.ens_n hL;have hCm:∀e∈L,∀f∈L,∀w,TM w->Calls Tryz.prog 72 #[.string (txt e.1),.string (txt f.1)] w fun e' w'=>e'=.returned (.int .i64 (compV e.1 f.1))/\Below w.heap.size w w':=fun e he f hf w hT=>zIi e.1 f.1 (hnm e he) (hnm f hf) w hT
 suffices H:Calls Tryz.prog 37 #[.slice A n c] w fun e w'=>Hid (EntsSome (sortN L) w e w') from H.mono fun e w' h=>h.out
 have HA:=hide hA;have HL:=hide hL;have HT:=hide hT;have HN:=hide hnl;have HCms:=hide hCm;clear hA hL hT hnl hCm hnm;go_enter Tryz.func37,Tryz.ntmps37;go_wp2
 go_loopg [3,9] n (fun k s3 s9 wx=>∃(i:Nat) (Ao:Option Addr) (co ko:Nat) (zs:List Value),i+k=n/\s9=.int .i64 (i:Int)/\s3=.slice Ao ko co/\ko<=i/\Hid (Has wx wx.heap.size 2 Ao ko zs/\ENs wx wx.heap.size zs (sortN (L.take i))/\(sortN (L.take i)).length=ko/\ko<=co/\co<=maxLen)/\Hid (Below w.heap.size w wx))
 case atStart=>exact⟨0,none,0,0,[],by omega,rfl,rfl,by omega,hide ⟨Has.nil,⟨rfl,fun i e he=>by simp[sortN] at he⟩,rfl,by omega,by omega⟩,hide (Below.refl _ _)⟩
 case round=>
  obtain⟨i,Ao,co,ko,zs,hig,rfl,rfl,hko,HO,hbr⟩:=hrel;cases gk with
  | zero=>
   obtain rfl:i=n:=by omega
   have hiz:¬((i:Int)<(i:Int)):=by omega
   have ho:=HO.out;rw[List.take_of_length_le (by rw[<-HN.out];exact Nat.le_refl _)] at ho;have Ho:Hid (EntsSome (sortN L) w (.returned (.slice Ao ko co)) wr):=hide (by
    obtain⟨h1,h2,h3,h4,h5⟩:=ho
    subst h3
    exact⟨⟨Ao,co,zs,rfl,h4,h5,h1,h2,hbr.out⟩⟩)
   clear HA HL HT HN HCms HO ho hbr;go_wp2;go_ret;exact Ho
  | succ r=>
   have hi:i<n:=by omega
   have hiz:(i:Int)<(n:Int):=by omega
   obtain⟨x,hx⟩:∃x,L[i]?=some x:=⟨_,List.getElem?_eq_getElem (by rw[<-HN.out];exact hi)⟩;have hxm:=List.mem_of_getElem? hx;obtain⟨g,o,hAe,hg,hat⟩:=HA.out.en HL.out (fun h=>by rw[h] at hx;simp at hx);subst hAe;obtain⟨U,cu,us,hat⟩:=hat i x hx;obtain⟨wo,rfl⟩:∃wo,wo=wr:=⟨wr,rfl⟩;have Hat:=hide hat;have Hso:Hid (∀e∈sortN (L.take i),e∈L):=hide fun e he=>List.mem_of_mem_take (zBm he)
   have Hnx:Hid (sortN (L.take (i+1))=insN (sortN (L.take i)) x):=hide (by rw[List.take_add_one,hx];exact zOs _ x);have HCx:=hide (fun f hf=>HCms.out f hf x hxm);obtain⟨TX,hTX⟩:∃TX,txt x.1=TX:=⟨_,rfl⟩;obtain⟨kx,hkx⟩:∃kx,x.2.length=kx:=⟨_,rfl⟩;have Hk:=hide (And.intro hTX hkx);have Hcx:Hid (wo.cell? ⟨g,o+i*2,none⟩=some (.string TX)/\wo.cell? ⟨g,o+i*2+1,none⟩=some (.slice U kx cu)):=hide (by
    rw[<-hTX,<-hkx]
    exact⟨(hbr.out.cell (p:=⟨g,o+i*2,none⟩) hg).trans hat.e0,(hbr.out.cell (p:=⟨g,o+i*2+1,none⟩) hg).trans hat.e1⟩)
   have hgo:g<wo.heap.size:=Nat.lt_of_lt_of_le hg hbr.out.size;rw[hTX] at HCx;generalize sortN (L.take i)=O at *;obtain⟨P,hP⟩:∃P,posN O x.1=P:=⟨_,rfl⟩;have HP:=hide hP;have hko9:ko<=100000:=by omega
   clear hat hx hxm hTX hkx hP;go_wp2
   go_loopg [5] ko (fun k s5 wx=>∃q:Nat,q+k=ko/\s5=.int .i64 (q:Int)/\Hid (posN (O.drop q) x.1+q=P)/\Hid (Below wo.heap.size wo wx))
   case atStart=>exact⟨0,by omega,rfl,hide (by rw[List.drop_zero];exact HP.out),hide (Below.refl _ _)⟩
   case round=>
    obtain⟨q,hqg,rfl,hpq,hbq⟩:=hrel;cases gk with
    | zero=>
     obtain rfl:q=ko:=by omega
     have hqz:¬((q:Int)<(q:Int)):=by omega
     have hqz2:decide ((q:Int)<(q:Int))=false:=decide_eq_false hqz;have HPe:Hid (P=q):=hide (by
      have h1:=hpq.out
      have h2:=zLb (O.drop q) x.1
      rw[List.length_drop,HO.out.2.2.1] at h2
      omega)
     have Hne:Hid ((O[P]?).map (·.1)≠some x.1):=hide (by
      rw[HPe.out,List.getElem?_eq_none (by rw[HO.out.2.2.1];exact Nat.le_refl _)]
      simp)
     have HB6:=hide hbq.out.drew;clear hpq HCx Hso HCms;go_wp2_with fail;refine zAq (by kernel_rfl) ?_;generalize wr.drew=wd at *;refine yTk 0 (some 12) ?_;(try simp only[pUz]);refine yTk 1 (some 13) ?_;(try simp only[pUz]);refine yTk 2 (some 14) ?_;(try simp only[pUz]);refine zAa 3 (some 15) (v:=.bool false) rfl rfl (by kernel_rfl) rfl (by rfl) (fun W hW=>by go_simp<;>with_reducible rfl) ?_;(try simp only[pUz]);refine yTk 4 (some 16) ?_;(try simp only[pUz]);refine zAl 5 (some 17) rfl rfl (by kernel_rfl) rfl (by rfl) ?_;(try simp only[pUz]);refine zAl 6 (some 18) rfl rfl (by kernel_rfl) rfl (by rfl) ?_;(try simp only[pUz]);refine zAl 7 (some 19) rfl rfl (by kernel_rfl) rfl (by rfl) ?_;(try simp only[pUz]);refine zAl 8 (some 20) rfl rfl (by kernel_rfl) rfl (by rfl) ?_;(try simp only[pUz]);refine zAl 9 (some 21) rfl rfl (by kernel_rfl) rfl (by rfl) ?_;(try simp only[pUz]);refine zAl 10 (some 22) rfl rfl (by kernel_rfl) rfl (by rfl) ?_;(try simp only[pUz]);refine zAl 11 (some 23) rfl rfl (by kernel_rfl) rfl (by rfl) ?_;(try simp only[pUz]);refine zAl 12 (some 24) rfl rfl (by kernel_rfl) rfl (by rfl) ?_;(try simp only[pUz]);refine zAl 13 (some 25) rfl rfl (by kernel_rfl) rfl (by rfl) ?_;(try simp only[pUz]);refine zAl 14 (some 26) rfl rfl (by kernel_rfl) rfl (by rfl) ?_;(try simp only[pUz]);refine zAl 15 (some 27) rfl rfl (by kernel_rfl) rfl (by rfl) ?_;(try simp only[pUz]);refine zAl 16 (some 28) rfl rfl (by kernel_rfl) rfl (by rfl) ?_;(try simp only[pUz]);refine yTk 17 (some 29) ?_;(try simp only[pUz]);refine zAi (by kernel_rfl) ?_ _;have hq0:(0:Int)<=(q:Int):=by omega
     go_wp2
     go_quiet (fail)
     have hqk:q<=q:=Nat.le_refl _;have hone:=HO.out.2.1.one;have hone1:∀u∈zs.take (q*2),u.oneCell'=true:=fun u hu=>hone u (List.mem_of_mem_take hu)
     have hone2:∀u∈zs.drop (q*2),u.oneCell'=true:=fun u hu=>hone u (List.mem_of_mem_drop hu)
     have hH1:=HO.out.1.first hqk
     have hcap:=HO.out.2.2.2.1;have hcm:=HO.out.2.2.2.2;unfold maxLen at hcm;have hqc:q<=co:=by omega
     have hqci:(q:Int)<=(co:Int):=(by omega);have Hone2:=hide hone2;clear hone hone2;go_wp2_with (at_builtin;go_must (refine appN _ 22 38 _ 2 40 Tryz.underlying22 infoEN rfl (by omega) (by omega) rfl (.tmp 49) (.tmp 52) rfl wo.heap.size _ 0 [] rfl (World.ownsRow_nil _ _ _ _) _ _ q co _ rfl (hH1.below (Below.drewN HB6.out _)) hone1 (by omega) (Below.drewN HB6.out _).size ?_));intro v1 w1 hown1 hb1 hg1 ht1;have hB1:=(Below.drewN HB6.out _).trans hb1;have c2:=(hB1.cell (p:=⟨g,o+i*2,none⟩) hgo).trans Hcx.out.1;have c3:=(hB1.cell (p:=⟨g,o+i*2+1,none⟩) hgo).trans Hcx.out.2;have hba:=below1 w1 (.cells #[.string TX,.slice U kx cu] 38);have hlit:=litY w1 (.string TX) (.slice U kx cu) 38 rfl rfl;have h1c:∀u∈[Value.string TX,Value.slice U kx cu],u.oneCell'=true:=by simp[Value.oneCell']
     have hown1a:=zAc hown1 hba;have hB1a:=hB1.trans (hba.mono hB1.size);have hs1a:=hB1a.size;have HB1a:=hide hB1a;clear hown1 hb1 hg1 ht1 hB1 hba hone1 hH1 hB1a;go_wp2_with (at_builtin;go_must (refine appN _ 22 38 _ 2 40 Tryz.underlying22 infoEN rfl (by omega) (by omega) rfl (.tmp 54) (.tmp 59) rfl wo.heap.size _ _ _ rfl hown1a _ _ 1 1 [.string TX,.slice U kx cu] rfl (Has.own hlit) h1c (by omega) hs1a ?_));intro v2 w2 hown2 hb2 hg2 ht2;have hB2:=HB1a.out.trans hb2;have hs2:=hB2.size;have hH2:=(HO.out.1.below hB2).from_ (k:=q) (cap:=co) hqk hcap;have HB2:=hide hB2;have hone2:=Hone2.out;clear hb2 hg2 ht2 hB2 hlit h1c hown1a hs1a HB1a c2 c3 Hone2;cases Ao with
     | none=>
      go_wp2_with (at_builtin;go_must (refine appN _ 22 38 _ 2 40 Tryz.underlying22 infoEN rfl (by omega) (by omega) rfl (.tmp 61) (.tmp 64) rfl wo.heap.size _ _ _ rfl hown2 wo.heap.size _ 0 _ [] rfl ⟨by simp,.inl rfl⟩ (fun u hu=>by cases hu) (by omega) hs2 ?_));intro v3 w3 hown3 hb3 hg3 ht3;have hdz:zs.drop (q*2)=[]:=List.drop_eq_nil_of_le (by have:=HO.out.2.1.len;have:=HO.out.2.2.1;omega);rw[<-hdz] at hown3;have hB3:=HB2.out.trans hb3;have hw3:=hbr.out.trans (hB3.mono hbr.out.size);obtain⟨A3,c3,rfl,hc3,hH3⟩:=zAh hown3;have hm3:=zAu hown3;have hE3:=(((HO.out.2.1.below hB3).take q).snoc Hat.out.cap Hat.out.most ((Hat.out.has.below hw3).upto hbr.out.size) ((Hat.out.attrs.below hw3).upto hbr.out.size)).append ((HO.out.2.1.below hB3).drop q);have hins:insN O x=(O.take q++[x])++O.drop q:=by
       unfold insN;rw[HP.out,if_neg Hne.out,HPe.out,List.append_assoc];rfl
      rw[Hk.out.1,Hk.out.2,<-hins,List.append_assoc] at hE3;have hH3:Has w3 w3.heap.size 2 A3 (q+1) (zs.take (q*2)++([.string TX,.slice U kx cu]++zs.drop (q*2))):=by simpa using hH3
      have hlen3:=hH3.ens_n (hE3.upto hB3.size);have HO3:=hide (And.intro hH3 (And.intro (hE3.upto hB3.size) (And.intro hlen3.symm (And.intro hc3 hm3))));have Hw3:=hide hw3;rw[<-Hnx.out] at HO3;clear hown3 hb3 hg3 ht3 hB3 hw3 hc3 hH3 hm3 hE3 hins hlen3 hown2 hs2 hH2 hone2 HB2 hcm HO;go_wp2
      go_roundg r
      case measure=>omega
      case rel=>exact⟨i+1,A3,c3,_,_,by omega,by go_num,rfl,by omega,HO3,Hw3⟩
     | some ad=>
      by_cases hcq:co=q
      ·go_wp2_with (at_builtin;go_must (refine appN _ 22 38 _ 2 40 Tryz.underlying22 infoEN rfl (by omega) (by omega) rfl (.tmp 61) (.tmp 64) rfl wo.heap.size _ _ _ rfl hown2 wo.heap.size _ 0 _ [] rfl ⟨by simp,.inl rfl⟩ (fun u hu=>by cases hu) (by omega) hs2 ?_));intro v3 w3 hown3 hb3 hg3 ht3;have hdz:zs.drop (q*2)=[]:=List.drop_eq_nil_of_le (by have:=HO.out.2.1.len;have:=HO.out.2.2.1;omega);rw[<-hdz] at hown3;have hB3:=HB2.out.trans hb3;have hw3:=hbr.out.trans (hB3.mono hbr.out.size);obtain⟨A3,c3,rfl,hc3,hH3⟩:=zAh hown3;have hm3:=zAu hown3;have hE3:=(((HO.out.2.1.below hB3).take q).snoc Hat.out.cap Hat.out.most ((Hat.out.has.below hw3).upto hbr.out.size) ((Hat.out.attrs.below hw3).upto hbr.out.size)).append ((HO.out.2.1.below hB3).drop q);have hins:insN O x=(O.take q++[x])++O.drop q:=by
        unfold insN;rw[HP.out,if_neg Hne.out,HPe.out,List.append_assoc];rfl
       rw[Hk.out.1,Hk.out.2,<-hins,List.append_assoc] at hE3;have hH3:Has w3 w3.heap.size 2 A3 (q+1) (zs.take (q*2)++([.string TX,.slice U kx cu]++zs.drop (q*2))):=by simpa using hH3
       have hlen3:=hH3.ens_n (hE3.upto hB3.size);have HO3:=hide (And.intro hH3 (And.intro (hE3.upto hB3.size) (And.intro hlen3.symm (And.intro hc3 hm3))));have Hw3:=hide hw3;rw[<-Hnx.out] at HO3;clear hown3 hb3 hg3 ht3 hB3 hw3 hc3 hH3 hm3 hE3 hins hlen3 hown2 hs2 hH2 hone2 HB2 hcm HO;go_wp2
       go_roundg r
       case measure=>omega
       case rel=>exact⟨i+1,A3,c3,_,_,by omega,by go_num,rfl,by omega,HO3,Hw3⟩
      ·go_wp2_with (at_builtin;go_must (refine appN _ 22 38 _ 2 40 Tryz.underlying22 infoEN rfl (by omega) (by omega) rfl (.tmp 61) (.tmp 64) rfl wo.heap.size _ _ _ rfl hown2 wo.heap.size _ 0 _ [] rfl ⟨by simp,.inl rfl⟩ (fun u hu=>by cases hu) (by omega) hs2 ?_));intro v3 w3 hown3 hb3 hg3 ht3;have hdz:zs.drop (q*2)=[]:=List.drop_eq_nil_of_le (by have:=HO.out.2.1.len;have:=HO.out.2.2.1;omega);rw[<-hdz] at hown3;have hB3:=HB2.out.trans hb3;have hw3:=hbr.out.trans (hB3.mono hbr.out.size);obtain⟨A3,c3,rfl,hc3,hH3⟩:=zAh hown3;have hm3:=zAu hown3;have hE3:=(((HO.out.2.1.below hB3).take q).snoc Hat.out.cap Hat.out.most ((Hat.out.has.below hw3).upto hbr.out.size) ((Hat.out.attrs.below hw3).upto hbr.out.size)).append ((HO.out.2.1.below hB3).drop q);have hins:insN O x=(O.take q++[x])++O.drop q:=by
        unfold insN;rw[HP.out,if_neg Hne.out,HPe.out,List.append_assoc];rfl
       rw[Hk.out.1,Hk.out.2,<-hins,List.append_assoc] at hE3;have hH3:Has w3 w3.heap.size 2 A3 (q+1) (zs.take (q*2)++([.string TX,.slice U kx cu]++zs.drop (q*2))):=by simpa using hH3
       have hlen3:=hH3.ens_n (hE3.upto hB3.size);have HO3:=hide (And.intro hH3 (And.intro (hE3.upto hB3.size) (And.intro hlen3.symm (And.intro hc3 hm3))));have Hw3:=hide hw3;rw[<-Hnx.out] at HO3;clear hown3 hb3 hg3 ht3 hB3 hw3 hc3 hH3 hm3 hE3 hins hlen3 hown2 hs2 hH2 hone2 HB2 hcm HO;go_wp2
       go_roundg r
       case measure=>omega
       case rel=>exact⟨i+1,A3,c3,_,_,by omega,by go_num,rfl,by omega,HO3,Hw3⟩
    | succ k2=>
     have hq:q<ko:=(by omega);have hqz:(q:Int)<(ko:Int):=(by omega);obtain⟨f,hf⟩:∃f,O[q]?=some f:=⟨_,List.getElem?_eq_getElem (by rw[HO.out.2.2.1];exact hq)⟩;have hfm:=List.mem_of_getElem? hf;have HCm:=hide (HCx.out f (Hso.out f hfm));obtain⟨go,oo,hOe,hgg,hatf⟩:=HO.out.1.en HO.out.2.1 (fun h=>by rw[h] at hf;simp at hf);subst hOe;obtain⟨Uf,cf,usf,hatf⟩:=hatf q f hf;have hpd:=zQd hf x.1;have HBd:Hid (Below wo.heap.size wo wr.drew):=hide hbq.out.drew;obtain⟨TF,hTF⟩:∃TF,txt f.1=TF:=⟨_,rfl⟩;have X0:Hid (∀W,Below wr.drew.heap.size wr.drew W->W.cell? ⟨go,oo+q*2,none⟩=some (.string TF)/\W.cell? ⟨g,o+i*2,none⟩=some (.string TX)):=hide fun W hW=>by
      have h2:=HBd.out.trans (hW.mono HBd.out.size);rw[<-hTF];exact⟨(h2.cell (p:=⟨go,oo+q*2,none⟩) hgg).trans hatf.e0,(h2.cell (p:=⟨g,o+i*2,none⟩) hgo).trans Hcx.out.1⟩
     have HTF:=hide hTF;have hff:Hid (wo.cell? ⟨go,oo+q*2,none⟩=some (.string TF)):=hide (by rw[<-hTF];exact hatf.e0);rw[hTF] at HCm;have hTo:TM wo:=HT.out.below hbr.out;have HTo:=hide hTo;obtain⟨y,hy⟩:∃y,compV f.1 x.1=y:=⟨_,rfl⟩;rw[hy] at HCm;have Hf:=hide hf;have Hgg:=hide hgg;by_cases hlt:y<0
     ·have zd:decide (y<0)=true:=decide_eq_true hlt;have hpq2:Hid (posN (O.drop (q+1)) x.1+(q+1)=P):=hide (by
       have:=hpq.out
       rw[hpd,if_pos (by rw[hy];exact hlt)] at this
       omega)
      clear hTF hTo hfm hatf hpd hpq hf hgg HTF hff hy HCx Hso HCms;go_wp2_with fail;refine zAq (by kernel_rfl) ?_;generalize wr.drew=wd at *;refine yTk 0 (some 12) ?_;(try simp only[pUz]);refine yTk 1 (some 13) ?_;(try simp only[pUz]);refine yTk 2 (some 14) ?_;(try simp only[pUz]);refine yTk 3 (some 15) ?_;(try simp only[pUz]);refine yTk 4 (some 16) ?_;(try simp only[pUz]);refine yTk 5 (some 17) ?_;(try simp only[pUz]);refine yTk 6 (some 18) ?_;(try simp only[pUz]);refine yTk 7 (some 19) ?_;(try simp only[pUz]);refine yTk 8 (some 20) ?_;(try simp only[pUz]);refine zAa 9 (some 21) (v:=?vb9) rfl rfl (by kernel_rfl) rfl (by rfl) (fun W hW=>?yb9) ?_
      case yb9=>have k0:=(X0.out W hW).1;go_simp<;>with_reducible rfl
      (try simp only[pUz]);refine yTk 10 (some 22) ?_;(try simp only[pUz]);refine yTk 11 (some 23) ?_;(try simp only[pUz]);refine yTk 12 (some 24) ?_;(try simp only[pUz]);refine yTk 13 (some 25) ?_;(try simp only[pUz]);refine zAa 14 (some 26) (v:=?vb14) rfl rfl (by kernel_rfl) rfl (by rfl) (fun W hW=>?yb14) ?_
      case yb14=>have k0:=(X0.out W hW).2;go_simp<;>with_reducible rfl
      (try simp only[pUz]);refine zAe 15 rfl (by kernel_rfl) (fun K hK=>?_);go_simp;refine (HCm.out _ (HTo.out.below HBd.out)).mono ?_;rintro e w6 ⟨rfl,hb6⟩;refine hK.out _ _ hb6 ?_;have HB6:=hTz HBd hb6;clear hK K hb6 HBd HCm;(try simp only[pUz]);refine zAa 16 (some 28) (v:=.bool true) rfl rfl (by kernel_rfl) rfl (by rfl) (fun W hW=>by go_simp<;>with_reducible rfl) ?_;(try simp only[pUz]);refine yTk 17 (some 29) ?_;(try simp only[pUz]);refine zAi (by kernel_rfl) ?_ _;go_wp2
      go_roundg k2
      case measure=>omega
      case rel=>exact⟨q+1,by omega,by go_num,hpq2,HB6⟩
     ·have zd:decide (y<0)=false:=decide_eq_false hlt;have HPe:Hid (P=q):=hide (by
       have:=hpq.out
       rw[hpd,if_neg (by rw[hy];exact hlt)] at this
       omega)
      clear hTF hTo hfm hatf hpd hpq hf hgg hy HCx Hso HCms;go_wp2_with fail;refine zAq (by kernel_rfl) ?_;generalize wr.drew=wd at *;refine yTk 0 (some 12) ?_;(try simp only[pUz]);refine yTk 1 (some 13) ?_;(try simp only[pUz]);refine yTk 2 (some 14) ?_;(try simp only[pUz]);refine yTk 3 (some 15) ?_;(try simp only[pUz]);refine yTk 4 (some 16) ?_;(try simp only[pUz]);refine yTk 5 (some 17) ?_;(try simp only[pUz]);refine yTk 6 (some 18) ?_;(try simp only[pUz]);refine yTk 7 (some 19) ?_;(try simp only[pUz]);refine yTk 8 (some 20) ?_;(try simp only[pUz]);refine zAa 9 (some 21) (v:=?vc9) rfl rfl (by kernel_rfl) rfl (by rfl) (fun W hW=>?yc9) ?_
      case yc9=>have k0:=(X0.out W hW).1;go_simp<;>with_reducible rfl
      (try simp only[pUz]);refine yTk 10 (some 22) ?_;(try simp only[pUz]);refine yTk 11 (some 23) ?_;(try simp only[pUz]);refine yTk 12 (some 24) ?_;(try simp only[pUz]);refine yTk 13 (some 25) ?_;(try simp only[pUz]);refine zAa 14 (some 26) (v:=?vc14) rfl rfl (by kernel_rfl) rfl (by rfl) (fun W hW=>?yc14) ?_
      case yc14=>have k0:=(X0.out W hW).2;go_simp<;>with_reducible rfl
      (try simp only[pUz]);refine zAe 15 rfl (by kernel_rfl) (fun K hK=>?_);go_simp;refine (HCm.out _ (HTo.out.below HBd.out)).mono ?_;rintro e w6 ⟨rfl,hb6⟩;refine hK.out _ _ hb6 ?_;have HB6:=hTz HBd hb6;clear hK K hb6 HBd HCm;(try simp only[pUz]);refine zAa 16 (some 28) (v:=.bool false) rfl rfl (by kernel_rfl) rfl (by rfl) (fun W hW=>by go_simp<;>with_reducible rfl) ?_;(try simp only[pUz]);refine yTk 17 (some 29) ?_;(try simp only[pUz]);refine zAi (by kernel_rfl) ?_ _;have c0:=(HB6.out.cell (p:=⟨go,oo+q*2,none⟩) Hgg.out).trans hff.out;have c1:=(HB6.out.cell (p:=⟨g,o+i*2,none⟩) hgo).trans Hcx.out.1;have Hmap:Hid ((O[P]?).map (·.1)=some f.1):=hide (by rw[HPe.out,Hf.out];rfl);clear hff;by_cases hfx:f.1=x.1
      ·have q1:(TF.toList==TX.toList)=true:=by rw[<-HTF.out,<-Hk.out.1,hfx];simp
       have HO2:Hid (insN O x=O):=hide (by unfold insN;rw[HP.out,if_pos (by rw[Hmap.out,hfx])]);clear HTF Hf hfx Hmap;go_wp2
       go_quiet (fail)
       go_wp2
       go_roundg r
       case measure=>omega
       case rel=>have hb:=Below.drewN HB6.out nq;have HO3:=hide (And.intro ((HO.out.1.below hb).upto hb.size) (And.intro (HO.out.2.1.grow hb) HO.out.2.2));have hsx:sortN (L.take (i+1))=O:=Hnx.out.trans HO2.out;rw[<-hsx] at HO3;exact⟨i+1,_,co,ko,zs,by omega,by go_num,rfl,by omega,HO3,hide (hbr.out.trans (hb.mono hbr.out.size))⟩
      ·have q1:(TF.toList==TX.toList)=false:=by rw[<-HTF.out,<-Hk.out.1];exact zBn hfx
       have Hne:Hid ((O[P]?).map (·.1)≠some x.1):=hide (by rw[Hmap.out];intro h;exact hfx (Option.some.inj h));clear HTF Hf hfx Hmap;go_wp2
       go_quiet (fail)
       have hqk:q<=ko:=(by omega);have hcq:¬(co=q):=(by have:=HO.out.2.2.2.1;omega);have hone:=HO.out.2.1.one;have hone1:∀u∈zs.take (q*2),u.oneCell'=true:=fun u hu=>hone u (List.mem_of_mem_take hu)
       have hone2:∀u∈zs.drop (q*2),u.oneCell'=true:=fun u hu=>hone u (List.mem_of_mem_drop hu)
       have hH1:=HO.out.1.first hqk
       have hcap:=HO.out.2.2.2.1;have hcm:=HO.out.2.2.2.2;unfold maxLen at hcm;have hqc:q<=co:=by omega
       have hqci:(q:Int)<=(co:Int):=(by omega);have Hone2:=hide hone2;clear hone hone2;go_wp2_with (at_builtin;go_must (refine appN _ 22 38 _ 2 40 Tryz.underlying22 infoEN rfl (by omega) (by omega) rfl (.tmp 49) (.tmp 52) rfl wo.heap.size _ 0 [] rfl (World.ownsRow_nil _ _ _ _) _ _ q co _ rfl (hH1.below (Below.drewN HB6.out _)) hone1 (by omega) (Below.drewN HB6.out _).size ?_));intro v1 w1 hown1 hb1 hg1 ht1;have hB1:=(Below.drewN HB6.out _).trans hb1;have c2:=(hB1.cell (p:=⟨g,o+i*2,none⟩) hgo).trans Hcx.out.1;have c3:=(hB1.cell (p:=⟨g,o+i*2+1,none⟩) hgo).trans Hcx.out.2;have hba:=below1 w1 (.cells #[.string TX,.slice U kx cu] 38);have hlit:=litY w1 (.string TX) (.slice U kx cu) 38 rfl rfl;have h1c:∀u∈[Value.string TX,Value.slice U kx cu],u.oneCell'=true:=by simp[Value.oneCell']
       have hown1a:=zAc hown1 hba;have hB1a:=hB1.trans (hba.mono hB1.size);have hs1a:=hB1a.size;have HB1a:=hide hB1a;clear hown1 hb1 hg1 ht1 hB1 hba hone1 hH1 hB1a;go_wp2_with (at_builtin;go_must (refine appN _ 22 38 _ 2 40 Tryz.underlying22 infoEN rfl (by omega) (by omega) rfl (.tmp 54) (.tmp 59) rfl wo.heap.size _ _ _ rfl hown1a _ _ 1 1 [.string TX,.slice U kx cu] rfl (Has.own hlit) h1c (by omega) hs1a ?_));intro v2 w2 hown2 hb2 hg2 ht2;have hB2:=HB1a.out.trans hb2;have hs2:=hB2.size;have hH2:=(HO.out.1.below hB2).from_ (k:=q) (cap:=co) hqk hcap;have HB2:=hide hB2;have hone2:=Hone2.out;clear hb2 hg2 ht2 hB2 hlit h1c hown1a hs1a HB1a c2 c3 Hone2;rw[if_neg hcq] at hH2;have hH2b:Has w2 wo.heap.size 2 (some ⟨go,oo+q*2,none⟩) (ko-q) (zs.drop (q*2)):=by simpa[Addr.add_lit] using hH2
       go_wp2_with (at_builtin;go_must (refine appN _ 22 38 _ 2 40 Tryz.underlying22 infoEN rfl (by omega) (by omega) rfl (.tmp 61) (.tmp 64) rfl wo.heap.size _ _ _ rfl hown2 wo.heap.size _ (ko-q) _ (zs.drop (q*2)) rfl hH2b hone2 (by omega) hs2 ?_));intro v3 w3 hown3 hb3 hg3 ht3;clear hH2b;have hB3:=HB2.out.trans hb3;have hw3:=hbr.out.trans (hB3.mono hbr.out.size);obtain⟨A3,c3,rfl,hc3,hH3⟩:=zAh hown3;have hm3:=zAu hown3;have hE3:=(((HO.out.2.1.below hB3).take q).snoc Hat.out.cap Hat.out.most ((Hat.out.has.below hw3).upto hbr.out.size) ((Hat.out.attrs.below hw3).upto hbr.out.size)).append ((HO.out.2.1.below hB3).drop q);have hins:insN O x=(O.take q++[x])++O.drop q:=by
        unfold insN;rw[HP.out,if_neg Hne.out,HPe.out,List.append_assoc];rfl
       rw[Hk.out.1,Hk.out.2,<-hins,List.append_assoc] at hE3;have hH3:Has w3 w3.heap.size 2 A3 (q+1+(ko-q)) (zs.take (q*2)++([.string TX,.slice U kx cu]++zs.drop (q*2))):=by simpa using hH3
       have hlen3:=hH3.ens_n (hE3.upto hB3.size);have HO3:=hide (And.intro hH3 (And.intro (hE3.upto hB3.size) (And.intro hlen3.symm (And.intro hc3 hm3))));have Hw3:=hide hw3;rw[<-Hnx.out] at HO3;clear hown3 hb3 hg3 ht3 hB3 hw3 hc3 hH3 hm3 hE3 hins hlen3 hown2 hs2 hH2 hone2 HB2 hcm HO;go_wp2
       go_roundg r
       case measure=>omega
       case rel=>exact⟨i+1,A3,c3,_,_,by omega,by go_num,rfl,by omega,HO3,Hw3⟩
end Go.Proofs.YtdkekamkmlpnhaaGreatDoor
set_option maxHeartbeats 32000000
namespace Go.Proofs.YtdkekamkmlpnhaaGreatDoor
open Go.RowKit
def findN:List EN->List UInt8->Nat->Int
 | [],_,_=> -1
 | e::L,n,i=>if e.1=n then (i:Int) else findN L n (i+1)
noncomputable def atN (L:List EN) (nm:List UInt8):Int:=if (normT nm).2=0 then findN L (normT nm).1 0 else -1
theorem zOj {L:List EN} {i:Nat} {e:EN} (h:L[i]?=some e) (n:List UInt8):findN (L.drop i) n i=if e.1=n then (i:Int) else findN (L.drop (i+1)) n (i+1):=by
 obtain⟨h1,h2⟩:=List.getElem?_eq_some_iff.1 h;rw[List.drop_eq_getElem_cons h1,h2];rfl
theorem zFv:∀{L:List EN} {e:EN} {n:List UInt8} (i:Nat),e∈L->e.1=n->(i:Int)<=findN L n i
 | x::L,e,n,i,hm,he=>by
  unfold findN;split
  ·omega
  ·rename_i hx;rcases List.mem_cons.1 hm with rfl | hm
   ·exact absurd he hx
   ·have:=zFv (i+1) hm he;omega
theorem zEm:∀{L:List EN} {n:List UInt8} (i:Nat),0<=findN L n i->∃k e,L[k]?=some e/\e.1=n/\findN L n i=((i+k:Nat):Int)
 | [],n,i,h=>by unfold findN at h;omega
 | x::L,n,i,h=>by
  unfold findN at h ⊢;split
  ·rename_i hx;exact⟨0,x,rfl,hx,by omega⟩
  ·rename_i hx;rw[if_neg hx] at h;obtain⟨k,e,h1,h2,h3⟩:=zEm (i+1) h;exact⟨k+1,e,by simpa using h1,h2,by rw[h3];omega⟩
theorem zP3 {L:List EN} {e:EN} {nm:List UInt8} (h:normT nm=(nm,0)) (hm:e∈L) (he:e.1=nm):0<=atN L nm:=by
 unfold atN;rw[if_pos (by rw[h]),h];have:=zFv (n:=nm) 0 hm he;simpa using this
theorem zP4 (L:List EN) (nm:List UInt8) (w:World) (A:Option Addr) (n c:Nat) (xs:List Value) (hA:Has w w.heap.size 2 A n xs) (hL:ENs w w.heap.size xs L) (hn:n<=1000000000) (hnm:nm.length<=1000000) (hT:TM w):
  Calls Tryz.prog 33 #[.slice A n c,.string (txt nm)] w fun e w'=>e=.returned (.int .i64 (atN L nm))/\Below w.heap.size w w':=by
 have hnl:=hA.ens_n hL;have hN:=zBl nm hnm w hT;obtain⟨R,hR⟩:∃R,atN L nm=R:=⟨_,rfl⟩;rw[hR];have HN:=hide hN;have HA:=hide hA;have HL:=hide hL;have Hn:=hide hnl;have HR:=hide hR;clear hN hA hL hnl hR hT hnm;obtain⟨T,hTt⟩:∃T,(normT nm).1=T:=⟨_,rfl⟩;obtain⟨y,hy⟩:∃y,(normT nm).2=y:=⟨_,rfl⟩;rw[hTt,hy] at HN;have HR2:Hid ((if y=0 then findN L T 0 else -1)=R):=hide (by rw[<-HR.out];unfold atN;rw[hTt,hy]);clear HR hTt hy;generalize txt nm=S at *;obtain⟨TS,hTS⟩:∃TS,txt T=TS:=⟨_,rfl⟩;have HTS:=hide hTS;rw[hTS] at HN;clear hTS;go_enter Tryz.func33,Tryz.ntmps33;go_wp2_with (go_at_call 46;fail);refine HN.out.mono ?_;rintro e w2 ⟨rfl,hb2⟩;have HB2:=hide hb2;have HA2:=hide ((HA.out.below hb2).upto hb2.size);have HL2:=hide (HL.out.grow hb2);clear hb2 HN HA HL;by_cases hy0:y=0
 ·have hf:Hid (findN L T 0=R):=hide (by have:=HR2.out;rwa [if_pos hy0] at this);subst hy0;clear HR2;go_wp2
  go_loopg [15] n (fun r s15 wx=>∃i:Nat,i+r=n/\s15=.int .i64 (i:Int)/\Hid (findN (L.drop i) T i=R)/\wx=w2)
  case atStart=>exact⟨0,by omega,rfl,hide (by rw[List.drop_zero];exact hf.out),rfl⟩
  case round=>
   obtain⟨i,hig,rfl,hpre,hw⟩:=hrel;obtain rfl:=hw.symm;clear hw hf;cases gk with
   | zero=>
    obtain rfl:i=n:=by omega
    have hiz:¬((i:Int)<(i:Int)):=(by omega);have hp:=hpre.out;rw[List.drop_eq_nil_of_le (by rw[Hn.out];exact Nat.le_refl _)] at hp;have hR1:Hid (R= -1):=hide (by rw[<-hp];rfl);clear hp hpre HA2 HL2 Hn HTS;go_wp2;go_ret;exact⟨by rw[hR1.out];rfl,HB2.out⟩
   | succ r=>
    have hi:i<n:=(by omega);have hiz:(i:Int)<(n:Int):=(by omega);obtain⟨e,he⟩:∃e,L[i]?=some e:=⟨_,List.getElem?_eq_getElem (by rw[<-Hn.out];exact hi)⟩;obtain⟨g,o,hAe,hg,hat⟩:=HA2.out.en HL2.out (fun h=>by rw[h] at he;simp at he);subst hAe;obtain⟨U,cu,us,hat⟩:=hat i e he;have e0:=hat.e0;have hpd:=zOj he T;rw[hpre.out] at hpd;by_cases h1:e.1=T
    ·rw [if_pos h1] at hpd;have q1:((txt e.1).toList==TS.toList)=true:=by rw[h1,HTS.out];simp
     have Hpd:=hide hpd;generalize txt e.1=TE at *;clear hat he hpre hpd h1 HA2 HL2 Hn HTS;go_wp2;go_ret;exact⟨by rw[Hpd.out];rfl,HB2.out⟩
    ·rw [if_neg h1] at hpd;have q1:((txt e.1).toList==TS.toList)=false:=by rw[<-HTS.out];exact zBn h1
     have Hpd:=hide hpd.symm;generalize txt e.1=TE at *;clear hat he hpre hpd h1;go_wp2
     go_roundg r
     case measure=>omega
     case rel=>exact⟨i+1,by omega,by go_num,Hpd,rfl⟩
 ·have hR1:Hid (R= -1):=hide (by have:=HR2.out;rw[if_neg hy0] at this;exact this.symm);have q0:(y==0)=false:=beq_false_of_ne hy0;have q1:(y !=0)=true:=by unfold bne;rw[q0];rfl
  clear HR2;go_wp2
  go_loopg [15] n (fun r s15 wx=>∃i:Nat,i+r=n/\s15=.int .i64 (i:Int)/\wx=w2)
  case atStart=>exact⟨0,by omega,rfl,rfl⟩
  case round=>
   obtain⟨i,hig,rfl,hw⟩:=hrel;obtain rfl:=hw.symm;clear hw;cases gk with
   | zero=>
    obtain rfl:i=n:=by omega
    have hiz:¬((i:Int)<(i:Int)):=(by omega);clear HA2 HL2 Hn HTS;go_wp2;go_ret;exact⟨by rw[hR1.out];rfl,HB2.out⟩
   | succ r=>
    have hi:i<n:=(by omega);have hiz:(i:Int)<(n:Int):=(by omega);go_wp2
    go_roundg r
    case measure=>omega
    case rel=>exact⟨i+1,by omega,by go_num,rfl⟩
end Go.Proofs.YtdkekamkmlpnhaaGreatDoor
namespace Go.Proofs.YtdkekamkmlpnhaaGreatDoor
open Go Go.RowKit
end Go.Proofs.YtdkekamkmlpnhaaGreatDoor
namespace Go.Proofs.YtdkekamkmlpnhaaGreatDoor
open Go Go.RowKit
end Go.Proofs.YtdkekamkmlpnhaaGreatDoor
namespace Go.Proofs.YtdkekamkmlpnhaaGreatDoor
open Go.RowKit
def dcxT:List UInt8:=[100,99,61,120]
def awT:List EA:=[(clsT,[[111]]),([100,99],[[120]])]
theorem zI8:normT dcxT=(dcxT,0):=by unfold dcxT;rw[norm_yes' zPp];rfl
theorem zN0:gatherE [] awT=(awE,0):=by
 have t1:typ [100,99]=([100,99],1):=by decide
 have t2:typ clsT=(clsT,1):=by decide
 have g1:gatherV [100,99] [] [[120]]=([[120]],0):=by unfold gatherV;rw[zIh,if_neg (by simp),if_neg (by rintro ⟨x,hx,_⟩;cases hx)];rfl
 have g2:gatherV clsT [] [[111]]=([[111]],0):=by unfold gatherV;rw[val_clso,if_neg (by simp),if_neg (by rintro ⟨x,hx,_⟩;cases hx)];rfl
 unfold awT gatherE;rw[t2,if_neg (by decide),if_neg (by simp)];simp only;rw[show pickE [] clsT=[] from rfl,g2];simp only;rw[if_neg (by simp)];unfold gatherE;simp only;rw[t1,if_neg (by decide),if_neg (by simp)];simp only;rw[show pickE (setE [] clsT [[111]]) [100,99]=[] by decide,g1];simp only;rw[if_neg (by simp)];unfold gatherE;rw[show setE (setE [] clsT [[111]]) [100,99] [[120]]=awE by decide]
theorem end_awT:endE dcxT awE 64=0:=by
 unfold endE;rw[if_neg,if_neg,if_pos]
 ·rw [zCd zI8 (by decide)];have hp:pairsE dcxT=[([100,99],[120])]:=by
   unfold pairsE dcxT;rw[zNl]
  rw[hp];intro p hp';obtain rfl:=List.mem_singleton.1 hp';unfold HasE valuesE;rw[show typ [100,99]=([100,99],1) by decide,if_neg (by decide)];refine⟨[120],by decide,?_,?_,?_⟩
  ·rw [zIh]
  ·rw [zIh]
  ·rw [zIh]
 ·decide
 ·rintro ⟨a,ha,h⟩;rcases List.mem_cons.1 ha with rfl | ha
  ·revert h;decide
  ·obtain rfl:=List.mem_singleton.1 ha;revert h;decide
theorem make_awT:makeE dcxT awT=(dcxT,awE,0):=by
 unfold makeE;rw[zI8,if_neg (by decide),zN0];simp only;rw[if_neg (by simp),end_awT,if_neg (by simp)]
end Go.Proofs.YtdkekamkmlpnhaaGreatDoor
namespace Go.Proofs.YtdkekamkmlpnhaaGreatDoor
open Go Go.RowKit
structure AddPost (B0 q:Nat) (w:World) (e:Ending) (w':World):Prop where
 out:∃A c,e=.returned (.int .i64 0)/\Blk w' q [.slice A 1 c]/\Below B0 w w'
theorem tadd_aw (w:World) (B0 q:Nat) (A:Option Addr) (xs:List Value) (hQ:Blk w q [.slice none 0 0]) (hq:B0<=q) (hw:B0<=w.heap.size) (hA:Has w w.heap.size 2 A 2 xs) (hL:EAs w w.heap.size xs awT) (hT:TM w):
  Calls Tryz.prog 24 #[.pointer (some ⟨q,0,none⟩),.string ⟨#[100,99,61,120]⟩,.slice A 2 2] w (AddPost B0 q w):=by
 have HM:Hid (Calls Tryz.prog 54 #[.string ⟨#[100,99,61,120]⟩,.slice A 2 2] w (MadePost dcxT awE 0 w)):=hide (by
  have:=zQf dcxT awT w A 2 2 xs hA hL hT (by decide) (by decide) (fun a ha=>by
   rcases List.mem_cons.1 ha with rfl | ha
   ·decide
   ·obtain rfl:=List.mem_singleton.1 ha;decide) (fun a ha v hv=>by
   rcases List.mem_cons.1 ha with rfl | ha
   ·obtain rfl:=List.mem_singleton.1 hv;decide
   ·obtain rfl:=List.mem_singleton.1 ha
    obtain rfl:=List.mem_singleton.1 hv
    decide) (by decide)
  rw[make_awT] at this
  exact this)
 have HN:Hid (∀(w:World) (A:Option Addr) (n c:Nat),Calls Tryz.prog 26 #[.agg #[.string ⟨#[100,99,61,120]⟩,.slice A n c]] w (NodePost ⟨#[100,99,61,120]⟩ A n c [dcxT] w)):=hide (fun w A n c=>by
  have:=zGd dcxT (by decide) (by decide) (by decide) (by decide) w A n c
  rw[show (cuts 44 dcxT).reverse=[dcxT] by decide] at this
  exact this)
 suffices H:Calls Tryz.prog 24 #[.pointer (some ⟨q,0,none⟩),.string ⟨#[100,99,61,120]⟩,.slice A 2 2] w fun e w'=>Hid (AddPost B0 q w e w') from H.mono fun e w' h=>h.out
 obtain⟨S,hS⟩:∃S:ByteArray,(⟨#[100,99,61,120]⟩:ByteArray)=S:=⟨_,rfl⟩;have HS:Hid (txt dcxT=S):=hide (by rw[<-hS];rfl);rw[hS] at HM HN;rw[hS];have HQ:=hide hQ;have Hq:=hide hq;have Hw:=hide hw;clear hS hQ hq hw hA hL hT;go_enter Tryz.func24,Tryz.ntmps24;go_wp2_with (go_at_call 54;fail);refine HM.out.mono ?_;rintro e w2 hpost;obtain⟨A5,c5,ys5,rfl,_,_,_,_,hb2⟩:=hpost.out;rw[HS.out];have hba:=below1 w2 (.cells #[.string S,.slice A5 awE.length c5] 38);have hXa:=BoxE.new w2 S A5 awE.length c5 38;obtain⟨k5,hk5⟩:∃k,awE.length=k:=⟨_,rfl⟩;rw[hk5] at hba hXa ⊢;have HE:=hide hXa;have HQ2:=hide ((HQ.out.grow hb2).grow hba);have HB2:=hide ((hb2.mono Hw.out).trans (hba.mono (Nat.le_trans Hw.out hb2.size)));have Hw2:=hide (Nat.le_trans Hw.out (Nat.le_trans hb2.size hba.size));clear hpost hb2 hba hXa hk5 HM HQ HS;obtain⟨w3,hw3⟩:∃x,w2.alloc (.cells #[.string S,.slice A5 k5 c5] 38)=x:=⟨_,rfl⟩;rw[hw3] at HE HQ2 HB2 Hw2;have Hw3:=hide hw3;clear hw3;go_upto_region 4 with fail;rw[Hw3.out];obtain⟨h,hh⟩:∃h,w2.heap.size=h:=⟨_,rfl⟩;rw[hh] at HE;(try rw[hh]);clear hh Hw3;have x0:=HE.out.c0;have x1:=HE.out.c1;go_wp2_with (go_at_call 26;fail);refine (HN.out w3 A5 k5 c5).mono ?_;rintro e w4 hpost;obtain⟨P,cp,rfl,hcp,hmp,hhp,hb4⟩:=hpost.out;simp only[List.length_cons,List.length_nil,Nat.zero_add] at hcp hhp ⊢;have hhas:=hhp.has (B:=w4.heap.size) fun b hb=>hb.2
 obtain⟨g,o,rfl,hg,_⟩:=hhas.lies (by simp[strs]);have hba:=below1 w4 (.cells #[.string S,.slice A5 k5 c5,.slice (some ⟨g,o,none⟩) 1 cp] 64);have hY:Blk (w4.alloc (.cells #[.string S,.slice A5 k5 c5,.slice (some ⟨g,o,none⟩) 1 cp] 64)) w4.heap.size [.string S,.slice A5 k5 c5,.slice (some ⟨g,o,none⟩) 1 cp]:=Blk.new w4 [.string S,.slice A5 k5 c5,.slice (some ⟨g,o,none⟩) 1 cp] 64;have HY:=hide hY;have HQ4:=hide ((HQ2.out.grow hb4).grow hba);have HB4:=hide (HB2.out.trans ((hb4.mono Hw2.out).trans (hba.mono (Nat.le_trans Hw2.out hb4.size))));have Hw4:=hide (Nat.le_trans Hw2.out (Nat.le_trans hb4.size hba.size));have hcp1:(1:Nat)<=cp:=hcp;clear hpost hcp hhp hb4 hhas hg hba hY HN HE HQ2 HB2 Hw2 x0 x1;obtain⟨w5,hw5⟩:∃x,w4.alloc (.cells #[.string S,.slice A5 k5 c5,.slice (some ⟨g,o,none⟩) 1 cp] 64)=x:=⟨_,rfl⟩;rw[hw5] at HY HQ4 HB4 Hw4;have Hw5:=hide hw5;clear hw5;go_upto_region 7 with fail;rw[Hw5.out];obtain⟨h2,hh2⟩:∃h,w4.heap.size=h:=⟨_,rfl⟩;rw[hh2] at HY;(try rw[hh2]);clear hh2 Hw5;have y0:=HY.out.cells 0 _ rfl;have y1:=HY.out.cells 1 _ rfl;have y2:=HY.out.cells 2 _ rfl;have k0:=HQ4.out.cells 0 _ rfl;go_wp2_with (go_at_call 55;fail);refine (zRv w5 q HQ4.out _ _ _).mono ?_;rintro e w6 ⟨rfl,hw6⟩;obtain rfl:=hw6.symm;clear hw6;go_wp2_with (go_at_call 56;fail);refine (zMe w5 _ _ _).mono ?_;rintro e w6 ⟨rfl,hw6⟩;obtain rfl:=hw6.symm;clear hw6;have hlit:(w5.alloc (.cells #[.string S,.slice A5 k5 c5,.slice (some ⟨g,o,none⟩) 1 cp] 64)).ownsRow w5.heap.size 64 3 (.slice (some ⟨w5.heap.size,0,none⟩) 1 1) 1 [.string S,.slice A5 k5 c5,.slice (some ⟨g,o,none⟩) 1 cp]:=
  World.ownsRow_lit w5 #[.string S,.slice A5 k5 c5,.slice (some ⟨g,o,none⟩) 1 cp] 1 (Nat.le_refl _) (by unfold maxLen;omega) rfl
 have hba:=below1 w5 (.cells #[.string S,.slice A5 k5 c5,.slice (some ⟨g,o,none⟩) 1 cp] 64);have HR:=hide (zKh (w5.alloc (.cells #[.string S,.slice A5 k5 c5,.slice (some ⟨g,o,none⟩) 1 cp] 64)) B0 q (some ⟨w5.heap.size,0,none⟩) 1 _ _ _ (HQ4.out.grow hba) Hq.out (Nat.le_trans Hw4.out hba.size) (Has.own hlit) (by simp[Value.oneCell']));have HB5:=hide (HB4.out.trans (hba.mono Hw4.out));clear hlit hba HQ4 HB4 Hw4 HY Hq Hw;go_wp2_with (go_at_call 57;fail);refine HR.out.mono ?_;rintro e w7 hpost;obtain⟨A8,c8,rfl,hq8,hb8⟩:=hpost.out;have HE:Hid (AddPost B0 q w (.returned (.int .i64 0)) w7):=hide ⟨⟨A8,c8,rfl,hq8,HB5.out.trans hb8⟩⟩;clear hpost hq8 hb8 HR HB5 y0 y1 y2 k0;go_wp2;go_ret;exact HE
end Go.Proofs.YtdkekamkmlpnhaaGreatDoor
namespace Go.Proofs.YtdkekamkmlpnhaaGreatDoor
open Go Go.RowKit
end Go.Proofs.YtdkekamkmlpnhaaGreatDoor
namespace Go.Proofs.YtdkekamkmlpnhaaGreatDoor.Opens
open Go Go.ChangeShapes Go.WideShapes Go.ChangeAt Go.RowKit Go.Deep
end Go.Proofs.YtdkekamkmlpnhaaGreatDoor.Opens
namespace Go.Proofs.YtdkekamkmlpnhaaGreatDoor.Opens
open Go Go.ChangeShapes Go.WideShapes Go.ChangeAt Go.RowKit Go.Deep
end Go.Proofs.YtdkekamkmlpnhaaGreatDoor.Opens
namespace Go.Proofs.YtdkekamkmlpnhaaGreatDoor
open Go Go.RowKit
structure NewT (w:World) (e:Ending) (w':World):Prop where
 out:e=.returned (.pointer (some ⟨w.heap.size,0,none⟩))/\Blk w' w.heap.size [.slice none 0 0]/\Below w.heap.size w w'/\w'.heap.size=w.heap.size+1
theorem zNx (w:World):Calls Tryz.prog 23 #[] w (NewT w):=by
 suffices H:Calls Tryz.prog 23 #[] w fun e w'=>Hid (NewT w e w') from H.mono fun e w' h=>h.out
 have HE:Hid (NewT w (.returned (.pointer (some ⟨w.heap.size,0,none⟩))) (w.alloc (.cells #[.slice none 0 0] 72))):=hide ⟨⟨rfl,Blk.new w [.slice none 0 0] 72,below1 w _,by simp⟩⟩;go_enter Tryz.func23,Tryz.ntmps23;go_wp2;go_ret;exact HE
theorem zFr (w:World) (hT:TM w):Calls Tryz.prog 6 #[] w fun e w'=>e=.returned (.bool true)/\Below w.heap.size w w':=by
 have HT:=hide hT;clear hT;go_enter Tryz.func6,Tryz.ntmps6;go_wp2_with (go_at_call 23;fail);refine (zNx w).mono ?_;rintro e w0 hpost;obtain⟨rfl,hQ,hb0,hs0⟩:=hpost.out;have hb1:=below1 w0 (.cells #[.string ⟨#[111]⟩] 9);have hX1:Blk (w0.alloc (.cells #[.string ⟨#[111]⟩] 9)) w0.heap.size [.string ⟨#[111]⟩]:=Blk.new w0 [.string ⟨#[111]⟩] 9;obtain⟨w1,hw1⟩:∃w1,w0.alloc (.cells #[.string ⟨#[111]⟩] 9)=w1:=⟨_,rfl⟩;have hs1:w1.heap.size=w.heap.size+1+1:=by rw[<-hw1];simp[hs0]
 rw[hw1] at hb1 hX1;have hb2:=below1 w1 (.cells #[.string ⟨#[120]⟩] 9);have hX2:Blk (w1.alloc (.cells #[.string ⟨#[120]⟩] 9)) w1.heap.size [.string ⟨#[120]⟩]:=Blk.new w1 [.string ⟨#[120]⟩] 9;obtain⟨w2,hw2⟩:∃w2,w1.alloc (.cells #[.string ⟨#[120]⟩] 9)=w2:=⟨_,rfl⟩;have hs2:w2.heap.size=w.heap.size+1+1+1:=by rw[<-hw2];simp[hs1]
 rw[hw2] at hb2 hX2;rw[hs1] at hX2;rw[hs0] at hX1;obtain⟨us,hus⟩:∃us:List Value,[.string ⟨#[111,98,106,101,99,116,67,108,97,115,115]⟩,.slice (some ⟨w.heap.size+1,0,none⟩) 1 1,.string ⟨#[100,99]⟩,.slice (some ⟨w.heap.size+1+1,0,none⟩) 1 1]=us:=⟨_,rfl⟩;have hb3:=below1 w2 (.cells us.toArray 60);have hX3:Blk (w2.alloc (.cells us.toArray 60)) w2.heap.size us:=Blk.new w2 us 60;obtain⟨w3,hw3⟩:∃w3,w2.alloc (.cells us.toArray 60)=w3:=⟨_,rfl⟩;rw[hw3] at hb3 hX3;rw[hs2] at hX3;have hY1:=(hX1.grow hb2).grow hb3;have hY2:=hX2.grow hb3;have hbb:Below w0.heap.size w0 w3:=(hb1.trans (hb2.mono hb1.size)).trans (hb3.mono (Nat.le_trans hb1.size hb2.size));have blkH:∀{w:World} {h:Nat} {us:List Value} (t:Blk w h us) (size n:Nat) (hl:us.length=n*size),Has w w.heap.size size (some ⟨h,0,none⟩) n us:=fun {w h us} t size n hl=>⟨hl,.inr ⟨_,rfl,t.lt,fun j u hu=>by
  have:=t.cells j u hu
  rwa [show (⟨h,0,none⟩:Addr).add j=⟨h,j,none⟩ by unfold Addr.add;split<;>simp_all]⟩⟩
 have h1:=blkH hY1 1 1 rfl;have h2:=blkH hY2 1 1 rfl;have h3:=blkH hX3 2 2 (by rw[<-hus];rfl);have hE:EAs w3 w3.heap.size us awT:=by
  rw[<-hus];refine⟨rfl,fun i a ha=>?_⟩
  match i,ha with
  | 0,ha=>obtain rfl:=Option.some.inj ha;exact⟨_,1,rfl,rfl,by decide,by unfold maxLen;omega,h1⟩
  | 1,ha=>obtain rfl:=Option.some.inj ha;exact⟨_,1,rfl,rfl,by decide,by unfold maxLen;omega,h2⟩
  | k+2,ha=>cases ha
 have hM:=tadd_aw w3 w.heap.size w.heap.size _ us (hQ.grow hbb) (Nat.le_refl _) (Nat.le_trans hb0.size hbb.size) h3 hE ((HT.out.below hb0).below hbb);subst hus;have HM:=hide hM;have HB:=hide (hb0.trans (hbb.mono hb0.size));have Hw:=hide (And.intro hw1 (And.intro hw2 hw3));have Hs:=hide (And.intro hs0 (And.intro hs1 hs2));clear hpost hM hbb hE h1 h2 h3 hY1 hY2 hX1 hX2 hX3 hb1 hb2 hb3 hw1 hw2 hw3 hs0 hs1 hs2 hQ hb0 blkH HT;go_wp2_with (go_at_call 24;fail);rw[Hw.out.1];(try rw[Hs.out.1]);rw[Hw.out.2.1];(try rw[Hs.out.2.1]);rw[Hw.out.2.2];(try rw[Hs.out.2.2]);refine HM.out.mono ?_;rintro e w4 hpost;obtain⟨A,c,rfl,hQ4,hb4⟩:=hpost.out;have HQ4:=hide hQ4;have HB4:=hide (HB.out.trans hb4);clear hpost hQ4 hb4 HM HB Hw Hs;go_wp2_with (go_at_call 21;fail);refine (tlen_one w4 _ A 1 c HQ4.out).mono ?_;rintro e w5 ⟨rfl,hw5⟩;obtain rfl:=hw5.symm;clear hw5 HQ4;go_wp2;go_ret;exact⟨rfl,HB4.out⟩
end Go.Proofs.YtdkekamkmlpnhaaGreatDoor
