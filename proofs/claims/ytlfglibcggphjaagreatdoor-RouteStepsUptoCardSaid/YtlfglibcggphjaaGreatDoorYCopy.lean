/- The reference's Copy and CopyAll of entries. By an AI agent. -/
import Derived.Test.YtlfglibcggphjaaGreatDoorYRowG
import Derived.Test.YtlfglibcggphjaaGreatDoorYWee
import Derived.Test.YtlfglibcggphjaaGreatDoorEN
set_option linter.unusedSimpArgs false
set_option linter.unusedVariables false
set_option maxRecDepth 100000
set_option maxHeartbeats 64000000
namespace Go.Proofs.YtlfglibcggphjaaGreatDoor
open Go Go.RowKit
theorem zF0 (L:List EN) (w:World) (A:Option Addr) (n c:Nat) (xs:List Value) (hA:Has w w.heap.size 2 A n xs) (hL:ENs w w.heap.size xs L) (hn:n<=1000000) (hwe:∀e∈L,WeeN e):
  Calls Tryz.prog 15 #[.slice A n c] w (EntsPost L w):=by
 have hnl:=hA.ens_n hL;have hCp:∀e∈L,∀(w:World) (U:Option Addr) (cu:Nat) (ys:List Value),Has w w.heap.size 2 U e.2.length ys->EAs w w.heap.size ys e.2->Calls Tryz.prog 22 #[.agg #[.string (txt e.1),.slice U e.2.length cu]] w (EntPost e w):=fun e he w U cu ys hA hL=>
  zH4 e.1 e.2 w U _ cu ys hA hL (hwe e he).2.1 (fun a ha=>((hwe e he).2.2 a ha).1)
 have HC:=hide hCp;have HA:=hide hA;have HL:=hide hL;have HN:=hide hnl;clear hCp hA hL hnl hwe
 suffices H:Calls Tryz.prog 15 #[.slice A n c] w fun e w'=>∃v,e=.returned v/\(∃zs,RowN w' w.heap.size 71 v zs L)/\Below w.heap.size w w' from H.mono fun e w' ⟨v,h1,⟨zs,h2⟩,h3⟩=>by
  subst h1;exact h2.told h3
 go_enter Tryz.func15,Tryz.ntmps15;go_wp2
 go_loopg [3,7] n (fun k s3 s7 wx=>∃(i:Nat) (zs:List Value),i+k=n/\s7=.int .i64 (i:Int)/\Hid (RowN wx w.heap.size 71 s3 zs (L.take i))/\Hid (Below w.heap.size w wx))
 case atStart=>exact⟨0,[],by omega,rfl,hide (RowN.start (World.ownsRow_nil _ _ _ _)),hide (Below.refl _ _)⟩
 case round=>
  obtain⟨i,zs,hig,rfl,hro,hbr⟩:=hrel;cases gk with
  | zero=>
   obtain rfl:i=n:=by omega
   have hiz:¬((i:Int)<(i:Int)):=by omega
   have ho:=hro.out;rw[List.take_of_length_le (by rw[<-HN.out];exact Nat.le_refl _)] at ho;have Ho:=hide ho;clear HA HL HC HN hro ho;go_wp2;go_ret;exact⟨_,rfl,⟨zs,Ho.out⟩,hbr.out⟩
  | succ r=>
   have hi:i<n:=by omega
   have hiz:(i:Int)<(n:Int):=by omega
   obtain⟨e,he⟩:∃e,L[i]?=some e:=⟨_,List.getElem?_eq_getElem (by rw[<-HN.out];exact hi)⟩;have hem:=List.mem_of_getElem? he;obtain⟨g,o,hAe,hg,hat⟩:=HA.out.en HL.out (fun h=>by rw[h] at he;simp at he);subst hAe;obtain⟨U,cu,ys,hat⟩:=hat i e he;have hat:=hat.below hg hbr.out;have e0:=hat.e0;have e1:=hat.e1;have Hcall:=hide (HC.out e hem wr U cu ys (hat.has.upto hbr.out.size) (hat.attrs.upto hbr.out.size));have hlen:(L.take i).length<=1000000:=by rw[List.length_take];omega
   have Htk:Hid (L.take (i+1)=L.take i++[e]):=hide (by rw[List.take_add_one,he];rfl);have Hk:Hid (∃TE k,txt e.1=TE/\e.2.length=k):=hide ⟨_,_,rfl,rfl⟩;obtain⟨TE,k,hTE,hk⟩:=Hk.out;rw[hTE] at e0;rw[hk] at e1;have Hcall2:Hid (Calls Tryz.prog 22 #[.agg #[.string TE,.slice U k cu]] wr (EntPost e wr)):=hide (by rw[<-hTE,<-hk];exact Hcall.out);have HTk:=hide (And.intro hTE hk);clear hat he hem hTE hk Hk Hcall;go_wp2_with (go_at_call 22;fail);refine Hcall2.out.mono ?_;rintro e9 w3 hpost;obtain⟨A3,c3,ys3,rfl,hc3,hm3,hh3,he3,hb3⟩:=hpost.out;rw[HTk.out.1,HTk.out.2];have HV3:=hide (And.intro hc3 (And.intro hm3 (And.intro hh3 (And.intro he3 hb3))));have hbc:=below1 w3 (.cells #[.string TE,.slice A3 k c3] 71);have hlit:=litY w3 (.string TE) (.slice A3 k c3) 71 rfl rfl;have h1c:∀u∈[Value.string TE,Value.slice A3 k c3],u.oneCell'=true:=by simp[Value.oneCell']
   have hown6:=zAc (zAc hro.out.own hb3) hbc;have hs6:w.heap.size<=(w3.alloc (.cells #[.string TE,.slice A3 k c3] 71)).heap.size:=Nat.le_trans (Nat.le_trans hbr.out.size hb3.size) hbc.size;have Hbc:=hide hbc;clear hpost hc3 hm3 hh3 he3 hb3 hbc Hcall2 e0 e1;go_wp2_with (at_builtin;go_must (refine appN _ 43 71 _ 2 40 Tryz.underlying43 infoEN rfl (by omega) (by omega) rfl (.tmp 10) (.tmp 16) rfl w.heap.size _ _ zs rfl hown6 _ _ 1 1 [.string TE,.slice A3 k c3] rfl (Has.own hlit) h1c (by omega) hs6 ?_));intro v7 w7 hown7 hb7 hg7 ht7;have HR7:Hid (RowN w7 w.heap.size 71 v7 (zs++[.string TE,.slice A3 k c3]) (L.take (i+1))):=hide (by
    rw[Htk.out]
    obtain⟨ht,hk⟩:=HTk.out
    subst ht hk
    exact hro.out.more hbr.out.size HV3.out.2.2.2.2 HV3.out.1 HV3.out.2.1 Hbc.out HV3.out.2.2.1 HV3.out.2.2.2.1 (by rw[List.length_take];exact hown7) hg7 (ht7.imp id fun h=>h.trans (by simp)))
   have HB7:=hide ((hbr.out.trans (HV3.out.2.2.2.2.mono hbr.out.size)).trans ((Hbc.out.mono (Nat.le_trans hbr.out.size HV3.out.2.2.2.2.size)).trans hb7));clear hown7 hb7 hg7 ht7 HV3 hlit h1c hown6 hs6 hlen Hbc;go_wp2
   go_roundg r
   case measure=>omega
   case rel=>exact⟨i+1,_,by omega,by go_num,HR7,HB7⟩
end Go.Proofs.YtlfglibcggphjaaGreatDoor
