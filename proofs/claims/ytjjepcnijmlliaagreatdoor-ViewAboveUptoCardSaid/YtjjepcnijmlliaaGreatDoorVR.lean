/- Several texts in one: VRef, VLook. By an AI agent. -/
import Derived.Test.YtjjepcnijmlliaaGreatDoorVX
import Derived.Test.YtjjepcnijmlliaaGreatDoorOpenRules
set_option maxRecDepth 100000
set_option maxHeartbeats 32000000
namespace Go.Proofs.YtjjepcnijmlliaaGreatDoor
open Go.RowKit
set_option linter.unusedVariables false
end Go.Proofs.YtjjepcnijmlliaaGreatDoor
namespace Go.Proofs.YtjjepcnijmlliaaGreatDoor
open Go.RowKit Go.Proofs.YtjjepcnijmlliaaGreatDoor.Opens
set_option linter.unusedVariables false
def FewR (L:List Ru):Prop:=L.length≤100∧∀r∈L,r.small
theorem wrap_fit {x:Int} (h0:0≤x) (h1:x<9223372036854775808):IntKind.i64.wrap x=x:=by
 have key:IntKind.i64.wrap x=if (9223372036854775808:Int)≤x % 18446744073709551616 then x % 18446744073709551616-18446744073709551616 else x % 18446744073709551616:=by
  simp[IntKind.wrap,IntKind.signed,IntKind.bits]
 rw[key,if_neg (by omega)]
 omega
theorem fits48 {l:List UInt8} (h:FitsT l):(txt l).size≤140737488355328:=by
 unfold FitsT at h
 rw[txt_size]
 have:=reachBytes_lt
 omega
theorem few12_any (L:List Ru) (w:World) (A:Option Addr) (n c:Nat) (hA:Has w w.heap.size 5 A n (rusC L)) (hf:∀r∈L,FitsR r) (hn:n≤maxLen):
  Calls Tryz.prog 26 #[.slice A n c] w fun e w'=>e=.returned (.bool (Tr (FewR L)))∧Below w.heap.size w w':=by
 have hnl:=hA.rules_n
 obtain⟨R,hR⟩:∃R,Tr (FewR L)=R:=⟨_,rfl⟩
 rw[hR]
 unfold maxLen at hn
 have HR:=hide hR
 have HA:=hide hA
 have HF:=hide hf
 have HL:=hide hnl
 clear hA hf hnl hR
 go_enter Tryz.func26,Tryz.ntmps26
 go_wp2
 go_loopg [6] n (fun k s6 wx=>∃i:Nat,i+k=n∧s6=.int .i64 (i:Int)∧i≤100∧Hid (∀r∈L.take i,r.small)∧Below w.heap.size w wx)
 case atStart=>exact⟨0,by omega,rfl,by omega,hide fun r hr=>(by simp at hr),Below.refl _ _⟩
 case round=>
  obtain⟨i,hig,rfl,hi100,hpre,hbr⟩:=hrel
  cases gk with
  | zero=>
   obtain rfl:i=n:=by omega
   have hiz:¬((i:Int)<(i:Int)):=by omega
   have hp:=hpre.out
   rw[List.take_of_length_le (by rw[HL.out];exact Nat.le_refl _)] at hp
   have hR1:Hid (R=true):=hide (by rw[←HR.out];exact Tr_yes ⟨by rw[←HL.out];exact hi100,hp⟩)
   clear HR HA HF HL hp hpre
   go_wp2
   go_ret
   exact⟨by rw[hR1.out];rfl,hbr⟩
  | succ k=>
   have hi:i<n:=by omega
   have hiz:(i:Int)<(n:Int):=by omega
   have hi0:(0:Int)≤(i:Int):=by omega
   by_cases h100:i=100
   ·subst h100
    have hR1:Hid (R=false):=hide (by rw[←HR.out];exact Tr_no fun h=>by have:=h.1;have:=HL.out;omega)
    have z1:(100:Int)≤((100:Nat):Int):=by omega
    clear HR HA HF HL hpre
    go_wp2
    go_quiet (fail)
    go_wp2
    go_ret
    exact⟨by rw[hR1.out];rfl,Below.drewN hbr _⟩
   have z1:¬(100:Int)≤(i:Int):=by omega
   obtain⟨r,hr⟩:∃r,L[i]?=some r:=⟨_,List.getElem?_eq_getElem (by rw[←HL.out];exact hi)⟩
   obtain⟨g,o,hAe,hg,hat⟩:=HA.out.rule (fun h=>by rw[h] at hr;simp at hr)
   subst hAe
   obtain⟨c0,c1,c2,_,_⟩:=(hat i r hr).below hg hbr
   obtain⟨f0,f1,f2⟩:=HF.out r (List.mem_of_getElem? hr)
   have f0:=fits48 f0
   have f1:=fits48 f1
   have f2:=fits48 f2
   have htk:L.take (i+1)=L.take i++[r]:=by rw[List.take_add_one,hr];rfl
   have hsm:r.small↔(txt r.who).size+(txt r.tgt).size+(txt r.att).size≤3000:=by rw[txt_size,txt_size,txt_size];exact Iff.rfl
   by_cases hs:r.small
   ·have hnext:Hid (∀q∈L.take (i+1),q.small):=hide (by
     rw[htk]
     intro q hq
     rcases List.mem_append.1 hq with h | h
     ·exact hpre.out q h
     ·obtain rfl:=List.mem_singleton.1 h
      exact hs)
    rw[hsm] at hs
    generalize txt r.who=SW at *
    generalize txt r.tgt=ST at *
    generalize txt r.att=SA at *
    generalize hk0:SW.size=k0 at *
    generalize hk1:ST.size=k1 at *
    generalize hk2:SA.size=k2 at *
    have ew1:IntKind.i64.wrap ((k0:Int)+(k1:Int))=(k0:Int)+(k1:Int):=wrap_fit (by omega) (by omega)
    have ew2:IntKind.i64.wrap ((k0:Int)+(k1:Int)+(k2:Int))=(k0:Int)+(k1:Int)+(k2:Int):=wrap_fit (by omega) (by omega)
    have z2:¬(3000:Int)<(k0:Int)+(k1:Int)+(k2:Int):=by omega
    have z3:(k0:Int)+(k1:Int)≤6000:=by omega
    clear hat hr htk hpre hsm
    go_wp2
    go_quiet (fail)
    go_wp2
    go_roundg k
    case measure=>omega
    case rel=>exact⟨i+1,by omega,by go_num,by omega,hnext,Below.drewN hbr _⟩
   ·have hR1:Hid (R=false):=hide (by rw[←HR.out];exact Tr_no fun h=>hs (h.2 r (List.mem_of_getElem? hr)))
    rw[hsm] at hs
    generalize txt r.who=SW at *
    generalize txt r.tgt=ST at *
    generalize txt r.att=SA at *
    generalize hk0:SW.size=k0 at *
    generalize hk1:ST.size=k1 at *
    generalize hk2:SA.size=k2 at *
    have ew1:IntKind.i64.wrap ((k0:Int)+(k1:Int))=(k0:Int)+(k1:Int):=wrap_fit (by omega) (by omega)
    have ew2:IntKind.i64.wrap ((k0:Int)+(k1:Int)+(k2:Int))=(k0:Int)+(k1:Int)+(k2:Int):=wrap_fit (by omega) (by omega)
    have z2:(3000:Int)<(k0:Int)+(k1:Int)+(k2:Int):=by omega
    clear hat hr htk hpre hsm HR HA HF HL
    go_wp2
    go_quiet (fail)
    go_wp2
    go_ret
    exact⟨by rw[hR1.out];rfl,Below.drewN hbr _⟩
structure RulesPost (L:List Ru) (w:World) (e:Ending) (w':World):Prop where
 out:∃v,e=.returned v∧w'.ownsRow w.heap.size 58 5 v L.length (rusC L)∧Below w.heap.size w w'
theorem theirs12_any (L:List Ru) (w:World) (A:Option Addr) (n c:Nat) (hA:Has w w.heap.size 5 A n (rusC L)) (hn:n≤100000):
  Calls Tryz.prog 12 #[.slice A n c] w (RulesPost L w):=by
 have hnl:=hA.rules_n
 have HA:=hide hA
 have HL:=hide hnl
 suffices H:Calls Tryz.prog 12 #[.slice A n c] w fun e w'=>∃v,e=.returned v∧w'.ownsRow w.heap.size 58 5 v L.length (rusC L)∧Below w.heap.size w w' from H.mono fun e w' h=>⟨h⟩
 clear hA hnl
 go_enter Tryz.func12,Tryz.ntmps12
 go_wp2
 go_loopg [3,7] n (fun r s3 s7 wx=>∃i:Nat,i+r=n∧s7=.int .i64 (i:Int)∧Hid (wx.ownsRow w.heap.size 58 5 s3 i (rusC (L.take i)))∧Hid (Below w.heap.size w wx))
 case atStart=>exact⟨0,by omega,rfl,hide (by simpa[rusC] using World.ownsRow_nil _ _ _ _),hide (Below.refl _ _)⟩
 case round=>
  obtain⟨i,hig,rfl,hor,hbr⟩:=hrel
  cases gk with
  | zero=>
   obtain rfl:i=n:=by omega
   have hiz:¬((i:Int)<(i:Int)):=by omega
   have ho:=hor.out
   rw[List.take_of_length_le (by rw[HL.out];exact Nat.le_refl _)] at ho
   have Ho:Hid (wr.ownsRow w.heap.size 58 5 u3 L.length (rusC L)):=hide (by rw[←HL.out];exact ho)
   clear HA HL hor ho
   go_wp2
   go_ret
   exact⟨_,rfl,Ho.out,hbr.out⟩
  | succ r=>
   have hi:i<n:=by omega
   have hiz:(i:Int)<(n:Int):=by omega
   obtain⟨q,hq⟩:∃q,L[i]?=some q:=⟨_,List.getElem?_eq_getElem (by rw[←HL.out];exact hi)⟩
   obtain⟨g,o,hAe,hg,hat⟩:=HA.out.rule (fun h=>by rw[h] at hq;simp at hq)
   subst hAe
   obtain⟨c0,c1,c2,c3,c4⟩:=(hat i q hq).below hg hbr.out
   have htk:rusC (L.take (i+1))=rusC (L.take i)++ruC q:=by rw[List.take_add_one,hq,rusC_app];simp[rusC]
   have hone:=litR wr q 58
   have hH:=Has.own hone
   have h1c:=ruC_one q
   have hor1:=hor.out.alloc (.cells #[.string (txt q.who),.string (txt q.tgt),.string (txt q.att),.int .i64 q.rts,.bool q.alw] 58)
   have hbr1:=hbr.out.alloc hbr.out.size (.cells #[.string (txt q.who),.string (txt q.tgt),.string (txt q.att),.int .i64 q.rts,.bool q.alw] 58)
   have hs1:=hbr1.size
   have Htk:=hide htk
   generalize hcs:ruC q=cs at *
   generalize txt q.who=SW at *
   generalize txt q.tgt=ST at *
   generalize txt q.att=SA at *
   generalize q.rts=x at *
   generalize q.alw=al at *
   clear HA HL hat hq htk hone hor hbr hcs
   go_wp2_with (at_builtin;go_must (refine appRu _ 28 58 _ 5 64 Tryz.underlying28 infoR rfl (by omega) (by omega) rfl (.tmp 10) (.tmp 15) rfl w.heap.size _ i _ rfl hor1 _ _ 1 1 cs rfl hH h1c (by omega) hs1 ?_))
   intro v' w5 hor5 hb5 _
   have hO5:=hide hor5
   rw[←Htk.out] at hO5
   have hB5:=hide (hbr1.trans hb5)
   clear hor1 hbr1 hs1 hH h1c hb5 hor5 c0 c1 c2 c3 c4
   go_wp2
   go_roundg r
   case measure=>omega
   case rel=>exact⟨i+1,by omega,by go_num,hO5,hB5⟩
end Go.Proofs.YtjjepcnijmlliaaGreatDoor
