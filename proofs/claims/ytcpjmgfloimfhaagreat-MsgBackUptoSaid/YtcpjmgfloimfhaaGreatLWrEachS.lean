/- writeEach of structs; writeList. By an AI agent. -/
import Derived.Test.YtcpjmgfloimfhaaGreatM17
import Derived.Test.YtcpjmgfloimfhaaGreatM05
import Derived.Test.YtcpjmgfloimfhaaGreatM08
set_option linter.unusedSimpArgs false
set_option linter.unusedVariables false
set_option maxRecDepth 100000
set_option maxHeartbeats 32000000
namespace Go.Proofs.YtcpjmgfloimfhaaGreat
open Go.RowKit
theorem weachA_any (g:Nat) (lb:Array Value) (eg:∀args w,(callFunc g args).run Tryz.prog w=.ok (.enter g args) w) (f:Atr->List UInt8) (L:List (Atr)) (w:World) (A:Option Addr) (n c:Nat) (hL:repL elA w (inB w) L (.slice A n c)) (hK:∀x∈L,(f x).length<=100000000)
  (hg:∀x∈L,∀(W:World) (cs:List Value),Below w.heap.size w W->elA.rep W (inB W) x cs->Calls Tryz.prog g (#[.agg cs.toArray]++lb) W (WPost (f x) W)):
  Calls Tryz.prog 147 #[.slice A n c,.func (.func g) #[] lb] w (WPost (Wr.eachGo f L []) w):=by
 obtain⟨A',c',xs,he,hl,hH,hr⟩:=hL
 cases he
 obtain⟨n,hn⟩:∃n,L.length=n:=⟨_,rfl⟩
 rw[hn] at hl hH ⊢
 have hni:(n:Int)<=9223372036854775807:=by omega
 obtain⟨R,hR⟩:∃R,Wr.eachGo f L []=R:=⟨_,rfl⟩
 rw[hR]
 have HR:=hide hR
 have HH:=hide (And.intro hH hr)
 have HN:=hide hn
 have HG:=hide hg
 have HK:=hide hK
 clear hH hr hn hg hR hK
 go_enter Tryz.func147,Tryz.ntmps147
 go_wp2
 go_loopg [5,10] n (fun r s5 s10 wx=>∃j:Nat,∃acc:List UInt8,j+r=n/\s10=.int .i64 (j:Int)/\Hid (Wr.eachGo f (L.drop j) acc=R)/\Hid (wx.ownsRow w.heap.size 5 1 s5 acc.length (bys acc))/\Hid (Below w.heap.size w wx)/\Hid (acc.length<=100016384))
 case atStart=>exact⟨0,[],by omega,rfl,HR,hide (World.ownsRow_nil _ _ _ _),hide (Below.refl _ _),hide (by simp)⟩
 case round=>
  obtain⟨j,acc,hjg,rfl,hacc,hor,hB,hal⟩:=hrel
  cases gk with
  | zero=>
   obtain rfl:j=n:=by omega
   have hjz:¬((j:Int)<(j:Int)):=by omega
   have hfin:acc=R:=by have:=hacc.out;rwa [List.drop_eq_nil_of_le (by rw[HN.out];exact Nat.le_refl _),Wr.eachGo] at this
   subst hfin
   clear HH HN HG HK HR hacc
   go_wp2
   go_ret
   exact⟨⟨_,rfl,hor.out,hB.out⟩⟩
  | succ r=>
   have hj:j<n:=by omega
   have hjz:(j:Int)<(n:Int):=by omega
   obtain⟨x,hx⟩:∃x,L[j]?=some x:=⟨_,List.getElem?_eq_getElem (by rw[HN.out];exact hj)⟩
   obtain⟨g1,o1,hDe,hg1,hparts⟩:=zBc HH.out.1 HH.out.2 (by decide) (fun h=>by rw[h] at hx;simp at hx)
   subst hDe
   obtain⟨cp,hrp,hcp⟩:=hparts j x hx
   have hrp0:=hrp
   obtain⟨xA,xc,rfl,-,-⟩:=hrp0
   have x0:wr.cell? ⟨g1,o1+j*2,none⟩=some _:=(hB.out.cell (p:=⟨g1,o1+j*2+0,none⟩) hg1).trans (hcp 0 _ rfl)
   have x1:wr.cell? ⟨g1,o1+j*2+1,none⟩=some _:=(hB.out.cell (p:=⟨g1,o1+j*2+1,none⟩) hg1).trans (hcp 1 _ rfl)
   have hr2:elA.rep wr (inB wr) x [.string (txt x.1),.slice xA x.2.length xc]:=elA.move (fun p hp=>hB.out.cell (by exact hp)) (fun k hk=>Nat.lt_of_lt_of_le hk hB.out.size) hrp
   have hbx:Blk (wr.alloc (.cells #[.string (txt x.1),.slice xA x.2.length xc] 59)) wr.heap.size [.string (txt x.1),.slice xA x.2.length xc]:=Blk.new wr [.string (txt x.1),.slice xA x.2.length xc] 59
   have hbb:Below wr.heap.size wr (wr.alloc (.cells #[.string (txt x.1),.slice xA x.2.length xc] 59)):=(Below.refl _ _).alloc (Nat.le_refl _) _
   obtain⟨wb,hwb⟩:∃wb,wr.alloc (.cells #[.string (txt x.1),.slice xA x.2.length xc] 59)=wb:=⟨_,rfl⟩
   rw[hwb] at hbx hbb
   have hr3:elA.rep wb (inB wb) x [.string (txt x.1),.slice xA x.2.length xc]:=elA.move (fun p hp=>hbb.cell (by exact hp)) (fun k hk=>Nat.lt_of_lt_of_le hk hbb.size) hr2
   have HBb:=hT hB hbb
   have Hwb:=hide hwb
   have hdrop:L.drop j=x::L.drop (j+1):=by
    rw[List.drop_eq_getElem_cons (by rw[HN.out];exact hj)]
    congr 1
    have:=(List.getElem?_eq_some_iff.1 hx).2
    exact this
   have ha:=hacc.out
   rw[hdrop,Wr.eachGo] at ha
   obtain⟨A5,c5,rfl,-,-⟩:=own_form hor.out
   obtain⟨a,haa⟩:∃a,acc.length=a:=⟨_,rfl⟩
   have hcall:=HG.out x (List.mem_of_getElem? hx) wb _ HBb.out hr3
   have hfx:=HK.out x (List.mem_of_getElem? hx)
   have hor2:=zAo hor.out hbb
   have hal2:=hal.out
   rw[haa] at ha hor2 hal2
   rw[haa]
   try simp only[List.append_toArray,List.cons_append,List.nil_append] at hcall
   have hBw:=hB
   obtain⟨fx,hfe⟩:∃fx,f x=fx:=⟨_,rfl⟩
   rw[hfe] at hfx hcall ha
   have b0:=hbx.cells 0 _ rfl
   have b1:=hbx.cells 1 _ rfl
   clear HH HN HG HK HR hacc hor hparts hcp hx hdrop hal hrp hr2 hr3 hbx hbb hwb hfe
   generalize txt x.1=s0 at *
   generalize x.2.length=xn at *
   by_cases hlong:16384<a
   ·rw [if_pos hlong] at ha
    have hz:(16384:Int)<(a:Int):=by omega
    subst ha
    have Hor:=hide hor2
    have Haa:=hide haa
    clear hor2 haa hcall b0 b1
    go_upto_region 5 with fail
    rw[Hwb.out]
    clear x0 x1 Hwb
    go_wp2
    go_ret
    exact⟨⟨_,rfl,by rw[Haa.out];exact Hor.out,HBb.out⟩⟩
   ·rw [if_neg hlong] at ha
    have hz:¬((16384:Int)<(a:Int)):=by omega
    have Hor:=hide hor2
    have Ha:=hide ha
    have Haa:=hide haa
    have Hcall:=hide hcall
    clear hor2 ha haa hcall
    go_upto_region 5 with fail
    rw[Hwb.out]
    clear x0 x1 Hwb
    go_wp2_with (go_at_fn g;fail)
    refine Hcall.out.mono ?_
    rintro e w2 hpost
    obtain⟨v2,rfl,hown,hb2⟩:=hpost.out
    have HB2:=hT HBb hb2
    have ho:=zAo Hor.out hb2
    have hs2:=HB2.out.size
    obtain⟨m,hm⟩:∃m,fx.length=m:=⟨_,rfl⟩
    rw[hm] at hown hfx
    obtain⟨A6,c6,rfl,-,hH6⟩:=own_form hown
    obtain⟨ys,hys⟩:∃ys,acc++fx=ys:=⟨_,rfl⟩
    rw[hys] at Ha
    have Hys:=hide hys
    have hyl:Hid (a+m=ys.length):=hide (by rw[<-hys,List.length_append,Haa.out,hm])
    clear hpost hown hb2 Hcall Hor hB hBw hm hys b0 b1 HBb
    go_wp2_with (at_builtin;go_must (refine app8g _ rfl (.tmp 17) (.tmp 20) rfl w.heap.size _ a acc rfl ho _ A6 m c6 fx rfl hH6 ys Hys hyl (by omega) hs2 ?_))
    intro v7 w7 hor7 hb7 _
    have HO7:=hide hor7
    have HB7:=hide (HB2.out.trans hb7)
    have hal7:Hid (ys.length<=100016384):=hide (by have:=hyl.out;omega)
    clear ho hH6 hs2 hor7 hb7 HB2 Hys hyl
    go_wp2
    go_roundg r
    case measure=>omega
    case rel=>exact⟨j+1,ys,by omega,by go_num,Ha,HO7,HB7,hal7⟩
theorem weachH_any (g:Nat) (lb:Array Value) (eg:∀args w,(callFunc g args).run Tryz.prog w=.ok (.enter g args) w) (f:Int × Atr->List UInt8) (L:List (Int × Atr)) (w:World) (A:Option Addr) (n c:Nat) (hL:repL elH w (inB w) L (.slice A n c)) (hK:∀x∈L,(f x).length<=100000000)
  (hg:∀x∈L,∀(W:World) (cs:List Value),Below w.heap.size w W->elH.rep W (inB W) x cs->Calls Tryz.prog g (#[.agg cs.toArray]++lb) W (WPost (f x) W)):
  Calls Tryz.prog 146 #[.slice A n c,.func (.func g) #[] lb] w (WPost (Wr.eachGo f L []) w):=by
 obtain⟨A',c',xs,he,hl,hH,hr⟩:=hL
 cases he
 obtain⟨n,hn⟩:∃n,L.length=n:=⟨_,rfl⟩
 rw[hn] at hl hH ⊢
 have hni:(n:Int)<=9223372036854775807:=by omega
 obtain⟨R,hR⟩:∃R,Wr.eachGo f L []=R:=⟨_,rfl⟩
 rw[hR]
 have HR:=hide hR
 have HH:=hide (And.intro hH hr)
 have HN:=hide hn
 have HG:=hide hg
 have HK:=hide hK
 clear hH hr hn hg hR hK
 go_enter Tryz.func146,Tryz.ntmps146
 go_wp2
 go_loopg [5,10] n (fun r s5 s10 wx=>∃j:Nat,∃acc:List UInt8,j+r=n/\s10=.int .i64 (j:Int)/\Hid (Wr.eachGo f (L.drop j) acc=R)/\Hid (wx.ownsRow w.heap.size 5 1 s5 acc.length (bys acc))/\Hid (Below w.heap.size w wx)/\Hid (acc.length<=100016384))
 case atStart=>exact⟨0,[],by omega,rfl,HR,hide (World.ownsRow_nil _ _ _ _),hide (Below.refl _ _),hide (by simp)⟩
 case round=>
  obtain⟨j,acc,hjg,rfl,hacc,hor,hB,hal⟩:=hrel
  cases gk with
  | zero=>
   obtain rfl:j=n:=by omega
   have hjz:¬((j:Int)<(j:Int)):=by omega
   have hfin:acc=R:=by have:=hacc.out;rwa [List.drop_eq_nil_of_le (by rw[HN.out];exact Nat.le_refl _),Wr.eachGo] at this
   subst hfin
   clear HH HN HG HK HR hacc
   go_wp2
   go_ret
   exact⟨⟨_,rfl,hor.out,hB.out⟩⟩
  | succ r=>
   have hj:j<n:=by omega
   have hjz:(j:Int)<(n:Int):=by omega
   obtain⟨x,hx⟩:∃x,L[j]?=some x:=⟨_,List.getElem?_eq_getElem (by rw[HN.out];exact hj)⟩
   obtain⟨g1,o1,hDe,hg1,hparts⟩:=zBc HH.out.1 HH.out.2 (by decide) (fun h=>by rw[h] at hx;simp at hx)
   subst hDe
   obtain⟨cp,hrp,hcp⟩:=hparts j x hx
   have hrp0:=hrp
   obtain⟨xA,xc,rfl,-,-⟩:=hrp0
   have x0:wr.cell? ⟨g1,o1+j*3,none⟩=some _:=(hB.out.cell (p:=⟨g1,o1+j*3+0,none⟩) hg1).trans (hcp 0 _ rfl)
   have x1:wr.cell? ⟨g1,o1+j*3+1,none⟩=some _:=(hB.out.cell (p:=⟨g1,o1+j*3+1,none⟩) hg1).trans (hcp 1 _ rfl)
   have x2:wr.cell? ⟨g1,o1+j*3+2,none⟩=some _:=(hB.out.cell (p:=⟨g1,o1+j*3+2,none⟩) hg1).trans (hcp 2 _ rfl)
   have hr2:elH.rep wr (inB wr) x [.int .i64 x.1,.string (txt x.2.1),.slice xA x.2.2.length xc]:=elH.move (fun p hp=>hB.out.cell (by exact hp)) (fun k hk=>Nat.lt_of_lt_of_le hk hB.out.size) hrp
   have hbx:Blk (wr.alloc (.cells #[.int .i64 x.1,.string (txt x.2.1),.slice xA x.2.2.length xc] 61)) wr.heap.size [.int .i64 x.1,.string (txt x.2.1),.slice xA x.2.2.length xc]:=Blk.new wr [.int .i64 x.1,.string (txt x.2.1),.slice xA x.2.2.length xc] 61
   have hbb:Below wr.heap.size wr (wr.alloc (.cells #[.int .i64 x.1,.string (txt x.2.1),.slice xA x.2.2.length xc] 61)):=(Below.refl _ _).alloc (Nat.le_refl _) _
   obtain⟨wb,hwb⟩:∃wb,wr.alloc (.cells #[.int .i64 x.1,.string (txt x.2.1),.slice xA x.2.2.length xc] 61)=wb:=⟨_,rfl⟩
   rw[hwb] at hbx hbb
   have hr3:elH.rep wb (inB wb) x [.int .i64 x.1,.string (txt x.2.1),.slice xA x.2.2.length xc]:=elH.move (fun p hp=>hbb.cell (by exact hp)) (fun k hk=>Nat.lt_of_lt_of_le hk hbb.size) hr2
   have HBb:=hT hB hbb
   have Hwb:=hide hwb
   have hdrop:L.drop j=x::L.drop (j+1):=by
    rw[List.drop_eq_getElem_cons (by rw[HN.out];exact hj)]
    congr 1
    have:=(List.getElem?_eq_some_iff.1 hx).2
    exact this
   have ha:=hacc.out
   rw[hdrop,Wr.eachGo] at ha
   obtain⟨A5,c5,rfl,-,-⟩:=own_form hor.out
   obtain⟨a,haa⟩:∃a,acc.length=a:=⟨_,rfl⟩
   have hcall:=HG.out x (List.mem_of_getElem? hx) wb _ HBb.out hr3
   have hfx:=HK.out x (List.mem_of_getElem? hx)
   have hor2:=zAo hor.out hbb
   have hal2:=hal.out
   rw[haa] at ha hor2 hal2
   rw[haa]
   try simp only[List.append_toArray,List.cons_append,List.nil_append] at hcall
   have hBw:=hB
   obtain⟨fx,hfe⟩:∃fx,f x=fx:=⟨_,rfl⟩
   rw[hfe] at hfx hcall ha
   have b0:=hbx.cells 0 _ rfl
   have b1:=hbx.cells 1 _ rfl
   have b2:=hbx.cells 2 _ rfl
   clear HH HN HG HK HR hacc hor hparts hcp hx hdrop hal hrp hr2 hr3 hbx hbb hwb hfe
   generalize txt x.2.1=s0 at *
   generalize x.2.2.length=xn at *
   generalize x.1=xo at *
   by_cases hlong:16384<a
   ·rw [if_pos hlong] at ha
    have hz:(16384:Int)<(a:Int):=by omega
    subst ha
    have Hor:=hide hor2
    have Haa:=hide haa
    clear hor2 haa hcall b0 b1 b2
    go_upto_region 5 with fail
    rw[Hwb.out]
    clear x0 x1 x2 Hwb
    go_wp2
    go_ret
    exact⟨⟨_,rfl,by rw[Haa.out];exact Hor.out,HBb.out⟩⟩
   ·rw [if_neg hlong] at ha
    have hz:¬((16384:Int)<(a:Int)):=by omega
    have Hor:=hide hor2
    have Ha:=hide ha
    have Haa:=hide haa
    have Hcall:=hide hcall
    clear hor2 ha haa hcall
    go_upto_region 5 with fail
    rw[Hwb.out]
    clear x0 x1 x2 Hwb
    go_wp2_with (go_at_fn g;fail)
    refine Hcall.out.mono ?_
    rintro e w2 hpost
    obtain⟨v2,rfl,hown,hb2⟩:=hpost.out
    have HB2:=hT HBb hb2
    have ho:=zAo Hor.out hb2
    have hs2:=HB2.out.size
    obtain⟨m,hm⟩:∃m,fx.length=m:=⟨_,rfl⟩
    rw[hm] at hown hfx
    obtain⟨A6,c6,rfl,-,hH6⟩:=own_form hown
    obtain⟨ys,hys⟩:∃ys,acc++fx=ys:=⟨_,rfl⟩
    rw[hys] at Ha
    have Hys:=hide hys
    have hyl:Hid (a+m=ys.length):=hide (by rw[<-hys,List.length_append,Haa.out,hm])
    clear hpost hown hb2 Hcall Hor hB hBw hm hys b0 b1 b2 HBb
    go_wp2_with (at_builtin;go_must (refine app8g _ rfl (.tmp 17) (.tmp 20) rfl w.heap.size _ a acc rfl ho _ A6 m c6 fx rfl hH6 ys Hys hyl (by omega) hs2 ?_))
    intro v7 w7 hor7 hb7 _
    have HO7:=hide hor7
    have HB7:=hide (HB2.out.trans hb7)
    have hal7:Hid (ys.length<=100016384):=hide (by have:=hyl.out;omega)
    clear ho hH6 hs2 hor7 hb7 HB2 Hys hyl
    go_wp2
    go_roundg r
    case measure=>omega
    case rel=>exact⟨j+1,ys,by omega,by go_num,Ha,HO7,HB7,hal7⟩
theorem weachC_any (g:Nat) (lb:Array Value) (eg:∀args w,(callFunc g args).run Tryz.prog w=.ok (.enter g args) w) (f:Ct->List UInt8) (L:List (Ct)) (w:World) (A:Option Addr) (n c:Nat) (hL:repL elC w (inB w) L (.slice A n c)) (hK:∀x∈L,(f x).length<=100000000)
  (hg:∀x∈L,∀(W:World) (cs:List Value),Below w.heap.size w W->elC.rep W (inB W) x cs->Calls Tryz.prog g (#[.agg cs.toArray]++lb) W (WPost (f x) W)):
  Calls Tryz.prog 112 #[.slice A n c,.func (.func g) #[] lb] w (WPost (Wr.eachGo f L []) w):=by
 obtain⟨A',c',xs,he,hl,hH,hr⟩:=hL
 cases he
 obtain⟨n,hn⟩:∃n,L.length=n:=⟨_,rfl⟩
 rw[hn] at hl hH ⊢
 have hni:(n:Int)<=9223372036854775807:=by omega
 obtain⟨R,hR⟩:∃R,Wr.eachGo f L []=R:=⟨_,rfl⟩
 rw[hR]
 have HR:=hide hR
 have HH:=hide (And.intro hH hr)
 have HN:=hide hn
 have HG:=hide hg
 have HK:=hide hK
 clear hH hr hn hg hR hK
 go_enter Tryz.func112,Tryz.ntmps112
 go_wp2
 go_loopg [5,10] n (fun r s5 s10 wx=>∃j:Nat,∃acc:List UInt8,j+r=n/\s10=.int .i64 (j:Int)/\Hid (Wr.eachGo f (L.drop j) acc=R)/\Hid (wx.ownsRow w.heap.size 5 1 s5 acc.length (bys acc))/\Hid (Below w.heap.size w wx)/\Hid (acc.length<=100016384))
 case atStart=>exact⟨0,[],by omega,rfl,HR,hide (World.ownsRow_nil _ _ _ _),hide (Below.refl _ _),hide (by simp)⟩
 case round=>
  obtain⟨j,acc,hjg,rfl,hacc,hor,hB,hal⟩:=hrel
  cases gk with
  | zero=>
   obtain rfl:j=n:=by omega
   have hjz:¬((j:Int)<(j:Int)):=by omega
   have hfin:acc=R:=by have:=hacc.out;rwa [List.drop_eq_nil_of_le (by rw[HN.out];exact Nat.le_refl _),Wr.eachGo] at this
   subst hfin
   clear HH HN HG HK HR hacc
   go_wp2
   go_ret
   exact⟨⟨_,rfl,hor.out,hB.out⟩⟩
  | succ r=>
   have hj:j<n:=by omega
   have hjz:(j:Int)<(n:Int):=by omega
   obtain⟨x,hx⟩:∃x,L[j]?=some x:=⟨_,List.getElem?_eq_getElem (by rw[HN.out];exact hj)⟩
   obtain⟨g1,o1,hDe,hg1,hparts⟩:=zBc HH.out.1 HH.out.2 (by decide) (fun h=>by rw[h] at hx;simp at hx)
   subst hDe
   obtain⟨cp,hrp,hcp⟩:=hparts j x hx
   have hrp0:=hrp
   obtain rfl:=hrp0
   have x0:wr.cell? ⟨g1,o1+j*4,none⟩=some _:=(hB.out.cell (p:=⟨g1,o1+j*4+0,none⟩) hg1).trans (hcp 0 _ rfl)
   have x1:wr.cell? ⟨g1,o1+j*4+1,none⟩=some _:=(hB.out.cell (p:=⟨g1,o1+j*4+1,none⟩) hg1).trans (hcp 1 _ rfl)
   have x2:wr.cell? ⟨g1,o1+j*4+2,none⟩=some _:=(hB.out.cell (p:=⟨g1,o1+j*4+2,none⟩) hg1).trans (hcp 2 _ rfl)
   have x3:wr.cell? ⟨g1,o1+j*4+3,none⟩=some _:=(hB.out.cell (p:=⟨g1,o1+j*4+3,none⟩) hg1).trans (hcp 3 _ rfl)
   have hr2:elC.rep wr (inB wr) x [.string (txt x.oid),.bool x.crit,.bool x.hasv,.string (txt x.value)]:=elC.move (fun p hp=>hB.out.cell (by exact hp)) (fun k hk=>Nat.lt_of_lt_of_le hk hB.out.size) hrp
   have hbx:Blk (wr.alloc (.cells #[.string (txt x.oid),.bool x.crit,.bool x.hasv,.string (txt x.value)] 67)) wr.heap.size [.string (txt x.oid),.bool x.crit,.bool x.hasv,.string (txt x.value)]:=Blk.new wr [.string (txt x.oid),.bool x.crit,.bool x.hasv,.string (txt x.value)] 67
   have hbb:Below wr.heap.size wr (wr.alloc (.cells #[.string (txt x.oid),.bool x.crit,.bool x.hasv,.string (txt x.value)] 67)):=(Below.refl _ _).alloc (Nat.le_refl _) _
   obtain⟨wb,hwb⟩:∃wb,wr.alloc (.cells #[.string (txt x.oid),.bool x.crit,.bool x.hasv,.string (txt x.value)] 67)=wb:=⟨_,rfl⟩
   rw[hwb] at hbx hbb
   have hr3:elC.rep wb (inB wb) x [.string (txt x.oid),.bool x.crit,.bool x.hasv,.string (txt x.value)]:=elC.move (fun p hp=>hbb.cell (by exact hp)) (fun k hk=>Nat.lt_of_lt_of_le hk hbb.size) hr2
   have HBb:=hT hB hbb
   have Hwb:=hide hwb
   have hdrop:L.drop j=x::L.drop (j+1):=by
    rw[List.drop_eq_getElem_cons (by rw[HN.out];exact hj)]
    congr 1
    have:=(List.getElem?_eq_some_iff.1 hx).2
    exact this
   have ha:=hacc.out
   rw[hdrop,Wr.eachGo] at ha
   obtain⟨A5,c5,rfl,-,-⟩:=own_form hor.out
   obtain⟨a,haa⟩:∃a,acc.length=a:=⟨_,rfl⟩
   have hcall:=HG.out x (List.mem_of_getElem? hx) wb _ HBb.out hr3
   have hfx:=HK.out x (List.mem_of_getElem? hx)
   have hor2:=zAo hor.out hbb
   have hal2:=hal.out
   rw[haa] at ha hor2 hal2
   rw[haa]
   try simp only[List.append_toArray,List.cons_append,List.nil_append] at hcall
   have hBw:=hB
   obtain⟨fx,hfe⟩:∃fx,f x=fx:=⟨_,rfl⟩
   rw[hfe] at hfx hcall ha
   have b0:=hbx.cells 0 _ rfl
   have b1:=hbx.cells 1 _ rfl
   have b2:=hbx.cells 2 _ rfl
   have b3:=hbx.cells 3 _ rfl
   clear HH HN HG HK HR hacc hor hparts hcp hx hdrop hal hrp hr2 hr3 hbx hbb hwb hfe
   generalize txt x.oid=s0 at *
   generalize txt x.value=s1 at *
   generalize x.crit=q0 at *
   generalize x.hasv=q1 at *
   by_cases hlong:16384<a
   ·rw [if_pos hlong] at ha
    have hz:(16384:Int)<(a:Int):=by omega
    subst ha
    have Hor:=hide hor2
    have Haa:=hide haa
    clear hor2 haa hcall b0 b1 b2 b3
    go_upto_region 5 with fail
    rw[Hwb.out]
    clear x0 x1 x2 x3 Hwb
    go_wp2
    go_ret
    exact⟨⟨_,rfl,by rw[Haa.out];exact Hor.out,HBb.out⟩⟩
   ·rw [if_neg hlong] at ha
    have hz:¬((16384:Int)<(a:Int)):=by omega
    have Hor:=hide hor2
    have Ha:=hide ha
    have Haa:=hide haa
    have Hcall:=hide hcall
    clear hor2 ha haa hcall
    go_upto_region 5 with fail
    rw[Hwb.out]
    clear x0 x1 x2 x3 Hwb
    go_wp2_with (go_at_fn g;fail)
    refine Hcall.out.mono ?_
    rintro e w2 hpost
    obtain⟨v2,rfl,hown,hb2⟩:=hpost.out
    have HB2:=hT HBb hb2
    have ho:=zAo Hor.out hb2
    have hs2:=HB2.out.size
    obtain⟨m,hm⟩:∃m,fx.length=m:=⟨_,rfl⟩
    rw[hm] at hown hfx
    obtain⟨A6,c6,rfl,-,hH6⟩:=own_form hown
    obtain⟨ys,hys⟩:∃ys,acc++fx=ys:=⟨_,rfl⟩
    rw[hys] at Ha
    have Hys:=hide hys
    have hyl:Hid (a+m=ys.length):=hide (by rw[<-hys,List.length_append,Haa.out,hm])
    clear hpost hown hb2 Hcall Hor hB hBw hm hys b0 b1 b2 b3 HBb
    go_wp2_with (at_builtin;go_must (refine app8g _ rfl (.tmp 17) (.tmp 20) rfl w.heap.size _ a acc rfl ho _ A6 m c6 fx rfl hH6 ys Hys hyl (by omega) hs2 ?_))
    intro v7 w7 hor7 hb7 _
    have HO7:=hide hor7
    have HB7:=hide (HB2.out.trans hb7)
    have hal7:Hid (ys.length<=100016384):=hide (by have:=hyl.out;omega)
    clear ho hH6 hs2 hor7 hb7 HB2 Hys hyl
    go_wp2
    go_roundg r
    case measure=>omega
    case rel=>exact⟨j+1,ys,by omega,by go_num,Ha,HO7,HB7,hal7⟩
theorem weachF_any (g:Nat) (lb:Array Value) (eg:∀args w,(callFunc g args).run Tryz.prog w=.ok (.enter g args) w) (f:FT->List UInt8) (L:List (FT)) (w:World) (A:Option Addr) (n c:Nat) (hL:repL elF w (inB w) L (.slice A n c)) (hK:∀x∈L,(f x).length<=100000000)
  (hg:∀x∈L,∀(W:World) (cs:List Value),Below w.heap.size w W->elF.rep W (inB W) x cs->Calls Tryz.prog g (#[.agg cs.toArray]++lb) W (WPost (f x) W)):
  Calls Tryz.prog 179 #[.slice A n c,.func (.func g) #[] lb] w (WPost (Wr.eachGo f L []) w):=by
 obtain⟨A',c',xs,he,hl,hH,hr⟩:=hL
 cases he
 obtain⟨n,hn⟩:∃n,L.length=n:=⟨_,rfl⟩
 rw[hn] at hl hH ⊢
 have hni:(n:Int)<=9223372036854775807:=by omega
 obtain⟨R,hR⟩:∃R,Wr.eachGo f L []=R:=⟨_,rfl⟩
 rw[hR]
 have HR:=hide hR
 have HH:=hide (And.intro hH hr)
 have HN:=hide hn
 have HG:=hide hg
 have HK:=hide hK
 clear hH hr hn hg hR hK
 go_enter Tryz.func179,Tryz.ntmps179
 go_wp2
 go_loopg [5,10] n (fun r s5 s10 wx=>∃j:Nat,∃acc:List UInt8,j+r=n/\s10=.int .i64 (j:Int)/\Hid (Wr.eachGo f (L.drop j) acc=R)/\Hid (wx.ownsRow w.heap.size 5 1 s5 acc.length (bys acc))/\Hid (Below w.heap.size w wx)/\Hid (acc.length<=100016384))
 case atStart=>exact⟨0,[],by omega,rfl,HR,hide (World.ownsRow_nil _ _ _ _),hide (Below.refl _ _),hide (by simp)⟩
 case round=>
  obtain⟨j,acc,hjg,rfl,hacc,hor,hB,hal⟩:=hrel
  cases gk with
  | zero=>
   obtain rfl:j=n:=by omega
   have hjz:¬((j:Int)<(j:Int)):=by omega
   have hfin:acc=R:=by have:=hacc.out;rwa [List.drop_eq_nil_of_le (by rw[HN.out];exact Nat.le_refl _),Wr.eachGo] at this
   subst hfin
   clear HH HN HG HK HR hacc
   go_wp2
   go_ret
   exact⟨⟨_,rfl,hor.out,hB.out⟩⟩
  | succ r=>
   have hj:j<n:=by omega
   have hjz:(j:Int)<(n:Int):=by omega
   obtain⟨x,hx⟩:∃x,L[j]?=some x:=⟨_,List.getElem?_eq_getElem (by rw[HN.out];exact hj)⟩
   obtain⟨g1,o1,hDe,hg1,hparts⟩:=zBc HH.out.1 HH.out.2 (by decide) (fun h=>by rw[h] at hx;simp at hx)
   subst hDe
   obtain⟨cp,hrp,hcp⟩:=hparts j x hx
   have hrp0:=hrp
   have hl7:=elF.len hrp0
   obtain⟨y0,y1,y2,y3,y4,y5,y6,rfl⟩:=seven hl7
   obtain⟨pk,pa,pv,pf,pl,pA,pm,pc,pD,pn,pd,rfl,rfl,rfl,rfl,rfl,rfl,rfl⟩:=(FInP.fin (B:=w.heap.size) (fun k hk=>hk) hrp0).shape
   have x0:wr.cell? ⟨g1,o1+j*7,none⟩=some _:=(hB.out.cell (p:=⟨g1,o1+j*7+0,none⟩) hg1).trans (hcp 0 _ rfl)
   have x1:wr.cell? ⟨g1,o1+j*7+1,none⟩=some _:=(hB.out.cell (p:=⟨g1,o1+j*7+1,none⟩) hg1).trans (hcp 1 _ rfl)
   have x2:wr.cell? ⟨g1,o1+j*7+2,none⟩=some _:=(hB.out.cell (p:=⟨g1,o1+j*7+2,none⟩) hg1).trans (hcp 2 _ rfl)
   have x3:wr.cell? ⟨g1,o1+j*7+3,none⟩=some _:=(hB.out.cell (p:=⟨g1,o1+j*7+3,none⟩) hg1).trans (hcp 3 _ rfl)
   have x4:wr.cell? ⟨g1,o1+j*7+4,none⟩=some _:=(hB.out.cell (p:=⟨g1,o1+j*7+4,none⟩) hg1).trans (hcp 4 _ rfl)
   have x5:wr.cell? ⟨g1,o1+j*7+5,none⟩=some _:=(hB.out.cell (p:=⟨g1,o1+j*7+5,none⟩) hg1).trans (hcp 5 _ rfl)
   have x6:wr.cell? ⟨g1,o1+j*7+6,none⟩=some _:=(hB.out.cell (p:=⟨g1,o1+j*7+6,none⟩) hg1).trans (hcp 6 _ rfl)
   have hr2:elF.rep wr (inB wr) x [.int .i64 pk,.string pa,.string pv,.string pf,.string pl,.slice pA pm pc,.slice pD pn pd]:=elF.move (fun p hp=>hB.out.cell (by exact hp)) (fun k hk=>Nat.lt_of_lt_of_le hk hB.out.size) hrp
   have hbx:Blk (wr.alloc (.cells #[.int .i64 pk,.string pa,.string pv,.string pf,.string pl,.slice pA pm pc,.slice pD pn pd] 39)) wr.heap.size [.int .i64 pk,.string pa,.string pv,.string pf,.string pl,.slice pA pm pc,.slice pD pn pd]:=Blk.new wr [.int .i64 pk,.string pa,.string pv,.string pf,.string pl,.slice pA pm pc,.slice pD pn pd] 39
   have hbb:Below wr.heap.size wr (wr.alloc (.cells #[.int .i64 pk,.string pa,.string pv,.string pf,.string pl,.slice pA pm pc,.slice pD pn pd] 39)):=(Below.refl _ _).alloc (Nat.le_refl _) _
   obtain⟨wb,hwb⟩:∃wb,wr.alloc (.cells #[.int .i64 pk,.string pa,.string pv,.string pf,.string pl,.slice pA pm pc,.slice pD pn pd] 39)=wb:=⟨_,rfl⟩
   rw[hwb] at hbx hbb
   have hr3:elF.rep wb (inB wb) x [.int .i64 pk,.string pa,.string pv,.string pf,.string pl,.slice pA pm pc,.slice pD pn pd]:=elF.move (fun p hp=>hbb.cell (by exact hp)) (fun k hk=>Nat.lt_of_lt_of_le hk hbb.size) hr2
   have HBb:=hT hB hbb
   have Hwb:=hide hwb
   have hdrop:L.drop j=x::L.drop (j+1):=by
    rw[List.drop_eq_getElem_cons (by rw[HN.out];exact hj)]
    congr 1
    have:=(List.getElem?_eq_some_iff.1 hx).2
    exact this
   have ha:=hacc.out
   rw[hdrop,Wr.eachGo] at ha
   obtain⟨A5,c5,rfl,-,-⟩:=own_form hor.out
   obtain⟨a,haa⟩:∃a,acc.length=a:=⟨_,rfl⟩
   have hcall:=HG.out x (List.mem_of_getElem? hx) wb _ HBb.out hr3
   have hfx:=HK.out x (List.mem_of_getElem? hx)
   have hor2:=zAo hor.out hbb
   have hal2:=hal.out
   rw[haa] at ha hor2 hal2
   rw[haa]
   try simp only[List.append_toArray,List.cons_append,List.nil_append] at hcall
   have hBw:=hB
   obtain⟨fx,hfe⟩:∃fx,f x=fx:=⟨_,rfl⟩
   rw[hfe] at hfx hcall ha
   have b0:=hbx.cells 0 _ rfl
   have b1:=hbx.cells 1 _ rfl
   have b2:=hbx.cells 2 _ rfl
   have b3:=hbx.cells 3 _ rfl
   have b4:=hbx.cells 4 _ rfl
   have b5:=hbx.cells 5 _ rfl
   have b6:=hbx.cells 6 _ rfl
   clear HH HN HG HK HR hacc hor hparts hcp hx hdrop hal hrp hr2 hr3 hbx hbb hwb hfe
   by_cases hlong:16384<a
   ·rw [if_pos hlong] at ha
    have hz:(16384:Int)<(a:Int):=by omega
    subst ha
    have Hor:=hide hor2
    have Haa:=hide haa
    clear hor2 haa hcall b0 b1 b2 b3 b4 b5 b6
    go_upto_region 5 with fail
    rw[Hwb.out]
    clear x0 x1 x2 x3 x4 x5 x6 Hwb
    go_wp2
    go_ret
    exact⟨⟨_,rfl,by rw[Haa.out];exact Hor.out,HBb.out⟩⟩
   ·rw [if_neg hlong] at ha
    have hz:¬((16384:Int)<(a:Int)):=by omega
    have Hor:=hide hor2
    have Ha:=hide ha
    have Haa:=hide haa
    have Hcall:=hide hcall
    clear hor2 ha haa hcall
    go_upto_region 5 with fail
    rw[Hwb.out]
    clear x0 x1 x2 x3 x4 x5 x6 Hwb
    go_wp2_with (go_at_fn g;fail)
    refine Hcall.out.mono ?_
    rintro e w2 hpost
    obtain⟨v2,rfl,hown,hb2⟩:=hpost.out
    have HB2:=hT HBb hb2
    have ho:=zAo Hor.out hb2
    have hs2:=HB2.out.size
    obtain⟨m,hm⟩:∃m,fx.length=m:=⟨_,rfl⟩
    rw[hm] at hown hfx
    obtain⟨A6,c6,rfl,-,hH6⟩:=own_form hown
    obtain⟨ys,hys⟩:∃ys,acc++fx=ys:=⟨_,rfl⟩
    rw[hys] at Ha
    have Hys:=hide hys
    have hyl:Hid (a+m=ys.length):=hide (by rw[<-hys,List.length_append,Haa.out,hm])
    clear hpost hown hb2 Hcall Hor hB hBw hm hys b0 b1 b2 b3 b4 b5 b6 HBb
    go_wp2_with (at_builtin;go_must (refine app8g _ rfl (.tmp 17) (.tmp 20) rfl w.heap.size _ a acc rfl ho _ A6 m c6 fx rfl hH6 ys Hys hyl (by omega) hs2 ?_))
    intro v7 w7 hor7 hb7 _
    have HO7:=hide hor7
    have HB7:=hide (HB2.out.trans hb7)
    have hal7:Hid (ys.length<=100016384):=hide (by have:=hyl.out;omega)
    clear ho hH6 hs2 hor7 hb7 HB2 Hys hyl
    go_wp2
    go_roundg r
    case measure=>omega
    case rel=>exact⟨j+1,ys,by omega,by go_num,Ha,HO7,HB7,hal7⟩
theorem wlistT_any (t:UInt8) (g:Nat) (lb:Array Value) (eg:∀args w,(callFunc g args).run Tryz.prog w=.ok (.enter g args) w) (f:List UInt8->List UInt8) (L:List (List UInt8)) (w:World) (A:Option Addr) (n c:Nat) (hL:repL elT w (inB w) L (.slice A n c)) (hK:∀x∈L,(f x).length<=100000000)
  (hg:∀x∈L,∀W,Below w.heap.size w W->Calls Tryz.prog g (#[.string (txt x)]++lb) W (WPost (f x) W)):
  Calls Tryz.prog 145 #[c8 t,.slice A n c,.func (.func g) #[] lb] w (WPost (Ber.fieldOf t (Wr.eachGo f L [])) w):=by
 have he:=weachT_any g lb eg f L w A n c hL hK hg
 have hl:=Wr.eachGo_len L [] hK
 simp only[List.length_nil] at hl
 obtain⟨bs,hbs⟩:∃bs,Wr.eachGo f L []=bs:=⟨_,rfl⟩
 rw[hbs] at he hl ⊢
 have He:=hide he
 obtain⟨fb,hfb⟩:∃fb,Ber.fieldOf t bs=fb:=⟨_,rfl⟩
 rw[hfb]
 have Hfb:=hide hfb
 obtain⟨tt,htt⟩:∃tt,c8 t=tt:=⟨_,rfl⟩
 have Htt:=hide htt
 rw[htt]
 clear hL hK hg he hbs hfb htt
 go_enter Tryz.func145,Tryz.ntmps145
 go_wp2_with (go_at_call 110;fail)
 refine He.out.mono ?_
 rintro e w1 hpost
 obtain⟨v,rfl,hown,hb1⟩:=hpost.out
 have hf:=zA8 (t:=t) hown hb1 (by omega)
 rw[Hfb.out,Htt.out] at hf
 have Hf:=hide hf
 clear hpost hown hb1 hf He
 go_wp2_with (go_at_call 62;fail)
 refine Hf.out.mono ?_
 rintro e w2 hpost
 obtain⟨v,rfl,hown,hb2⟩:=hpost.out
 have HO:=hide hown
 have HB:=hide hb2
 clear hpost hown hb2 Hf
 go_wp2
 go_ret
 exact⟨⟨_,rfl,HO.out,HB.out⟩⟩
theorem wlistA_any (t:UInt8) (g:Nat) (lb:Array Value) (eg:∀args w,(callFunc g args).run Tryz.prog w=.ok (.enter g args) w) (f:Atr->List UInt8) (L:List (Atr)) (w:World) (A:Option Addr) (n c:Nat) (hL:repL elA w (inB w) L (.slice A n c)) (hK:∀x∈L,(f x).length<=100000000)
  (hg:∀x∈L,∀(W:World) (cs:List Value),Below w.heap.size w W->elA.rep W (inB W) x cs->Calls Tryz.prog g (#[.agg cs.toArray]++lb) W (WPost (f x) W)):
  Calls Tryz.prog 106 #[c8 t,.slice A n c,.func (.func g) #[] lb] w (WPost (Ber.fieldOf t (Wr.eachGo f L [])) w):=by
 have he:=weachA_any g lb eg f L w A n c hL hK hg
 have hl:=Wr.eachGo_len L [] hK
 simp only[List.length_nil] at hl
 obtain⟨bs,hbs⟩:∃bs,Wr.eachGo f L []=bs:=⟨_,rfl⟩
 rw[hbs] at he hl ⊢
 have He:=hide he
 obtain⟨fb,hfb⟩:∃fb,Ber.fieldOf t bs=fb:=⟨_,rfl⟩
 rw[hfb]
 have Hfb:=hide hfb
 obtain⟨tt,htt⟩:∃tt,c8 t=tt:=⟨_,rfl⟩
 have Htt:=hide htt
 rw[htt]
 clear hL hK hg he hbs hfb htt
 go_enter Tryz.func106,Tryz.ntmps106
 go_wp2_with (go_at_call 147;fail)
 refine He.out.mono ?_
 rintro e w1 hpost
 obtain⟨v,rfl,hown,hb1⟩:=hpost.out
 have hf:=zA8 (t:=t) hown hb1 (by omega)
 rw[Hfb.out,Htt.out] at hf
 have Hf:=hide hf
 clear hpost hown hb1 hf He
 go_wp2_with (go_at_call 62;fail)
 refine Hf.out.mono ?_
 rintro e w2 hpost
 obtain⟨v,rfl,hown,hb2⟩:=hpost.out
 have HO:=hide hown
 have HB:=hide hb2
 clear hpost hown hb2 Hf
 go_wp2
 go_ret
 exact⟨⟨_,rfl,HO.out,HB.out⟩⟩
theorem wlistH_any (t:UInt8) (g:Nat) (lb:Array Value) (eg:∀args w,(callFunc g args).run Tryz.prog w=.ok (.enter g args) w) (f:Int × Atr->List UInt8) (L:List (Int × Atr)) (w:World) (A:Option Addr) (n c:Nat) (hL:repL elH w (inB w) L (.slice A n c)) (hK:∀x∈L,(f x).length<=100000000)
  (hg:∀x∈L,∀(W:World) (cs:List Value),Below w.heap.size w W->elH.rep W (inB W) x cs->Calls Tryz.prog g (#[.agg cs.toArray]++lb) W (WPost (f x) W)):
  Calls Tryz.prog 104 #[c8 t,.slice A n c,.func (.func g) #[] lb] w (WPost (Ber.fieldOf t (Wr.eachGo f L [])) w):=by
 have he:=weachH_any g lb eg f L w A n c hL hK hg
 have hl:=Wr.eachGo_len L [] hK
 simp only[List.length_nil] at hl
 obtain⟨bs,hbs⟩:∃bs,Wr.eachGo f L []=bs:=⟨_,rfl⟩
 rw[hbs] at he hl ⊢
 have He:=hide he
 obtain⟨fb,hfb⟩:∃fb,Ber.fieldOf t bs=fb:=⟨_,rfl⟩
 rw[hfb]
 have Hfb:=hide hfb
 obtain⟨tt,htt⟩:∃tt,c8 t=tt:=⟨_,rfl⟩
 have Htt:=hide htt
 rw[htt]
 clear hL hK hg he hbs hfb htt
 go_enter Tryz.func104,Tryz.ntmps104
 go_wp2_with (go_at_call 146;fail)
 refine He.out.mono ?_
 rintro e w1 hpost
 obtain⟨v,rfl,hown,hb1⟩:=hpost.out
 have hf:=zA8 (t:=t) hown hb1 (by omega)
 rw[Hfb.out,Htt.out] at hf
 have Hf:=hide hf
 clear hpost hown hb1 hf He
 go_wp2_with (go_at_call 62;fail)
 refine Hf.out.mono ?_
 rintro e w2 hpost
 obtain⟨v,rfl,hown,hb2⟩:=hpost.out
 have HO:=hide hown
 have HB:=hide hb2
 clear hpost hown hb2 Hf
 go_wp2
 go_ret
 exact⟨⟨_,rfl,HO.out,HB.out⟩⟩
theorem wlistC_any (t:UInt8) (g:Nat) (lb:Array Value) (eg:∀args w,(callFunc g args).run Tryz.prog w=.ok (.enter g args) w) (f:Ct->List UInt8) (L:List (Ct)) (w:World) (A:Option Addr) (n c:Nat) (hL:repL elC w (inB w) L (.slice A n c)) (hK:∀x∈L,(f x).length<=100000000)
  (hg:∀x∈L,∀(W:World) (cs:List Value),Below w.heap.size w W->elC.rep W (inB W) x cs->Calls Tryz.prog g (#[.agg cs.toArray]++lb) W (WPost (f x) W)):
  Calls Tryz.prog 65 #[c8 t,.slice A n c,.func (.func g) #[] lb] w (WPost (Ber.fieldOf t (Wr.eachGo f L [])) w):=by
 have he:=weachC_any g lb eg f L w A n c hL hK hg
 have hl:=Wr.eachGo_len L [] hK
 simp only[List.length_nil] at hl
 obtain⟨bs,hbs⟩:∃bs,Wr.eachGo f L []=bs:=⟨_,rfl⟩
 rw[hbs] at he hl ⊢
 have He:=hide he
 obtain⟨fb,hfb⟩:∃fb,Ber.fieldOf t bs=fb:=⟨_,rfl⟩
 rw[hfb]
 have Hfb:=hide hfb
 obtain⟨tt,htt⟩:∃tt,c8 t=tt:=⟨_,rfl⟩
 have Htt:=hide htt
 rw[htt]
 clear hL hK hg he hbs hfb htt
 go_enter Tryz.func65,Tryz.ntmps65
 go_wp2_with (go_at_call 112;fail)
 refine He.out.mono ?_
 rintro e w1 hpost
 obtain⟨v,rfl,hown,hb1⟩:=hpost.out
 have hf:=zA8 (t:=t) hown hb1 (by omega)
 rw[Hfb.out,Htt.out] at hf
 have Hf:=hide hf
 clear hpost hown hb1 hf He
 go_wp2_with (go_at_call 62;fail)
 refine Hf.out.mono ?_
 rintro e w2 hpost
 obtain⟨v,rfl,hown,hb2⟩:=hpost.out
 have HO:=hide hown
 have HB:=hide hb2
 clear hpost hown hb2 Hf
 go_wp2
 go_ret
 exact⟨⟨_,rfl,HO.out,HB.out⟩⟩
theorem wlistF_any (t:UInt8) (g:Nat) (lb:Array Value) (eg:∀args w,(callFunc g args).run Tryz.prog w=.ok (.enter g args) w) (f:FT->List UInt8) (L:List (FT)) (w:World) (A:Option Addr) (n c:Nat) (hL:repL elF w (inB w) L (.slice A n c)) (hK:∀x∈L,(f x).length<=100000000)
  (hg:∀x∈L,∀(W:World) (cs:List Value),Below w.heap.size w W->elF.rep W (inB W) x cs->Calls Tryz.prog g (#[.agg cs.toArray]++lb) W (WPost (f x) W)):
  Calls Tryz.prog 168 #[c8 t,.slice A n c,.func (.func g) #[] lb] w (WPost (Ber.fieldOf t (Wr.eachGo f L [])) w):=by
 have he:=weachF_any g lb eg f L w A n c hL hK hg
 have hl:=Wr.eachGo_len L [] hK
 simp only[List.length_nil] at hl
 obtain⟨bs,hbs⟩:∃bs,Wr.eachGo f L []=bs:=⟨_,rfl⟩
 rw[hbs] at he hl ⊢
 have He:=hide he
 obtain⟨fb,hfb⟩:∃fb,Ber.fieldOf t bs=fb:=⟨_,rfl⟩
 rw[hfb]
 have Hfb:=hide hfb
 obtain⟨tt,htt⟩:∃tt,c8 t=tt:=⟨_,rfl⟩
 have Htt:=hide htt
 rw[htt]
 clear hL hK hg he hbs hfb htt
 go_enter Tryz.func168,Tryz.ntmps168
 go_wp2_with (go_at_call 179;fail)
 refine He.out.mono ?_
 rintro e w1 hpost
 obtain⟨v,rfl,hown,hb1⟩:=hpost.out
 have hf:=zA8 (t:=t) hown hb1 (by omega)
 rw[Hfb.out,Htt.out] at hf
 have Hf:=hide hf
 clear hpost hown hb1 hf He
 go_wp2_with (go_at_call 62;fail)
 refine Hf.out.mono ?_
 rintro e w2 hpost
 obtain⟨v,rfl,hown,hb2⟩:=hpost.out
 have HO:=hide hown
 have HB:=hide hb2
 clear hpost hown hb2 Hf
 go_wp2
 go_ret
 exact⟨⟨_,rfl,HO.out,HB.out⟩⟩
end Go.Proofs.YtcpjmgfloimfhaaGreat
