/- Several texts in one: LEnc, LEach, LWr1, LWrEach. By an AI agent. -/
import Derived.Test.YtcpjmgfloimfhaaGreatM02
import Derived.Test.YtcpjmgfloimfhaaGreatM01
import Derived.Laws.IdiomStrings
import Derived.Lib.AppendZeros
import Derived.Test.YtcpjmgfloimfhaaGreatM13
set_option linter.unusedSimpArgs false
set_option linter.unusedVariables false
set_option maxRecDepth 100000
set_option maxHeartbeats 32000000
namespace Go.Proofs.YtcpjmgfloimfhaaGreat
open Go.RowKit
namespace Wr
def enc:List Fd->List UInt8
 | []=>[]
 | f::r=>Ber.fieldOf f.1 f.2++enc r
theorem enc_app:∀F G:List Fd,enc (F++G)=enc F++enc G
 | [],G=>rfl
 | f::r,G=>by rw[List.cons_append,enc,enc,enc_app r G,List.append_assoc]
theorem enc_mem {f:Fd}:∀{F:List Fd},f∈F->f.2.length<=(enc F).length
 | a::r,h=>by
  rw[enc,List.length_append,Ber.fieldOf_length]
  rcases List.mem_cons.1 h with rfl | h
  ·omega
  ·have:=enc_mem h;omega
theorem enc_count:∀F:List Fd,F.length<=(enc F).length
 | []=>Nat.le_refl _
 | f::r=>by have:=enc_count r;rw[enc,List.length_append,Ber.fieldOf_length,List.length_cons];omega
def textF (s:List UInt8):Fd:=(4,s)
def numF (t:UInt8) (n:Int):Fd:=(t,Ber.intOfs n)
def flagF (b:Bool):Fd:=(1,[if b then 255 else 0])
def attrF (a:Atr):Fd:=(0x30,enc [textF a.1,(0x31,enc (a.2.map textF))])
def changeF (c:Int × Atr):Fd:=(0x30,enc [numF 0x0a c.1,attrF c.2])
def critF (c:Ct):List Fd:=if c.crit then [flagF true] else []
def valF (c:Ct):List Fd:=if c.hasv then [textF c.value] else []
def controlF (c:Ct):Fd:=(0x30,enc (textF c.oid::(critF c++valF c)))
def optF (t:UInt8) (s:List UInt8):List Fd:=if s=[] then [] else [(t,s)]
def anyF (s:List UInt8):Fd:=(0x81,s)
def kindTag (k:Int):UInt8:=UInt8.ofNat (160+k.toNat)
def filterG (k:Int) (a v f l:List UInt8) (an:List (List UInt8)) (ps:List Fd):Fd:=
 if k=7 then (0x87,a)
 else if k=0\/k=1\/k=2 then (kindTag k,enc ps)
 else if k=4 then (0xa4,enc [textF a,(0x30,enc (optF 0x80 f++(an.map anyF++optF 0x82 l)))])
 else (kindTag k,enc [textF a,textF v])
mutual
def filterF:FT->Fd
 | .mk k a v f l an ps=>filterG k a v f l an (filtersF ps)
def filtersF:List FT->List Fd
 | []=>[]
 | p::r=>filterF p::filtersF r
end
theorem filtersF_map:∀ps:List FT,filtersF ps=ps.map filterF
 | []=>by simp[filtersF]
 | p::r=>by rw[filtersF,filtersF_map r,List.map_cons]
def refsF (l:List (List UInt8)):List Fd:=if l=[] then [] else [(0xa3,enc (l.map textF))]
def supF (m:MT):List Fd:=if m.hassup then [(0x80,m.sup)] else []
def contentF (m:MT):List Fd:=
 if m.kind=2 then [] else if m.kind=0 then [numF 2 m.ver,textF m.name,(0x80,m.pw)]
 else if m.kind=3 then [textF m.name,numF 0x0a m.scope,numF 0x0a m.deref,numF 2 m.size,numF 2 m.time,flagF m.tonly,filterF m.filt,(0x30,enc (m.attrs.map textF))]
 else if m.kind=6 then [textF m.name,(0x30,enc (m.chs.map changeF))]
 else if m.kind=8\/m.kind=4 then [textF m.name,(0x30,enc (m.lst.map attrF))]
 else if m.kind=12 then [textF m.name,textF m.nrdn,flagF m.delold]++supF m
 else if m.kind=14 then [textF m.name,(0x30,enc [textF m.attr,textF m.value])]
 else if m.kind=19 then m.refs.map textF
 else [numF 0x0a m.code,textF m.matched,textF m.text]++refsF m.refs
def operTag (k:Int):UInt8:=if k=2\/k=10\/k=16 then UInt8.ofNat (64+(k % 256).toNat) else UInt8.ofNat (96+(k % 256).toNat)
def operF (m:MT):Fd:=(operTag m.kind,if m.kind=10 then m.name else if m.kind=16 then Ber.intOfs m.target else enc (contentF m))
def ctlsF (l:List Ct):List Fd:=if l=[] then [] else [(0xa0,enc (l.map controlF))]
def messageF (m:MT):Fd:=(0x30,enc (numF 2 m.id::operF m::ctlsF m.ctls))
def bytesW (m:MT):List UInt8:=enc [messageF m]
end Wr
open Wr
theorem take_enc (t:UInt8) (c:List UInt8) (r:List Fd):Rd.takeR t ((t,c)::r)=some (c,r):=by simp[Rd.takeR]
theorem enc_cons_le {f:Fd} {F:List Fd} {n:Nat} (h:(enc (f::F)).length<=n):f.2.length<=n/\(enc F).length<=n:=by
 rw[enc,List.length_append,Ber.fieldOf_length] at h
 omega
def okA (a:Atr):Prop:=a.1.length<=1000/\∀s∈a.2,s.length<=1000
def okH (c:Int × Atr):Prop:=0<=c.1/\c.1<=3/\okA c.2
def okC (c:Ct):Prop:=c.oid.length<=1000/\c.value.length<=1000/\(c.hasv=false->c.value=[])
end Go.Proofs.YtcpjmgfloimfhaaGreat
namespace Go.Proofs.YtcpjmgfloimfhaaGreat
open Go.RowKit
namespace Wr
def eachGo {α:Type} (f:α->List UInt8):List α->List UInt8->List UInt8
 | [],acc=>acc
 | x::r,acc=>if 16384<acc.length then acc else eachGo f r (acc++f x)
theorem eachGo_len {α:Type} {f:α->List UInt8} {K:Nat}:∀(l:List α) (a:List UInt8),(∀x∈l,(f x).length<=K)->(eachGo f l a).length<=max a.length (16384+K)
 | [],a,_=>by rw[eachGo];omega
 | x::l,a,h=>by
  rw[eachGo]
  split
  ·omega
  ·have h1:=eachGo_len l (a++f x) (fun y hy=>h y (List.mem_cons_of_mem _ hy))
   have h2:=h x (List.mem_cons_self ..)
   rw[List.length_append] at h1
   omega
end Wr
structure Row8 (w:World) (g:Nat) (l:List UInt8):Prop where
 at_:∀(j:Nat) (x:UInt8),l[j]?=some x->w.cell? ⟨g,j,none⟩=some (.int .u8 (x.toNat:Int))
 fz:∀j:Nat,j<l.length->w.frozen? ⟨g,j,none⟩=false
 lt:g<w.heap.size
theorem Row8.has {w:World} {g:Nat} {l:List UInt8} (h:Row8 w g l):Has w (g+1) 1 (some ⟨g,0,none⟩) l.length (bys l):=by
 refine⟨by rw[bys_length];omega,.inr ⟨_,rfl,by simp,fun j u hu=>?_⟩⟩
 unfold bys at hu
 rw[List.getElem?_map] at hu
 cases hx:l[j]? with
 | none=>rw[hx] at hu;cases hu
 | some x=>
  rw[hx] at hu
  obtain rfl:=Option.some.inj hu
  have:(⟨g,0,none⟩:Addr).add j=⟨g,j,none⟩:=by unfold Addr.add;split<;>simp_all
  rw[this]
  exact h.at_ j x hx
theorem run_bytes8 {P:Program} (w:World) (s:ByteArray) (src dst e:TypeId) (hs:P.underlying src=some .string) (hd:P.underlying dst=some (.slice e)) (he:P.underlying e=some (.int .u8)):
  ∃cap w',(convert src dst (.string s)).run P w=.ok (.slice (some ⟨w.heap.size,0,none⟩) s.size cap) w'/\Row8 w' w.heap.size s.data.toList/\Below w.heap.size w w':=by
 refine⟨_,_,run_bytes_of_string w src dst e s hs hd he,?_,?_⟩
 ·refine ⟨fun j x hx=>?_,fun j hj=>?_,?_⟩
  ·have hj:j<s.data.size:=by
    have:=(List.getElem?_eq_some_iff.1 hx).1
    simpa using this
   have e1:=World.cell?_alloc_mark w.drew (bytesRow s (grownCap w s.size 0 e)) e ((bytesRow s (grownCap w s.size 0 e)).size,(bytesRow s (grownCap w s.size 0 e)).size+1) j
   refine e1.trans ?_
   rw[bytesRow_at s _ j hj]
   have hx':s.data[j]=x:=by
    have:=(List.getElem?_eq_some_iff.1 hx).2
    simpa using this
   rw[hx']
  ·have hj':j<s.data.size:=by simpa using hj
   have hsz:j<(bytesRow s (grownCap w s.size 0 e)).size:=by
    rw[bytesRow,Array.size_append,Array.size_map]
    omega
   have e1:=World.frozen?_alloc_mark w.drew (bytesRow s (grownCap w s.size 0 e)) e (bytesRow s (grownCap w s.size 0 e)).size ((bytesRow s (grownCap w s.size 0 e)).size+1) j
   refine e1.trans ?_
   rw[decide_eq_false (by omega)]
   rfl
  ·simp
 ·exact (Below.refl _ w).drew.alloc (by simp) _
structure WPost (bs:List UInt8) (w:World) (e:Ending) (w':World):Prop where
 out:∃v,e=.returned v/\w'.ownsRow w.heap.size 5 1 v bs.length (bys bs)/\Below w.heap.size w w'
theorem zBb (t:UInt8) (s:List UInt8) (hs:s.length<=1073741824) (w:World):
  Calls Tryz.prog 102 #[c8 t,.string (txt s)] w (WPost (Ber.fieldOf t s) w):=by
 obtain⟨cap,w1,hrun,hR,hb⟩:=run_bytes8 (P:=Tryz.prog) w (txt s) 9 33 5 Tryz.underlying9 Tryz.underlying33 Tryz.underlying5
 rw[zBt] at hrun
 have hR:Row8 w1 w.heap.size s:=hR
 have hf:=Ber.field_any t w1 (w.heap.size+1) (some ⟨w.heap.size,0,none⟩) s.length cap s hR.has hR.lt (by omega)
 generalize hg:w.heap.size=g at *
 have Hf:=hide hf
 have Hb:=hide hb
 have Hg:=hide hg
 have hsz:=hb.size
 clear hf hb hR hg
 go_enter Tryz.func102,Tryz.ntmps102
 go_wp2_with (go_at_call 62;fail)
 refine Hf.out.mono ?_
 rintro e w2 ⟨v,rfl,hown,hb2⟩
 have hown2:w2.ownsRow g 5 1 v (Ber.fieldOf t s).length (bys (Ber.fieldOf t s)):=zAg hown (by have:=Hb.out.size;have:=Hg.out;omega)
 have HO:=hide hown2
 have HB2:=hide (Hb.out.trans (hb2.mono (by have:=Hb.out.size;have:=Hg.out;omega)))
 clear hown hown2 hb2 Hf
 go_wp2
 go_ret
 exact⟨⟨_,rfl,by rw[Hg.out];exact HO.out,by rw[Hg.out];exact HB2.out⟩⟩
theorem zA0 (s:List UInt8) (hs:s.length<=1073741824) (w:World):
  Calls Tryz.prog 101 #[.string (txt s)] w (WPost (Ber.fieldOf 4 s) w):=by
 have hf:=zBb 4 s hs w
 rw[show c8 4=.int .u8 4 from rfl] at hf
 go_enter Tryz.func101,Tryz.ntmps101
 go_wp2_with (go_at_call 102;fail)
 refine hf.mono ?_
 rintro e w2 hpost
 obtain⟨v,rfl,hown,hb2⟩:=hpost.out
 have HO:=hide hown
 have HB:=hide hb2
 clear hpost hown hb2 hf
 go_wp2
 go_ret
 exact⟨⟨_,rfl,HO.out,HB.out⟩⟩
theorem zA8 {t:UInt8} {bs:List UInt8} {w w1:World} {v:Value} (hown:w1.ownsRow w.heap.size 5 1 v bs.length (bys bs)) (hb:Below w.heap.size w w1) (hn:bs.length<=1073741824):
  Calls Tryz.prog 62 #[c8 t,v] w1 (WPost (Ber.fieldOf t bs) w):=by
 obtain⟨A,c,rfl,h1,h2⟩:=own_form hown
 refine (Ber.field_any t w1 w1.heap.size A bs.length c bs h2 (Nat.le_refl _) (by omega)).mono ?_
 rintro e w2 ⟨v,rfl,ho,hb2⟩
 exact⟨⟨v,rfl,zAg ho hb.size,hb.trans (hb2.mono hb.size)⟩⟩
theorem wnumber_any (t:UInt8) (n:Int) (h0: -9223372036854775808<=n) (h1:n<=9223372036854775807) (w:World):
  Calls Tryz.prog 61 #[c8 t,.int .i64 n] w (WPost (Ber.fieldOf t (Ber.intOfs n)) w):=by
 have hi:=Ber.int_any n w h0 h1
 have hl:=Ber.isize_le n
 have hl2:=Ber.intOfs_length n
 have hl3:(Ber.intOfs n).length<=8:=by omega
 clear hl hl2
 generalize Ber.intOfs n=c at *
 generalize hbs:Ber.fieldOf t c=bs at *
 have Hbs:=hide hbs
 clear hbs
 go_enter Tryz.func61,Tryz.ntmps61
 go_wp2_with (go_at_call 99;fail)
 refine hi.mono ?_
 rintro e w1 ⟨g,rfl,hown,hb1⟩
 have hf:=zA8 (t:=t) hown hb1 (by omega)
 rw[Hbs.out] at hf
 clear hi hown hb1 h0 h1
 go_wp2_with (go_at_call 62;fail)
 refine hf.mono ?_
 rintro e w2 hpost
 obtain⟨v,rfl,hown,hb2⟩:=hpost.out
 have HO:=hide hown
 have HB:=hide hb2
 clear hpost hown hb2 hf
 go_wp2
 go_ret
 exact⟨⟨_,rfl,HO.out,HB.out⟩⟩
theorem wflag_any (b:Bool) (w:World):
  Calls Tryz.prog 113 #[.bool b] w (WPost (Ber.fieldOf 1 [if b then 255 else 0]) w):=by
 have hi:=Ber.bool_any b w
 have hown:(w.alloc (.cells #[c8 (if b then 255 else 0)] 5)).ownsRow w.heap.size 5 1 (.slice (some ⟨w.heap.size,0,none⟩) 1 1) [if b then (255:UInt8) else 0].length (bys [if b then 255 else 0]):=by
  have:=own_lit w #[c8 (if b then 255 else 0)] 5 1 (by unfold maxLen;omega) rfl
  simpa[bys] using this
 have hb1:Below w.heap.size w (w.alloc (.cells #[c8 (if b then 255 else 0)] 5)):=(Below.refl _ w).alloc (Nat.le_refl _) _
 have hf:=zA8 (t:=1) hown hb1 (by simp)
 rw[show c8 1=.int .u8 1 from rfl] at hf
 clear hown hb1
 generalize w.alloc (.cells #[c8 (if b then 255 else 0)] 5)=w1 at *
 generalize hg:w.heap.size=g at *
 generalize Ber.fieldOf 1 [if b then 255 else 0]=bs at *
 cases b
 all_goals
  go_enter Tryz.func113,Tryz.ntmps113
  go_wp2_with (go_at_call 148;fail)
  refine hi.mono ?_
  rintro e w9 ⟨rfl,hw9⟩
  obtain rfl:=hw9.symm
  clear hi
  go_wp2_with (go_at_call 62;fail)
  refine hf.mono ?_
  rintro e w2 hpost
  obtain⟨v,rfl,hown,hb2⟩:=hpost.out
  have HO:=hide hown
  have HB:=hide hb2
  clear hpost hown hb2 hf
  go_wp2
  go_ret
  exact⟨⟨_,rfl,HO.out,HB.out⟩⟩
theorem weachT_any (g:Nat) (lb:Array Value) (eg:∀args w,(callFunc g args).run Tryz.prog w=.ok (.enter g args) w) (f:List UInt8->List UInt8) (L:List (List UInt8)) (w:World) (A:Option Addr) (n c:Nat) (hL:repL elT w (inB w) L (.slice A n c)) (hK:∀x∈L,(f x).length<=100000000)
  (hg:∀x∈L,∀W,Below w.heap.size w W->Calls Tryz.prog g (#[.string (txt x)]++lb) W (WPost (f x) W)):
  Calls Tryz.prog 110 #[.slice A n c,.func (.func g) #[] lb] w (WPost (Wr.eachGo f L []) w):=by
 obtain⟨A',c',xs,he,hl,hH,hr⟩:=hL
 cases he
 obtain⟨n,hn⟩:∃n,L.length=n:=⟨_,rfl⟩
 rw[hn] at hl hH ⊢
 have hni:(n:Int)<=9223372036854775807:=by omega
 obtain⟨R,hR⟩:∃R,Wr.eachGo f L []=R:=⟨_,rfl⟩
 rw[hR]
 have HR:=hide hR
 have HH:=hide (And.intro hH hr)
 have HN:=hide hn
 have HG:=hide hg
 have HK:=hide hK
 clear hH hr hn hg hR hK
 go_enter Tryz.func110,Tryz.ntmps110
 go_wp2
 go_loopg [5,10] n (fun r s5 s10 wx=>∃j:Nat,∃acc:List UInt8,j+r=n/\s10=.int .i64 (j:Int)/\Hid (Wr.eachGo f (L.drop j) acc=R)/\Hid (wx.ownsRow w.heap.size 5 1 s5 acc.length (bys acc))/\Hid (Below w.heap.size w wx)/\Hid (acc.length<=100016384))
 case atStart=>exact⟨0,[],by omega,rfl,HR,hide (World.ownsRow_nil _ _ _ _),hide (Below.refl _ _),hide (by simp)⟩
 case round=>
  obtain⟨j,acc,hjg,rfl,hacc,hor,hB,hal⟩:=hrel
  cases gk with
  | zero=>
   obtain rfl:j=n:=by omega
   have hjz:¬((j:Int)<(j:Int)):=by omega
   have hfin:acc=R:=by have:=hacc.out;rwa [List.drop_eq_nil_of_le (by rw[HN.out];exact Nat.le_refl _),Wr.eachGo] at this
   subst hfin
   clear HH HN HG HK HR hacc
   go_wp2
   go_ret
   exact⟨⟨_,rfl,hor.out,hB.out⟩⟩
  | succ r=>
   have hj:j<n:=by omega
   have hjz:(j:Int)<(n:Int):=by omega
   obtain⟨x,hx⟩:∃x,L[j]?=some x:=⟨_,List.getElem?_eq_getElem (by rw[HN.out];exact hj)⟩
   obtain⟨g1,o1,hDe,hg1,hparts⟩:=zBc HH.out.1 HH.out.2 (by decide) (fun h=>by rw[h] at hx;simp at hx)
   subst hDe
   obtain⟨cp,hrp,hcp⟩:=hparts j x hx
   obtain rfl:=hrp
   have k0:wr.cell? ⟨g1,o1+j,none⟩=some (.string (txt x)):=by
    have:=(hB.out.cell (p:=⟨g1,o1+j*1+0,none⟩) hg1).trans (hcp 0 _ rfl)
    simpa using this
   have hdrop:L.drop j=x::L.drop (j+1):=by
    rw[List.drop_eq_getElem_cons (by rw[HN.out];exact hj)]
    congr 1
    have:=(List.getElem?_eq_some_iff.1 hx).2
    exact this
   have ha:=hacc.out
   rw[hdrop,Wr.eachGo] at ha
   obtain⟨A5,c5,rfl,-,-⟩:=own_form hor.out
   obtain⟨a,haa⟩:∃a,acc.length=a:=⟨_,rfl⟩
   have hcall:=HG.out x (List.mem_of_getElem? hx) wr hB.out
   have hfx:=HK.out x (List.mem_of_getElem? hx)
   have hor2:=hor.out
   have hal2:=hal.out
   rw[haa] at ha hor2 hal2
   rw[haa]
   try simp only[List.append_toArray,List.cons_append,List.nil_append] at hcall
   clear HH HN HG HK HR hacc hor hparts hcp hx hdrop hal
   by_cases hlong:16384<a
   ·rw [if_pos hlong] at ha
    have hz:(16384:Int)<(a:Int):=by omega
    subst ha
    have Hor:=hide hor2
    have Haa:=hide haa
    clear hor2 haa hcall
    go_wp2
    go_ret
    exact⟨⟨_,rfl,by rw[Haa.out];exact Hor.out,hB.out⟩⟩
   ·rw [if_neg hlong] at ha
    have hz:¬((16384:Int)<(a:Int)):=by omega
    have Hor:=hide hor2
    have Ha:=hide ha
    have Haa:=hide haa
    have Hcall:=hide hcall
    clear hor2 ha haa hcall
    go_wp2_with (go_at_fn g;fail)
    refine Hcall.out.mono ?_
    rintro e w2 hpost
    obtain⟨v2,rfl,hown,hb2⟩:=hpost.out
    have HB2:=hT hB hb2
    have ho:=zAo Hor.out hb2
    have hs2:=HB2.out.size
    obtain⟨fx,hfe⟩:∃fx,f x=fx:=⟨_,rfl⟩
    rw[hfe] at hown hfx Ha
    obtain⟨m,hm⟩:∃m,fx.length=m:=⟨_,rfl⟩
    rw[hm] at hown hfx
    obtain⟨A6,c6,rfl,-,hH6⟩:=own_form hown
    obtain⟨ys,hys⟩:∃ys,acc++fx=ys:=⟨_,rfl⟩
    rw[hys] at Ha
    have Hys:=hide hys
    have hyl:Hid (a+m=ys.length):=hide (by rw[<-hys,List.length_append,Haa.out,hm])
    clear hpost hown hb2 Hcall Hor hB hfe hm hys
    go_wp2_with (at_builtin;go_must (refine app8g _ rfl (.tmp 17) (.tmp 20) rfl w.heap.size _ a acc rfl ho _ A6 m c6 fx rfl hH6 ys Hys hyl (by omega) hs2 ?_))
    intro v7 w7 hor7 hb7 _
    have HO7:=hide hor7
    have HB7:=hide (HB2.out.trans hb7)
    have hal7:Hid (ys.length<=100016384):=hide (by have:=hyl.out;omega)
    clear ho hH6 hs2 hor7 hb7 HB2 Hys hyl
    go_wp2
    go_roundg r
    case measure=>omega
    case rel=>exact⟨j+1,ys,by omega,by go_num,Ha,HO7,HB7,hal7⟩
end Go.Proofs.YtcpjmgfloimfhaaGreat
