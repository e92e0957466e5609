/- writeFields, writeAttr. By an AI agent. -/
import Derived.Test.YtcpjmgfloimfhaaGreatLWrEachS
import Derived.Test.YtcpjmgfloimfhaaGreatLConcat
set_option linter.unusedSimpArgs false
set_option linter.unusedVariables false
set_option maxRecDepth 100000
set_option maxHeartbeats 32000000
namespace Go.Proofs.YtcpjmgfloimfhaaGreat
open Go.RowKit
theorem strs_row {w:World} {P:Nat->Prop}:∀L:List (List UInt8),rowIn elT w P L (strs L)
 | []=>rfl
 | x::r=>⟨rfl,strs_row r⟩
theorem zBn (t:UInt8) (w:World) (A:Option Addr) (n c:Nat) (L:List (List UInt8)) (hS:SLs w L A n) (hn:n<=1000) (ht:tot L<=500000000):
  Calls Tryz.prog 109 #[c8 t,.slice A n c] w (WPost (Ber.fieldOf t L.flatten) w):=by
 have he:=zA9 w A n c L hS hn (by omega)
 have hl:L.flatten.length<=500000000:=ht
 obtain⟨bs,hbs⟩:∃bs,L.flatten=bs:=⟨_,rfl⟩
 rw[hbs] at he hl ⊢
 have He:=hide he
 obtain⟨fb,hfb⟩:∃fb,Ber.fieldOf t bs=fb:=⟨_,rfl⟩
 rw[hfb]
 have Hfb:=hide hfb
 obtain⟨tt,htt⟩:∃tt,c8 t=tt:=⟨_,rfl⟩
 have Htt:=hide htt
 rw[htt]
 clear hS he hbs hfb htt ht
 go_enter Tryz.func109,Tryz.ntmps109
 go_wp2_with (go_at_call 60;fail)
 refine He.out.mono ?_
 rintro e w1 hpost
 obtain⟨v,rfl,hown,hb1⟩:=hpost.out
 have hf:=zA8 (t:=t) hown hb1 (by omega)
 rw[Hfb.out,Htt.out] at hf
 have Hf:=hide hf
 clear hpost hown hb1 hf He
 go_wp2_with (go_at_call 62;fail)
 refine Hf.out.mono ?_
 rintro e w2 hpost
 obtain⟨v,rfl,hown,hb2⟩:=hpost.out
 have HO:=hide hown
 have HB:=hide hb2
 clear hpost hown hb2 Hf
 go_wp2
 go_ret
 exact⟨⟨_,rfl,HO.out,HB.out⟩⟩
def attrW (a:Atr):List UInt8:=Ber.fieldOf 0x30 (Ber.fieldOf 4 a.1++Ber.fieldOf 0x31 (Wr.eachGo (Ber.fieldOf 4) a.2 []))
def wideA (a:Atr):Prop:=a.1.length<=2000000/\∀s∈a.2,s.length<=2000000
theorem zAk {s:List UInt8} (h:s.length<=2000000) (t:UInt8):(Ber.fieldOf t s).length<=2000010:=by rw[Ber.fieldOf_length];have:=Ber.lenOf_le (s.length:Int);omega
theorem attrW_len {a:Atr} (h:wideA a):(attrW a).length<=5000000:=by
 have h1:=zAk h.1 4
 have h2:=Wr.eachGo_len (f:=Ber.fieldOf 4) (K:=2000010) a.2 [] (fun x hx=>zAk (h.2 x hx) 4)
 simp only[List.length_nil] at h2
 unfold attrW
 have h3:=Ber.lenOf_le (((Ber.fieldOf 4 a.1++Ber.fieldOf 0x31 (Wr.eachGo (Ber.fieldOf 4) a.2 [])).length:Nat):Int)
 have h4:=Ber.lenOf_le (((Wr.eachGo (Ber.fieldOf 4) a.2 []).length:Nat):Int)
 have h5:=Ber.fieldOf_length 0x31 (Wr.eachGo (Ber.fieldOf 4) a.2 [])
 rw[Ber.fieldOf_length,List.length_append]
 rw[List.length_append] at h3
 omega
theorem wattr_any (a:Atr) (ha:wideA a) (w:World) (cs:List Value) (hr:elA.rep w (inB w) a cs):Calls Tryz.prog 107 #[.agg cs.toArray] w (WPost (attrW a) w):=by
 obtain⟨A,c,rfl,hl,hH⟩:=hr
 have hb1:Below w.heap.size w (w.alloc (.cells #[.string (txt a.1),.slice A a.2.length c] 59)):=(Below.refl _ _).alloc (Nat.le_refl _) _
 have hB1:Blk (w.alloc (.cells #[.string (txt a.1),.slice A a.2.length c] 59)) w.heap.size [.string (txt a.1),.slice A a.2.length c]:=Blk.new w [.string (txt a.1),.slice A a.2.length c] 59
 obtain⟨w1,hw1⟩:∃w1,w.alloc (.cells #[.string (txt a.1),.slice A a.2.length c] 59)=w1:=⟨_,rfl⟩
 rw[hw1] at hb1 hB1
 obtain⟨p1,hp1⟩:∃p1,w.heap.size=p1:=⟨_,rfl⟩
 rw[hp1] at hB1
 have K0:Hid (∀W,Below w1.heap.size w1 W->W.cell? ⟨p1,0,none⟩=some (.string (txt a.1))):=hide fun W hW=>(hB1.fr (Fr.of (X:=fun _=>False) hW) id).cells 0 _ rfl
 have K1:Hid (∀W,Below w1.heap.size w1 W->W.cell? ⟨p1,1,none⟩=some (.slice A a.2.length c)):=hide fun W hW=>(hB1.fr (Fr.of (X:=fun _=>False) hW) id).cells 1 _ rfl
 have HT:Hid (∀W,Calls Tryz.prog 101 #[.string (txt a.1)] W (WPost (Ber.fieldOf 4 a.1) W)):=hide fun W=>zA0 a.1 (by have:=ha.1;omega) W
 have HL:Hid (∀W,Below w1.heap.size w1 W->Calls Tryz.prog 145 #[.int .u8 49,.slice A a.2.length c,.func (.func 101) #[] #[]] W (WPost (Ber.fieldOf 49 (Wr.eachGo (Ber.fieldOf 4) a.2 [])) W)):=hide fun W hW=>by
  have hbW:=hb1.trans (hW.mono hb1.size)
  exact wlistT_any 49 101 #[] (fun args w=>by go_simp) (Ber.fieldOf 4) a.2 W A a.2.length c ⟨A,c,strs a.2,rfl,hl,HasP.move hH (fun p hp=>hbW.cell (by exact hp)) (fun k hk=>Nat.lt_of_lt_of_le hk hbW.size),strs_row a.2⟩
   (fun x hx=>by have:=zAk (ha.2 x hx) 4;omega) (fun x hx V hV=>zA0 x (by have:=ha.2 x hx;omega) V)
 have h1:=zAk ha.1 4
 have h2:=Wr.eachGo_len (f:=Ber.fieldOf 4) (K:=2000010) a.2 [] (fun x hx=>zAk (ha.2 x hx) 4)
 simp only[List.length_nil] at h2
 have h3:=Ber.fieldOf_length 49 (Wr.eachGo (Ber.fieldOf 4) a.2 [])
 have h4:=Ber.lenOf_le (((Wr.eachGo (Ber.fieldOf 4) a.2 []).length:Nat):Int)
 obtain⟨l1,hl1⟩:∃l1,Ber.fieldOf 4 a.1=l1:=⟨_,rfl⟩
 obtain⟨l2,hl2⟩:∃l2,Ber.fieldOf 49 (Wr.eachGo (Ber.fieldOf 4) a.2 [])=l2:=⟨_,rfl⟩
 obtain⟨bs,hbs⟩:∃bs,Ber.fieldOf 0x30 (l1++l2)=bs:=⟨_,rfl⟩
 have hat:attrW a=bs:=by unfold attrW;rw[hl1,hl2,hbs]
 rw[hat]
 rw[hl1] at HT h1
 rw[hl2] at HL h3
 have Hln:Hid (l1.length<=2000010/\l2.length<=2100000):=hide ⟨h1,by omega⟩
 have Hbs:=hide hbs
 have HBw:=hide hb1
 have Hw:=hide hw1
 have Hp:=hide hp1
 have HB0:Hid (Below w1.heap.size w1 w1.drew):=hide (Below.refl _ _).drew
 clear hb1 hB1 hw1 hp1 h1 h2 h3 h4 hl1 hl2 hbs hat hl hH ha
 generalize txt a.1=s0 at *
 generalize a.2.length=an at *
 go_enter Tryz.func107,Tryz.ntmps107
 go_upto_region 1 with fail
 rw[Hw.out]
 try rw[Hp.out]
 clear Hw
 refine zAs (by kernel_rfl) ?_
 generalize w1.drew=w2 at *
 refine zAa 0 (some 3) rfl rfl (by kernel_rfl) rfl (by rfl) (fun W hW=>by go_simp<;>with_reducible rfl) ?_
 simp only[pU]
 refine zAa 1 (some 4) (v:=?va1) rfl rfl (by kernel_rfl) rfl (by rfl) (fun W hW=>?ya1) ?_
 case ya1=>
  have kk:=K0.out W (HB0.out.trans (Below.mono hW HB0.out.size))
  go_simp<;>with_reducible rfl
 simp only[pU]
 refine zAa 3 (some 6) rfl rfl (by kernel_rfl) rfl (by rfl) (fun W hW=>by go_simp<;>with_reducible rfl) ?_
 simp only[pU]
 refine zAa 4 (some 7) (v:=?va4) rfl rfl (by kernel_rfl) rfl (by rfl) (fun W hW=>?ya4) ?_
 case ya4=>
  have kk:=K1.out W (HB0.out.trans (Below.mono hW HB0.out.size))
  go_simp<;>with_reducible rfl
 simp only[pU]
 refine zAc 2 rfl (by kernel_rfl) (fun K hK=>?_)
 go_simp
 refine (HT.out w2).mono ?_
 rintro e w3 hpost
 obtain⟨v1,rfl,hown,hb⟩:=hpost.out
 obtain⟨A1,c1,rfl,-,hA⟩:=own_form hown
 have HB1:=hT HB0 hb
 have HA1:=hide hA
 refine hK.out _ _ hb ?_
 clear hK K hb HB0 hpost hown hA
 try simp only[pU]
 refine zAc 5 rfl (by kernel_rfl) (fun K hK=>?_)
 go_simp
 refine (HL.out _ HB1.out).mono ?_
 rintro e w5 hpost
 obtain⟨v2,rfl,hown,hb⟩:=hpost.out
 obtain⟨A2,c2,rfl,-,hA⟩:=own_form hown
 have HB2:=hT HB1 hb
 have HA2:=hide ((HA1.out.below hb).upto hb.size)
 clear HA1
 have HD2:=hide hA
 refine hK.out _ _ hb ?_
 clear hK K hb HB1 hpost hown hA
 try simp only[pU]
 refine zAc 6 rfl (by kernel_rfl) (fun K hK=>?_)
 go_simp
 have hb:Below w5.heap.size w5 (w5.alloc (.cells #[.slice A1 l1.length c1,.slice A2 l2.length c2] 33)):=(Below.refl _ _).alloc (Nat.le_refl _) _
 have hblk:=Blk.new w5 [.slice A1 l1.length c1,.slice A2 l2.length c2] 33
 have hS:SLs (w5.alloc (.cells #[.slice A1 l1.length c1,.slice A2 l2.length c2] 33)) [l1,l2] (some ⟨w5.heap.size,0,none⟩) 2:=SLs.two (by simp) (hblk.cells 0 _ rfl) (hblk.cells 1 _ rfl) ((HA2.out.below hb).upto hb.size) ((HD2.out.below hb).upto hb.size)
 obtain⟨w6,hw6⟩:∃w6,(w5.alloc (.cells #[.slice A1 l1.length c1,.slice A2 l2.length c2] 33))=w6:=⟨_,rfl⟩
 rw[hw6] at hb hS ⊢
 clear hblk hw6
 have HB3:=hT HB2 hb
 have HS3:=hide hS
 refine hK.out _ _ hb ?_
 clear hK K hb HB2 hS HA2 HD2
 try simp only[pU]
 refine zAc 7 rfl (by kernel_rfl) (fun K hK=>?_)
 go_simp
 have hwf:=zBn 0x30 w6 _ 2 2 _ HS3.out (by omega) (by have:=Hln.out;simp[tot];omega)
 have e3:([l1,l2]:List (List UInt8)).flatten=l1++l2:=by simp
 rw[e3,Hbs.out] at hwf
 refine hwf.mono ?_
 rintro e w7 hpost
 obtain⟨v3,rfl,hown,hb⟩:=hpost.out
 have HB4:=hT HB3 hb
 have HO4:=hide hown
 have HZ4:=hide (Nat.le_trans HBw.out.size HB3.out.size)
 refine hK.out _ _ hb ?_
 clear hK K hb HB3 hpost hown HS3 e3 hwf
 try simp only[pU]
 refine zAa 8 (some 2) rfl rfl (by kernel_rfl) rfl (by rfl) (fun W hW=>by go_simp<;>with_reducible rfl) ?_
 simp only[pU]
 refine zAi (by kernel_rfl) ?_ _
 go_wp2
 go_ret
 exact⟨⟨_,rfl,zAg HO4.out HZ4.out,HBw.out.trans (HB4.out.mono HBw.out.size)⟩⟩
def changeW (a:Int × Atr):List UInt8:=Ber.fieldOf 0x30 (Ber.fieldOf 10 (Ber.intOfs a.1)++attrW a.2)
theorem changeW_len {a:Int × Atr} (h:wideA a.2):(changeW a).length<=5000100:=by
 have h1:=attrW_len h
 have h2:=Ber.fieldOf_length 10 (Ber.intOfs a.1)
 have h3:=Ber.isize_le a.1
 have h4:=Ber.intOfs_length a.1
 have h5:=Ber.lenOf_le (((Ber.intOfs a.1).length:Nat):Int)
 have h6:=Ber.lenOf_le (((Ber.fieldOf 10 (Ber.intOfs a.1)++attrW a.2).length:Nat):Int)
 unfold changeW
 rw[Ber.fieldOf_length,List.length_append]
 rw[List.length_append] at h6
 omega
theorem wchange_any (a:Int × Atr) (ha:wideA a.2) (hi: -9223372036854775808<=a.1/\a.1<=9223372036854775807) (w:World) (cs:List Value) (hr:elH.rep w (inB w) a cs):Calls Tryz.prog 105 #[.agg cs.toArray] w (WPost (changeW a) w):=by
 obtain⟨A,c,rfl,hl,hH⟩:=hr
 have hb1:Below w.heap.size w (w.alloc (.cells #[.int .i64 a.1,.string (txt a.2.1),.slice A a.2.2.length c] 61)):=(Below.refl _ _).alloc (Nat.le_refl _) _
 have hB1:Blk (w.alloc (.cells #[.int .i64 a.1,.string (txt a.2.1),.slice A a.2.2.length c] 61)) w.heap.size [.int .i64 a.1,.string (txt a.2.1),.slice A a.2.2.length c]:=Blk.new w [.int .i64 a.1,.string (txt a.2.1),.slice A a.2.2.length c] 61
 obtain⟨w1,hw1⟩:∃w1,w.alloc (.cells #[.int .i64 a.1,.string (txt a.2.1),.slice A a.2.2.length c] 61)=w1:=⟨_,rfl⟩
 rw[hw1] at hb1 hB1
 obtain⟨p1,hp1⟩:∃p1,w.heap.size=p1:=⟨_,rfl⟩
 rw[hp1] at hB1
 have K0:Hid (∀W,Below w1.heap.size w1 W->W.cell? ⟨p1,0,none⟩=some (.int .i64 a.1)):=hide fun W hW=>(hB1.fr (Fr.of (X:=fun _=>False) hW) id).cells 0 _ rfl
 have K1:Hid (∀W,Below w1.heap.size w1 W->(loadVar 59 ⟨p1,1,none⟩).run Tryz.prog W=.ok (.agg #[.string (txt a.2.1),.slice A a.2.2.length c]) W):=hide fun W hW=>by
  have hbl:=hB1.fr (Fr.of (X:=fun _=>False) hW) id
  refine run_loadVar_mid W p1 1 59 [.string (txt a.2.1),.slice A a.2.2.length c] _ (fun j u hu=>?_) Tryz.underlying59 rfl (by kernel_rfl)
  match j,hu with
  | 0,hu=>cases hu;exact hbl.cells 1 _ rfl
  | 1,hu=>cases hu;exact hbl.cells 2 _ rfl
 have HT:Hid (∀W,Calls Tryz.prog 61 #[.int .u8 10,.int .i64 a.1] W (WPost (Ber.fieldOf 10 (Ber.intOfs a.1)) W)):=hide fun W=>wnumber_any 10 a.1 hi.1 hi.2 W
 have HL:Hid (∀W,Below w1.heap.size w1 W->Calls Tryz.prog 107 #[.agg #[.string (txt a.2.1),.slice A a.2.2.length c]] W (WPost (attrW a.2) W)):=hide fun W hW=>by
  have hbW:=hb1.trans (hW.mono hb1.size)
  exact wattr_any a.2 ha W [.string (txt a.2.1),.slice A a.2.2.length c] ⟨A,c,rfl,hl,HasP.move hH (fun p hp=>hbW.cell (by exact hp)) (fun k hk=>Nat.lt_of_lt_of_le hk hbW.size)⟩
 have h1:(Ber.fieldOf 10 (Ber.intOfs a.1)).length<=20:=by have:=Ber.isize_le a.1;have:=Ber.intOfs_length a.1;have:=Ber.lenOf_le (((Ber.intOfs a.1).length:Nat):Int);rw[Ber.fieldOf_length];omega
 have h2:=attrW_len ha
 obtain⟨l1,hl1⟩:∃l1,Ber.fieldOf 10 (Ber.intOfs a.1)=l1:=⟨_,rfl⟩
 obtain⟨l2,hl2⟩:∃l2,attrW a.2=l2:=⟨_,rfl⟩
 obtain⟨bs,hbs⟩:∃bs,Ber.fieldOf 0x30 (l1++l2)=bs:=⟨_,rfl⟩
 have hat:changeW a=bs:=by unfold changeW;rw[hl1,hl2,hbs]
 rw[hat]
 rw[hl1] at HT h1
 rw[hl2] at HL h2
 have Hln:Hid (l1.length<=20/\l2.length<=5000000):=hide ⟨h1,h2⟩
 have Hbs:=hide hbs
 have HBw:=hide hb1
 have Hw:=hide hw1
 have Hp:=hide hp1
 have HB0:Hid (Below w1.heap.size w1 w1.drew):=hide (Below.refl _ _).drew
 clear hb1 hB1 hw1 hp1 h1 h2 hl1 hl2 hbs hat hl hH ha hi
 generalize txt a.2.1=s0 at *
 generalize a.2.2.length=an at *
 generalize a.1=ao at *
 go_enter Tryz.func105,Tryz.ntmps105
 go_upto_region 1 with fail
 rw[Hw.out]
 try rw[Hp.out]
 clear Hw
 refine zAs (by kernel_rfl) ?_
 generalize w1.drew=w2 at *
 refine zAa 0 (some 3) rfl rfl (by kernel_rfl) rfl (by rfl) (fun W hW=>by go_simp<;>with_reducible rfl) ?_
 simp only[pU]
 refine zAa 1 (some 4) (v:=?vh1) rfl rfl (by kernel_rfl) rfl (by rfl) (fun W hW=>?yh1) ?_
 case yh1=>
  have kk:=K0.out W (HB0.out.trans (Below.mono hW HB0.out.size))
  go_simp<;>with_reducible rfl
 simp only[pU]
 refine zAa 3 (some 6) rfl rfl (by kernel_rfl) rfl (by rfl) (fun W hW=>by go_simp<;>with_reducible rfl) ?_
 simp only[pU]
 refine zAa 4 (some 7) (v:=.agg #[.string s0,.slice A an c]) rfl rfl (by kernel_rfl) rfl (by rfl) (fun W hW=>?yh4) ?_
 case yh4=>
  exact zAd _ _ _ rfl p1 1 rfl _ (K1.out W (HB0.out.trans (Below.mono hW HB0.out.size)))
 simp only[pU]
 refine zAc 2 rfl (by kernel_rfl) (fun K hK=>?_)
 go_simp
 refine (HT.out w2).mono ?_
 rintro e w3 hpost
 obtain⟨v1,rfl,hown,hb⟩:=hpost.out
 obtain⟨A1,c1,rfl,-,hA⟩:=own_form hown
 have HB1:=hT HB0 hb
 have HA1:=hide hA
 refine hK.out _ _ hb ?_
 clear hK K hb HB0 hpost hown hA
 try simp only[pU]
 refine zAc 5 rfl (by kernel_rfl) (fun K hK=>?_)
 go_simp
 refine (HL.out _ HB1.out).mono ?_
 rintro e w5 hpost
 obtain⟨v2,rfl,hown,hb⟩:=hpost.out
 obtain⟨A2,c2,rfl,-,hA⟩:=own_form hown
 have HB2:=hT HB1 hb
 have HA2:=hide ((HA1.out.below hb).upto hb.size)
 clear HA1
 have HD2:=hide hA
 refine hK.out _ _ hb ?_
 clear hK K hb HB1 hpost hown hA
 try simp only[pU]
 refine zAc 6 rfl (by kernel_rfl) (fun K hK=>?_)
 go_simp
 have hb:Below w5.heap.size w5 (w5.alloc (.cells #[.slice A1 l1.length c1,.slice A2 l2.length c2] 33)):=(Below.refl _ _).alloc (Nat.le_refl _) _
 have hblk:=Blk.new w5 [.slice A1 l1.length c1,.slice A2 l2.length c2] 33
 have hS:SLs (w5.alloc (.cells #[.slice A1 l1.length c1,.slice A2 l2.length c2] 33)) [l1,l2] (some ⟨w5.heap.size,0,none⟩) 2:=SLs.two (by simp) (hblk.cells 0 _ rfl) (hblk.cells 1 _ rfl) ((HA2.out.below hb).upto hb.size) ((HD2.out.below hb).upto hb.size)
 obtain⟨w6,hw6⟩:∃w6,(w5.alloc (.cells #[.slice A1 l1.length c1,.slice A2 l2.length c2] 33))=w6:=⟨_,rfl⟩
 rw[hw6] at hb hS ⊢
 clear hblk hw6
 have HB3:=hT HB2 hb
 have HS3:=hide hS
 refine hK.out _ _ hb ?_
 clear hK K hb HB2 hS HA2 HD2
 try simp only[pU]
 refine zAc 7 rfl (by kernel_rfl) (fun K hK=>?_)
 go_simp
 have hwf:=zBn 0x30 w6 _ 2 2 _ HS3.out (by omega) (by have:=Hln.out;simp[tot];omega)
 have e3:([l1,l2]:List (List UInt8)).flatten=l1++l2:=by simp
 rw[e3,Hbs.out] at hwf
 refine hwf.mono ?_
 rintro e w7 hpost
 obtain⟨v3,rfl,hown,hb⟩:=hpost.out
 have HB4:=hT HB3 hb
 have HO4:=hide hown
 have HZ4:=hide (Nat.le_trans HBw.out.size HB3.out.size)
 refine hK.out _ _ hb ?_
 clear hK K hb HB3 hpost hown HS3 e3 hwf
 try simp only[pU]
 refine zAa 8 (some 2) rfl rfl (by kernel_rfl) rfl (by rfl) (fun W hW=>by go_simp<;>with_reducible rfl) ?_
 simp only[pU]
 refine zAi (by kernel_rfl) ?_ _
 go_wp2
 go_ret
 exact⟨⟨_,rfl,zAg HO4.out HZ4.out,HBw.out.trans (HB4.out.mono HBw.out.size)⟩⟩
end Go.Proofs.YtcpjmgfloimfhaaGreat
