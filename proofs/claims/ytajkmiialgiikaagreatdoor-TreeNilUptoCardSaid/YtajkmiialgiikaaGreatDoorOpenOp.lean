/- An argument that is a call of layer 10's scripts, opened; and what its bulk bounds. By an AI agent. -/
import Derived.Test.YtajkmiialgiikaaGreatDoorOpenChgs
set_option linter.unusedSimpArgs false
set_option linter.unusedVariables false
set_option maxRecDepth 1000000
namespace Go.Proofs.YtajkmiialgiikaaGreatDoor.Opens
open Go Go.ChangeShapes Go.WideShapes Go.ChangeAt Go.RowKit Go.Deep
theorem SmC.mono {N M:Nat} {L:List CH} (h:SmC N L) (hM:N<=M):SmC M L:=⟨Nat.le_trans h.len hM,fun a ha=>(h.each a ha).mono hM⟩
structure OpAt (W:World) (N:Nat) (v:Value) (k:Int) (s1 s2 s3:List UInt8) (b1 b2:Bool) (A:Option Addr) (c:Nat) (xs:List Value) (L:List EA) (C:Option Addr) (cc:Nat) (ys:List Value) (cs:List CH):Prop where
 is:v=.agg #[.int .i64 k,.string (txt s1),.string (txt s2),.string (txt s3),.bool b1,.bool b2,.slice A L.length c,.slice C cs.length cc]
 cap:L.length<=c/\c<=maxLen
 has:Has W W.heap.size 2 A L.length xs
 attrs:EAs W W.heap.size xs L
 sm:SmE N L
 cap2:cs.length<=cc/\cc<=maxLen
 has2:Has W W.heap.size 3 C cs.length ys
 chgs:CHs W W.heap.size ys cs
 sm2:SmC N cs
 sm3:cs.length+1<=N
 l1:s1.length<=N
 l2:s2.length<=N
 l3:s3.length<=N
theorem open_op {H:Type} {enc:TypeId × Value->H} {P:Program} {W:World} {r:Reach} {base b0:Nat} {sp:Nat->Bool} {held:Bool} {T:TypeId} {v:Value} {d:DataW H} {p:List MemPlace} {f0 f1 f2 f3 f4 f5 f6 f7:Field}
  (hT:P.underlying T=some (.struct #[f0,f1,f2,f3,f4,f5,f6,f7])) (cT:P.cellsOf T=8) (o0:f0.offset=0) (o1:f1.offset=1) (o2:f2.offset=2) (o3:f3.offset=3) (o4:f4.offset=4) (o5:f5.offset=5) (o6:f6.offset=6) (o7:f7.offset=7)
  (c0:P.cellsOf f0.type=1) (c1:P.cellsOf f1.type=1) (c2:P.cellsOf f2.type=1) (c3:P.cellsOf f3.type=1) (c4:P.cellsOf f4.type=1) (c5:P.cellsOf f5.type=1) (c6:P.cellsOf f6.type=1) (c7:P.cellsOf f7.type=1)
  (s0:P.underlying f0.type=some (.int .i64)) (s1:P.underlying f1.type=some .string) (s2:P.underlying f2.type=some .string) (s3:P.underlying f3.type=some .string) (s4:P.underlying f4.type=some .bool) (s5:P.underlying f5.type=some .bool)
  (s6:∀(n:Nat) (u:Value) (x:DataW H × List MemPlace),DataW.trod enc P W base sp held n f6.type [u]=some x->∃A c xs L,u=.slice A L.length c/\L.length<=c/\c<=maxLen/\Has W W.heap.size 2 A L.length xs/\EAs W W.heap.size xs L/\SmE (Rows.uptoBulk x.1) L)
  (s7:∀(n:Nat) (u:Value) (x:DataW H × List MemPlace),DataW.trod enc P W base sp held n f7.type [u]=some x->∃A c xs L,u=.slice A L.length c/\L.length<=c/\c<=maxLen/\Has W W.heap.size 3 A L.length xs/\CHs W W.heap.size xs L/\SmC (Rows.uptoBulk x.1) L)
  (hval:Value.okWide P W r b0 T v) (h:DataW.Trod enc P W base sp held T v d p):
  ∃k s1 s2 s3 b1 b2 A c xs L C cc ys cs,OpAt W (Rows.uptoBulk d) v k s1 s2 s3 b1 b2 A c xs L C cc ys cs:=by
 simp only[Value.okWide,hT] at hval;obtain⟨cs,rfl,_⟩:=hval;obtain⟨fuel,hf⟩:=h;obtain⟨l⟩:=cs;obtain⟨xs,m,rfl,hDx,hl,hxl,hf2⟩:=DataW.trod_struct hT hf;simp only[Value.cells] at hl hf2;rw[cT] at hl
 match l,hl with
 | [v0,v1,v2,v3,v4,v5,v6,v7],_=>
  have hx2:xs.length=8:=by simpa using hxl
  match xs,hx2 with
  | [y0,y1,y2,y3,y4,y5,y6,y7],_=>
   have q0:=hf2 0 f0 rfl;have q1:=hf2 1 f1 rfl;have q2:=hf2 2 f2 rfl;have q3:=hf2 3 f3 rfl;have q4:=hf2 4 f4 rfl;have q5:=hf2 5 f5 rfl;have q6:=hf2 6 f6 rfl;have q7:=hf2 7 f7 rfl;simp[o0,c0] at q0;simp[o1,c1] at q1;simp[o2,c2] at q2;simp[o3,c3] at q3;simp[o4,c4] at q4;simp[o5,c5] at q5;simp[o6,c6] at q6;simp[o7,c7] at q7;obtain⟨k,hk,_,_⟩:=DataW.trod_int s0 q0;obtain⟨a1,ha1,e1,_⟩:=DataW.trod_string s1 q1;obtain⟨a2,ha2,e2,_⟩:=DataW.trod_string s2 q2;obtain⟨a3,ha3,e3,_⟩:=DataW.trod_string s3 q3;obtain⟨b4,hb4,_⟩:=DataW.trod_bool s4 q4;obtain⟨b5,hb5,_⟩:=DataW.trod_bool s5 q5;obtain⟨A,c,zs,L,hv6,k1,k2,hA,hL,hs⟩:=s6 _ _ _ q6;obtain⟨C,cc,ys,cs,hv7,k3,k4,hC,hcs,hs2⟩:=s7 _ _ _ q7;simp only[List.cons.injEq,and_true] at hk ha1 ha2 ha3 hb4 hb5;subst hk ha1 ha2 ha3 hb4 hb5 hv6 hv7;have eD:d=.agg [y0.1,y1.1,y2.1,y3.1,y4.1,y5.1,y6.1,y7.1]:=by simpa using congrArg Prod.fst hDx
   have x1:y1.1=.lit (.string a1.data.toList):=by simpa using congrArg Prod.fst e1
   have x2:y2.1=.lit (.string a2.data.toList):=by simpa using congrArg Prod.fst e2
   have x3:y3.1=.lit (.string a3.data.toList):=by simpa using congrArg Prod.fst e3
   have n1:a1.data.toList.length<=Rows.uptoBulk d:=by rw[eD,x1];simp only[Rows.uptoBulk,Rows.uptoBulkAll];omega
   have n2:a2.data.toList.length<=Rows.uptoBulk d:=by rw[eD,x2];simp only[Rows.uptoBulk,Rows.uptoBulkAll];omega
   have n3:a3.data.toList.length<=Rows.uptoBulk d:=by rw[eD,x3];simp only[Rows.uptoBulk,Rows.uptoBulkAll];omega
   have n6:Rows.uptoBulk y6.1<=Rows.uptoBulk d:=by rw[eD];simp only[Rows.uptoBulk,Rows.uptoBulkAll];omega
   have n7:Rows.uptoBulk y7.1<=Rows.uptoBulk d:=by rw[eD];simp only[Rows.uptoBulk,Rows.uptoBulkAll];omega
   have n8:cs.length+1<=Rows.uptoBulk d:=by have h1:=zI2 y0.1;have h2:=hs2.len;rw[eD];simp only[Rows.uptoBulk,Rows.uptoBulkAll];omega
   exact⟨k,a1.data.toList,a2.data.toList,a3.data.toList,b4,b5,A,c,zs,L,C,cc,ys,cs,by simp only[zBw],⟨k1,k2⟩,hA,hL,hs.mono n6,⟨k3,k4⟩,hC,hcs,hs2.mono n7,n8,n1,n2,n3⟩
theorem zJb {H:Type} {enc:TypeId × Value->H} {W:World} {r:Reach} {base b0:Nat} {sp:Nat->Bool} {held:Bool} {v:Value} {d:DataW H} {p:List MemPlace}
  (hv:Value.okWide Tryz.prog W r b0 48 v) (h:DataW.Trod enc Tryz.prog W base sp held 48 v d p):
  ∃k s1 s2 s3 b1 b2 A c xs L C cc ys cs,OpAt W (Rows.uptoBulk d) v k s1 s2 s3 b1 b2 A c xs L C cc ys cs:=
 open_op Tryz.underlying48 (by kernel_rfl) rfl rfl rfl rfl rfl rfl rfl rfl (by kernel_rfl) (by kernel_rfl) (by kernel_rfl) (by kernel_rfl) (by kernel_rfl) (by kernel_rfl) (by kernel_rfl) (by kernel_rfl)
  Tryz.underlying3 Tryz.underlying9 Tryz.underlying9 Tryz.underlying9 Tryz.underlying4 Tryz.underlying4
  (fun n u x hx=>zB9 Tryz.underlying36 Tryz.underlying60 (by kernel_rfl) rfl rfl (by kernel_rfl) (by kernel_rfl) Tryz.underlying9 Tryz.underlying43 (by kernel_rfl) Tryz.underlying9 hx)
  (fun n u x hx=>zIh Tryz.underlying46 Tryz.underlying85 (by kernel_rfl) rfl rfl (by kernel_rfl) (by kernel_rfl) Tryz.underlying3 Tryz.underlying60 rfl rfl (by kernel_rfl) (by kernel_rfl) Tryz.underlying9 Tryz.underlying43 (by kernel_rfl) Tryz.underlying9 hx)
  hv h
end Go.Proofs.YtajkmiialgiikaaGreatDoor.Opens
