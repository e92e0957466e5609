/- A nil tree has nothing: what the program's calls answer of it. By an AI agent. -/
import Derived.Test.YtajkmiialgiikaaGreatDoorEX
set_option linter.unusedSimpArgs false
set_option linter.unusedVariables false
set_option maxRecDepth 100000
namespace Go.Proofs.YtajkmiialgiikaaGreatDoor
open Go Go.RowKit
theorem tadd_nil (w:World) (S:ByteArray) (A:Option Addr) (n c:Nat):
  Calls Tryz.prog 24 #[.pointer none,.string S,.slice A n c] w fun e w'=>e=.returned (.int .i64 1)/\w'=w:=by
 go_enter Tryz.func24,Tryz.ntmps24;go_wp2;go_ret;exact⟨rfl,rfl⟩
theorem zKn (w:World) (S:ByteArray):
  Calls Tryz.prog 39 #[.pointer none,.string S] w fun e w'=>e=.returned (.tuple #[.int .i64 0,.int .i64 1])/\w'=w:=by
 go_enter Tryz.func39,Tryz.ntmps39;go_wp2;go_ret2;exact⟨rfl,rfl⟩
theorem tdel_nil (w:World) (S:ByteArray):
  Calls Tryz.prog 48 #[.pointer none,.string S] w fun e w'=>e=.returned (.int .i64 1)/\w'=w:=by
 go_enter Tryz.func48,Tryz.ntmps48;go_wp2_with (go_at_call 39;fail);refine (zKn w S).mono ?_;rintro e w1 ⟨rfl,hw⟩;obtain rfl:=hw.symm;clear hw;go_wp2;go_ret;exact⟨rfl,rfl⟩
theorem tmod_nil (w:World) (S:ByteArray) (A:Option Addr) (n c:Nat):
  Calls Tryz.prog 50 #[.pointer none,.string S,.slice A n c] w fun e w'=>e=.returned (.int .i64 1)/\w'=w:=by
 go_enter Tryz.func50,Tryz.ntmps50;go_wp2_with (go_at_call 39;fail);refine (zKn w S).mono ?_;rintro e w1 ⟨rfl,hw⟩;obtain rfl:=hw.symm;clear hw;go_wp2;go_ret;exact⟨rfl,rfl⟩
theorem tren_nil (w:World) (S T U:ByteArray) (b1 b2:Bool):
  Calls Tryz.prog 52 #[.pointer none,.string S,.string T,.bool b1,.string U,.bool b2] w fun e w'=>e=.returned (.int .i64 1)/\w'=w:=by
 go_enter Tryz.func52,Tryz.ntmps52;go_wp2;go_ret;exact⟨rfl,rfl⟩
theorem zHp (w:World):
  Calls Tryz.prog 21 #[.pointer none] w fun e w'=>e=.returned (.int .i64 0)/\w'=w:=by
 go_enter Tryz.func21,Tryz.ntmps21;go_wp2;go_ret;exact⟨rfl,rfl⟩
theorem zHk (w:World):
  Calls Tryz.prog 22 #[.pointer none] w fun e w'=>e=.returned (.slice none 0 0)/\w'=w:=by
 go_enter Tryz.func22,Tryz.ntmps22;go_wp2;go_ret;exact⟨rfl,rfl⟩
theorem zFr (w:World):
  Calls Tryz.prog 11 #[.pointer none] w fun e w'=>e=.returned (.pointer none)/\w'=w:=by
 go_enter Tryz.func11,Tryz.ntmps11;go_wp2;go_ret;exact⟨rfl,rfl⟩
theorem zD7 (w:World) (S:ByteArray):
  Calls Tryz.prog 17 #[.pointer none,.string S] w fun e w'=>e=.returned (.slice none 0 0)/\w'=w:=by
 go_enter Tryz.func17,Tryz.ntmps17;go_wp2;go_ret;exact⟨rfl,rfl⟩
theorem tget_nil (w:World) (S:ByteArray):
  Calls Tryz.prog 13 #[.pointer none,.string S] w fun e w'=>e=.returned (.tuple #[.agg #[.string ⟨#[]⟩,.slice none 0 0],.bool false])/\Below w.heap.size w w':=by
 have hb1:Below w.heap.size w (w.alloc (.cells #[.string ⟨#[]⟩,.slice none 0 0] 38)):=below1 w _;have hX:Blk (w.alloc (.cells #[.string ⟨#[]⟩,.slice none 0 0] 38)) w.heap.size [.string ⟨#[]⟩,.slice none 0 0]:=Blk.new w [.string ⟨#[]⟩,.slice none 0 0] 38;obtain⟨w1,hw1⟩:∃w1,w.alloc (.cells #[.string ⟨#[]⟩,.slice none 0 0] 38)=w1:=⟨_,rfl⟩;rw[hw1] at hb1 hX;have HB:=hide hb1;have HX:=hide hX;have Hw1:=hide hw1;clear hb1 hX hw1;go_enter Tryz.func13,Tryz.ntmps13;go_upto_region 1 with fail;rw[Hw1.out];obtain⟨q,hq⟩:∃q,w.heap.size=q:=⟨_,rfl⟩;have Hq:=hide hq;rw[hq] at HX;(try rw[hq]);clear hq Hw1;go_wp2_with (go_at_call 39;fail);refine (zKn _ S).mono ?_;rintro e w2 ⟨rfl,hw⟩;obtain rfl:=hw.symm;clear hw;have z0:=HX.out.cells 0 _ rfl;have z1:=HX.out.cells 1 _ rfl;have hf:=HX.out.fz;clear HX;go_wp2
 (try simp only[Exit.inBlock,Exit.then])
 refine bodyPost_ret (v:=.tuple #[.agg #[.string ⟨#[]⟩,.slice none 0 0],.bool false]) ?_ rfl ?_
 ·rw [results_cell_tmp rfl];go_simp
 exact⟨rfl,(HB.out.setCell (p:=⟨q,0,none⟩) (by rw[Hq.out];exact Nat.le_refl _) _).setCell (p:=⟨q,1,none⟩) (by rw[Hq.out];exact Nat.le_refl _) _⟩
end Go.Proofs.YtajkmiialgiikaaGreatDoor
