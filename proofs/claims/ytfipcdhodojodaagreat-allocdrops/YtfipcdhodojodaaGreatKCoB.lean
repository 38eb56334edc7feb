/- Contracts of the document's answers for layer 3: frames that are the same. -/
import Derived.Test.YtfipcdhodojodaaGreatKCoA
import Derived.Test.YtfipcdhodojodaaGreatKBas
import Derived.Deep.RegionHeld3
import Derived.Deep.CutRange
namespace Go.Proofs.YtfipcdhodojodaaGreat
open Go.RowKit
set_option maxHeartbeats 4000000
set_option linter.unusedVariables false
set_option linter.unusedSimpArgs false
set_option linter.unusedVariables false
set_option linter.unusedSimpArgs false
set_option linter.unusedSectionVars false
section
variable {α:Type} [DecidableEq α]
end
set_option linter.unusedVariables false
set_option linter.unusedSimpArgs false
end Go.Proofs.YtfipcdhodojodaaGreat
namespace Go.Proofs.YtfipcdhodojodaaGreat
open Go.RowKit
set_option linter.unusedVariables false
set_option linter.unusedSimpArgs false
set_option linter.unusedVariables false
set_option linter.unusedSimpArgs false
end Go.Proofs.YtfipcdhodojodaaGreat
namespace Go.Proofs.YtfipcdhodojodaaGreat
open Go.RowKit
set_option linter.unusedVariables false
set_option linter.unusedSimpArgs false
theorem rtop_out (A B AC AL:Option Addr) (c d cC cL:Nat) (s:Sy) (i:Int) (w:World) (h2:s.C.length≤1000000) (hi:i < 0 ∨ (s.C.length:Int)≤i) :
  Calls Tryz.prog 39 #[.agg (uS A B AC AL c d cC cL s),.int .i64 i] w fun e w'=>e = .returned (.tuple #[.agg #[.int .i64 0,.int .i64 0,.int .i64 0,.int .i64 0,.int .i64 0,.int .i64 0,.int .i64 0,.int .i64 0,.int .i64 0,.int .i64 0,.slice none 0 0],.bool false])∧Below w.heap.size w w':=by
 rcases hi with hi | hi
 ·go_enter Tryz.func39,Tryz.ntmps39
  go_wp2
  refine bodyPost_ret (v:=.tuple #[.agg #[.int .i64 0,.int .i64 0,.int .i64 0,.int .i64 0,.int .i64 0,.int .i64 0,.int .i64 0,.int .i64 0,.int .i64 0,.int .i64 0,.slice none 0 0],.bool false]) (by simp [results,Tryz.results39,go_sem]) rfl ?_
  refine ⟨rfl,?_⟩
  exact bstep (boxed _ _) (boxed _ _)
 ·have hp:¬ i < 0:=by omega
  go_enter Tryz.func39,Tryz.ntmps39
  go_wp2
  refine bodyPost_ret (v:=.tuple #[.agg #[.int .i64 0,.int .i64 0,.int .i64 0,.int .i64 0,.int .i64 0,.int .i64 0,.int .i64 0,.int .i64 0,.int .i64 0,.int .i64 0,.slice none 0 0],.bool false]) (by simp [results,Tryz.results39,go_sem]) rfl ?_
  refine ⟨rfl,?_⟩
  exact bstep (boxed _ _) (boxed _ _)
theorem rtop_none (A B AC AL:Option Addr) (c d cC cL:Nat) (s:Sy) (k:Nat) (x:Co) (w:World) (hC:RowC w AC s.C) (h2:s.C.length≤1000000) (hx:s.C[k]? = some x) (hF:x.F.length = 0) :
  Calls Tryz.prog 39 #[.agg (uS A B AC AL c d cC cL s),.int .i64 k] w fun e w'=>e = .returned (.tuple #[.agg #[.int .i64 0,.int .i64 0,.int .i64 0,.int .i64 0,.int .i64 0,.int .i64 0,.int .i64 0,.int .i64 0,.int .i64 0,.int .i64 0,.slice none 0 0],.bool false])∧Below w.heap.size w w':=by
 have hlt:k < s.C.length:=(List.getElem?_eq_some_iff.1 hx).1
 obtain ⟨b,o,rfl,hbl,hat⟩:=hC (by omega)
 obtain ⟨⟨AF,cF,c0,rF,_⟩,c1,c2,c3,c4,c5,AR,cR,c6,rR⟩:=hat k x hx
 rw [hF] at c0
 have hbn:b ≠ w.heap.size:=by omega
 clear hat hx hF
 go_enter Tryz.func39,Tryz.ntmps39
 go_wp2
 refine bodyPost_ret (v:=.tuple #[.agg #[.int .i64 0,.int .i64 0,.int .i64 0,.int .i64 0,.int .i64 0,.int .i64 0,.int .i64 0,.int .i64 0,.int .i64 0,.int .i64 0,.slice none 0 0],.bool false]) (by simp [results,Tryz.results39,go_sem]) rfl ?_
 refine ⟨rfl,?_⟩
 exact bstep (boxed _ _) (boxed _ _)
theorem rtop_yes (A B AC AL:Option Addr) (c d cC cL:Nat) (s:Sy) (k n:Nat) (x:Co) (op pc r0 r1 r2 r3 r4 r5 r6 r7:Int) (xs:List Int) (w:World) (hC:RowC w AC s.C) (h2:s.C.length≤1000000) (hx:s.C[k]? = some x) (hn:x.F.length = n+1) (h3:n≤1000000) (hf:x.F[n]? = some ⟨op,pc,[r0,r1,r2,r3,r4,r5,r6,r7],xs⟩) :
  Calls Tryz.prog 39 #[.agg (uS A B AC AL c d cC cL s),.int .i64 k] w fun e w'=>∃ AS cS,e = .returned (.tuple #[.agg (uF op pc r0 r1 r2 r3 r4 r5 r6 r7 AS xs cS),.bool true])∧Row w AS xs∧Below w.heap.size w w':=by
 have hlt:k < s.C.length:=(List.getElem?_eq_some_iff.1 hx).1
 obtain ⟨b,o,rfl,hbl,hat⟩:=hC (by omega)
 obtain ⟨⟨AF,cF,c0,rF,_⟩,c1,c2,c3,c4,c5,AR,cR,c6,rR⟩:=hat k x hx
 obtain ⟨b1,o1,rfl,hb1,hat1⟩:=rF (by omega)
 obtain ⟨e1,u0,u1,ur,AS,cS,u10,rS⟩:=hat1 n _ hf
 dsimp only at u0 u1 ur u10 rS
 have u2:w.cell? ⟨b1,o1+n * 11+2,none⟩ = some (.int .i64 r0):=ur 0 (by omega)
 have u3:w.cell? ⟨b1,o1+n * 11+3,none⟩ = some (.int .i64 r1):=ur 1 (by omega)
 have u4:w.cell? ⟨b1,o1+n * 11+4,none⟩ = some (.int .i64 r2):=ur 2 (by omega)
 have u5:w.cell? ⟨b1,o1+n * 11+5,none⟩ = some (.int .i64 r3):=ur 3 (by omega)
 have u6:w.cell? ⟨b1,o1+n * 11+6,none⟩ = some (.int .i64 r4):=ur 4 (by omega)
 have u7:w.cell? ⟨b1,o1+n * 11+7,none⟩ = some (.int .i64 r5):=ur 5 (by omega)
 have u8:w.cell? ⟨b1,o1+n * 11+8,none⟩ = some (.int .i64 r6):=ur 6 (by omega)
 have u9:w.cell? ⟨b1,o1+n * 11+9,none⟩ = some (.int .i64 r7):=ur 7 (by omega)
 rw [hn] at c0
 have hbn:b ≠ w.heap.size:=by omega
 have hbn1:b1 ≠ w.heap.size:=by omega
 have hne:((n:Int)+1 == 0) = false:=by simp;omega
 clear hat hat1 hx hf ur e1 rF hn
 go_enter Tryz.func39,Tryz.ntmps39
 go_wp2
 go_region
 all_goals go_wp2
 refine bodyPost_ret (v:=.tuple #[.agg (uF op pc r0 r1 r2 r3 r4 r5 r6 r7 AS xs cS),.bool true]) (by simp [results,Tryz.results39,go_sem]) rfl ?_
 refine ⟨AS,cS,rfl,rS,?_⟩
 first
  | exact (bstep (boxed _ _) (boxed _ _)).drew
  | exact bdrewN (bstep (boxed _ _) (boxed _ _)) _
end Go.Proofs.YtfipcdhodojodaaGreat
