/- Layer 5 as plain functions: slots, what is named, a step of a core. No Go text. -/
import Derived.Test.YthpflcknommpdaaKStA
import Derived.Test.YthpflcknommpdaaStk6

namespace Go.Proofs.Ythpflcknommpdaa
open Go.RowKit
set_option linter.unusedVariables false

/-- A slot's place, as it is reckoned. -/
def pPlace (i k : Int) : Int := wrap64 (8 + 3 * i + k)
theorem pPlace_bd (i k : Int) : -9223372036854775808 ≤ pPlace i k ∧ pPlace i k ≤ 9223372036854775807 := wrap64_bd _
theorem pPlace_in {i k : Int} (h0 : -1000000000000 ≤ i) (h1 : i ≤ 1000000000000) (h2 : -1000000000000 ≤ k) (h3 : k ≤ 1000000000000) : pPlace i k = 8 + 3 * i + k := by unfold pPlace wrap64; omega
/-- A word that a place of a frame may be. -/
def W64 (n : Int) : Prop := -9223372036854775808 ≤ n ∧ n ≤ 9223372036854775807

/-- A step of OProt; d: where nothing happens. -/
def pProt (s : Sy) (i : Int) (f : Fr) (d : Sy) : Sy :=
  if f.pc = 0 then
    if pIdx (mVal s.M (f.R.getD 0 0)) = 0 then pBack (syMem s (mLoad s.M (f.R.getD 0 0))) i (mVal s.M (f.R.getD 0 0)) 0
    else pSet (syMem s (mLoad s.M (f.R.getD 0 0))) i ⟨f.op, 1, f.R.set 2 (mVal s.M (f.R.getD 0 0)), f.S⟩
  else if f.pc = 1 then pSet (syMem s (mStore s.M (pPlace i (f.R.getD 1 0)) (pIdx (f.R.getD 2 0)))) i ⟨f.op, 2, f.R, f.S⟩
  else if f.pc = 2 then
    if mVal s.M (f.R.getD 0 0) = f.R.getD 2 0 ∨ pIdx (mVal s.M (f.R.getD 0 0)) = 0 then pBack (syMem s (mLoad s.M (f.R.getD 0 0))) i (mVal s.M (f.R.getD 0 0)) 0
    else pSet (syMem s (mLoad s.M (f.R.getD 0 0))) i ⟨f.op, 1, (f.R.set 3 (mVal s.M (f.R.getD 0 0))).set 2 (mVal s.M (f.R.getD 0 0)), f.S⟩
  else d
/-- A step of OClear. -/
def pClr (s : Sy) (i : Int) (f : Fr) (d : Sy) : Sy :=
  if f.pc < 0 ∨ 2 < f.pc then d
  else if f.pc = 2 then pBack (syMem s (mStore s.M (pPlace i 2) 0)) i 0 0
  else pSet (syMem s (mStore s.M (pPlace i f.pc) 0)) i ⟨f.op, f.pc + 1, f.R, f.S⟩
/-- A step of a core. -/
def pHaz (s : Sy) (i : Int) : Sy := match pTop s i with
  | none => s
  | some f => if f.op = 3 then pProt s i f s else if f.op = 4 then pClr s i f s else s

/-- A slot that tells p is come by. -/
def pNote (bs : List Bool) (p : Int) : List Bool := if 0 < p ∧ p < (bs.length : Int) then bs.set p.toNat true else bs
theorem pNote_len (bs : List Bool) (p : Int) : (pNote bs p).length = bs.length := by unfold pNote; split <;> simp
/-- Behind k slots. -/
def pNamedTo (m : Ar) : Nat → List Bool
  | 0 => List.replicate m.G.length false
  | k + 1 => pNote (pNamedTo m k) (m.W.getD (8 + k) 0)
theorem pNamedTo_len (m : Ar) : ∀ k, (pNamedTo m k).length = m.G.length
  | 0 => by simp [pNamedTo]
  | k + 1 => by simp only [pNamedTo, pNote_len]; exact pNamedTo_len m k
end Go.Proofs.Ythpflcknommpdaa

/- Contracts: slots' places, which ops these are; a step of OProt, by the program. -/
namespace Go.Proofs.Ythpflcknommpdaa
open Go.RowKit
set_option linter.unusedVariables false
set_option linter.unusedSimpArgs false

theorem wrap_pl (i k : Int) : wrap64 (wrap64 (8 + wrap64 (3 * i)) + k) = pPlace i k := by unfold pPlace wrap64; omega
theorem place_w (i k : Int) (w : World) : Calls Try.prog 9 #[.int .i64 i, .int .i64 k] w fun e w' => e = .returned (.int .i64 (pPlace i k)) ∧ w = w' := by
  go_enter Try.func9, Try.ntmps9
  go_wp2
  go_ret
  exact ⟨ret_int (wrap_pl i k), rfl⟩
theorem rplace_w (i k : Int) (w : World) : Calls Try.prog 10 #[.int .i64 i, .int .i64 k] w fun e w' => e = .returned (.int .i64 (pPlace i k)) ∧ w = w' := by
  go_enter Try.func10, Try.ntmps10
  go_wp2
  go_ret
  exact ⟨ret_int (wrap_pl i k), rfl⟩
theorem own5_any (op : Int) (w : World) : Calls Try.prog 11 #[.int .i64 op] w fun e w' => e = .returned (.bool (op == 3 || op == 4)) ∧ w = w' := by
  rcases Bool.eq_false_or_eq_true (op == 3) with h | h
  · go_enter Try.func11, Try.ntmps11
    go_wp2
    go_ret
    rw [h]
    exact ⟨rfl, rfl⟩
  · go_enter Try.func11, Try.ntmps11
    go_wp2
    go_ret
    rw [h]
    exact ⟨rfl, rfl⟩
theorem rown5_any (op : Int) (w : World) : Calls Try.prog 12 #[.int .i64 op] w fun e w' => e = .returned (.bool (op == 3 || op == 4)) ∧ w = w' := by
  rcases Bool.eq_false_or_eq_true (op == 3) with h | h
  · go_enter Try.func12, Try.ntmps12
    go_wp2
    go_ret
    rw [h]
    exact ⟨rfl, rfl⟩
  · go_enter Try.func12, Try.ntmps12
    go_wp2
    go_ret
    rw [h]
    exact ⟨rfl, rfl⟩
end Go.Proofs.Ythpflcknommpdaa
