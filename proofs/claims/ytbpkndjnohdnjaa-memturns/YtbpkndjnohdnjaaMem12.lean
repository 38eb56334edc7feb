/- Contracts: loads, stores and swaps, by the program. -/
import Derived.Test.YtbpkndjnohdnjaaMem11
namespace Go.Proofs.Ytbpkndjnohdnjaa
open Go.RowKit
set_option linter.unusedVariables false
set_option linter.unusedSimpArgs false

/-- What a swap lays. -/
def casV (x old now : Int) : Int := if x = old then now else x
theorem casV_no {x old now : Int} (h : (x == old) = false) : casV x old now = x := by unfold casV; rw [if_neg (by simpa using h)]
theorem casV_yes {x old now : Int} (h : (x == old) = true) : casV x old now = now := by unfold casV; rw [if_pos (by simpa using h)]

theorem load1 (x y : Int) (g : Nat) (w : World) (hc : w.cell? ⟨g, 0, none⟩ = some (.int .i64 y)) (hf : w.frozen? ⟨g, 0, none⟩ = false) :
    Calls Try.prog 38 #[.int .i64 x, .pointer (some ⟨g, 0, none⟩)] w fun e w' => e = .returned (.int .i64 x) ∧ w.setCell ⟨g, 0, none⟩ (.int .i64 x) = w' := by
  go_enter Try.func38, Try.ntmps38
  go_wp2
  go_ret
  exact ⟨rfl, rfl⟩

theorem store1 (x y : Int) (g : Nat) (w : World) (hc : w.cell? ⟨g, 0, none⟩ = some (.int .i64 y)) :
    Calls Try.prog 41 #[.int .i64 x, .pointer (some ⟨g, 0, none⟩)] w fun e w' => e = .returned (.int .i64 y) ∧ w = w' := by
  go_enter Try.func41, Try.ntmps41
  go_wp2
  go_ret
  exact ⟨rfl, rfl⟩

theorem cas1 (x old now : Int) (b : Bool) (g1 g2 g3 : Nat) (w : World) (h1 : w.cell? ⟨g1, 0, none⟩ = some (.int .i64 old)) (h2 : w.cell? ⟨g2, 0, none⟩ = some (.bool b)) (h3 : w.cell? ⟨g3, 0, none⟩ = some (.int .i64 now))
    (hf : w.frozen? ⟨g2, 0, none⟩ = false) (n1 : g2 ≠ g1) (n3 : g2 ≠ g3) :
    Calls Try.prog 40 #[.int .i64 x, .pointer (some ⟨g1, 0, none⟩), .pointer (some ⟨g2, 0, none⟩), .pointer (some ⟨g3, 0, none⟩)] w fun e w' => e = .returned (.int .i64 (casV x old now)) ∧ w.setCell ⟨g2, 0, none⟩ (.bool (x == old)) = w' := by
  cases t : (x == old)
  · have HC := hid (casV_no (now := now) t)
    go_enter Try.func40, Try.ntmps40
    go_wp2
    go_ret
    exact ⟨ret_int HC.out.symm, rfl⟩
  · have HC := hid (casV_yes (now := now) t)
    go_enter Try.func40, Try.ntmps40
    go_wp2
    go_ret
    exact ⟨ret_int HC.out.symm, rfl⟩

theorem set_same {xs : List Int} {k : Nat} (hk : k < xs.length) {x : Int} (h : xs.getD k 0 = x) : xs.set k x = xs := by
  rw [List.getD_eq_getElem?_getD, List.getElem?_eq_getElem hk] at h
  subst h
  simp

theorem mLoad_set {m : Ar} {k : Nat} (hk : k < m.W.length) {x : Int} (h : m.W.getD k 0 = x) : (mLoad m k).W = m.W.set k x := (set_same hk h).symm
theorem mCas_set {m : Ar} {k : Nat} (hk : k < m.W.length) {x old now : Int} (h : m.W.getD k 0 = x) : (mCas m k old now).W = m.W.set k (casV x old now) := by
  unfold mCas
  dsimp only
  rw [mIs_yes (mIn_yes (by omega) (by omega)), h, Int.toNat_natCast]
  cases t : (x == old)
  · rw [casV_no t, set_same hk h]; rfl
  · rw [casV_yes t]; rfl

theorem Row.drew {w : World} {A : Option Addr} {xs : List Int} (h : Row w A xs) : Row w.drew A xs := h.step ((Below.refl _ _).drew)

/-- The variable s holds v. -/
def CellIs (s : Nat) (v : Value) (w : World) : Prop := w.cell? ⟨s, 0, none⟩ = some v

/-- What is returned is an arena, what is below B is as it was, and besides it P. -/
def RetMemP (B : Nat) (P : World → Prop) (w : World) (m : Ar) (e : Ending) (w' : World) : Prop :=
  ∃ (A A' : Option Addr) (c c' : Nat), e = .returned (.agg #[.slice A m.W.length c, .slice A' m.G.length c', .bool m.bad]) ∧ Row w' A m.W ∧ Row w' A' m.G ∧ Below B w w' ∧ P w'
theorem RetMemP.mk {B : Nat} {P : World → Prop} {w w' : World} {m : Ar} {A A' : Option Addr} {c c' n n' : Nat} {b : Bool} (h1 : n = m.W.length) (h2 : n' = m.G.length) (h3 : b = m.bad) (r1 : Row w' A m.W) (r2 : Row w' A' m.G) (hb : Below B w w') (hp : P w') :
    RetMemP B P w m (.returned (.agg #[.slice A n c, .slice A' n' c', .bool b])) w' := by
  subst h1 h2 h3
  exact ⟨_, _, _, _, rfl, r1, r2, hb, hp⟩
end Go.Proofs.Ytbpkndjnohdnjaa
