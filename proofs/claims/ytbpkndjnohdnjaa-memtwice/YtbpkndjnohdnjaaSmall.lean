/- Small facts on arenas. No Go text but the walks' frames. -/
import Derived.Test.YtbpkndjnohdnjaaVars
namespace Go.Proofs.Ytbpkndjnohdnjaa
open Go.RowKit
set_option linter.unusedVariables false
set_option linter.unusedSimpArgs false

theorem Vr.at_ {w : World} {b b' : Nat} {m : Ar} {A A' : Option Addr} {c c' : Nat} (e : b = b') (h : Vr w b m A A' c c') : Vr w b' m A A' c c' := by
  subst e
  exact h
theorem mSame_refl (m : Ar) : mSame m m = true := by simp [mSame, mInts]
theorem lens_load (m : Ar) (p : Int) (h1 : m.W.length ≤ 1000000) (h2 : m.G.length ≤ 1000000) : (mLoad m p).W.length ≤ 1000000000 ∧ (mLoad m p).G.length ≤ 1000000000 := by
  unfold mLoad; exact ⟨by dsimp only; omega, by dsimp only; omega⟩
theorem lens_store (m : Ar) (p v : Int) (h1 : m.W.length ≤ 1000000) (h2 : m.G.length ≤ 1000000) : (mStore m p v).W.length ≤ 1000000000 ∧ (mStore m p v).G.length ≤ 1000000000 := by
  unfold mStore
  refine ⟨?_, by dsimp only; omega⟩
  dsimp only
  split <;> (try rw [List.length_set]) <;> omega
theorem lens_cas (m : Ar) (p v x : Int) (h1 : m.W.length ≤ 1000000) (h2 : m.G.length ≤ 1000000) : (mCas m p v x).W.length ≤ 1000000000 ∧ (mCas m p v x).G.length ≤ 1000000000 := by
  unfold mCas
  refine ⟨?_, by dsimp only; omega⟩
  dsimp only
  split <;> (try rw [List.length_set]) <;> omega
theorem lens_turn (m : Ar) (i z : Int) (h1 : m.W.length ≤ 1000000) (h2 : m.G.length ≤ 1000000) : (mTurn m i z).W.length ≤ 1000000000 ∧ (mTurn m i z).G.length ≤ 1000000000 := by
  unfold mTurn
  refine ⟨by dsimp only; omega, ?_⟩
  dsimp only
  split <;> (try rw [List.length_set]) <;> omega
theorem mStore_len (m : Ar) (p v : Int) : (mStore m p v).W.length = m.W.length := by
  unfold mStore
  dsimp only
  split <;> simp
theorem mStore_at {m : Ar} {p v : Int} {k : Nat} (hk : k < m.W.length) (h : (k : Int) = p) : (mStore m p v).W.getD k 0 = v := by
  unfold mStore
  dsimp only
  subst h
  rw [if_pos (mIn_yes (by omega) (by omega)), Int.toNat_natCast, List.getD_eq_getElem?_getD, List.getElem?_set_self hk]
  rfl
theorem mStore_far {m : Ar} {p v : Int} {k : Nat} (h : (k : Int) ≠ p) : (mStore m p v).W.getD k 0 = m.W.getD k 0 := by
  unfold mStore
  dsimp only
  split
  · rename_i hin
    have : 0 ≤ p := by unfold mIn at hin; simp at hin; exact hin.1
    rw [List.getD_eq_getElem?_getD, List.getElem?_set_ne (by omega), ← List.getD_eq_getElem?_getD]
  · rfl
theorem mIn_len {W W' : List Int} (h : W.length = W'.length) (p : Int) : mIn W p = mIn W' p := by unfold mIn; rw [h]
theorem mVal_store {m : Ar} {p v : Int} (h : mIn m.W p = true) : mVal (mStore m p v) p = v := by
  have h0 : 0 ≤ p ∧ p < (m.W.length : Int) := by unfold mIn at h; simpa using h
  unfold mVal
  rw [mIn_len (mStore_len m p v), if_pos h]
  exact mStore_at (by omega) (by omega)
theorem mVal_out {m : Ar} {p : Int} (h : mIn m.W p = false) : mVal m p = 0 := by unfold mVal; rw [h]; rfl
theorem mStore_bad {m : Ar} {p v : Int} (h : m.bad = true) : (mStore m p v).bad = true := by
  show mBad m p = true
  unfold mBad
  rw [h]
  simp
theorem mIs_val {m : Ar} {p old : Int} (h : mIn m.W p = true) : mIs m p old = (mVal m p == old) := by
  unfold mIs mVal
  rw [h]
  rfl
theorem mInts_refl (xs : List Int) : mInts xs xs = true := by simp [mInts]
end Go.Proofs.Ytbpkndjnohdnjaa
