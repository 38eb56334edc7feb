/- Two stores, in any order. -/
import Derived.Test.YtbpkndjnohdnjaaSmall
import Derived.OpenShut
namespace Go.Proofs.Ytbpkndjnohdnjaa
open Go.RowKit Go.ChangeShapes Go.WideShapes
set_option linter.unusedVariables false
set_option linter.unusedSimpArgs false

theorem store_bad (m : Ar) (p v q : Int) : mBad (mStore m p v) q = (mBad m p || mBad m q) := by
  have e1 : mIn (mStore m p v).W q = mIn m.W q := mIn_len (mStore_len m p v) q
  have eG : (mStore m p v).G = m.G := rfl
  have eb : (mStore m p v).bad = mBad m p := rfl
  have l : mBad (mStore m p v) q = (!mIn m.W q || mBad m p || (decide (0 < mNode m.G q) && m.G.getD (mNode m.G q).toNat 0 == 0)) := by
    conv => lhs; unfold mBad
    rw [e1, eG, eb]
  have r : mBad m q = (!mIn m.W q || m.bad || (decide (0 < mNode m.G q) && m.G.getD (mNode m.G q).toNat 0 == 0)) := rfl
  rw [l, r]
  cases hp : mBad m p
  · have hb : m.bad = false := by
      cases h : m.bad
      · rfl
      · have : mBad m p = true := by unfold mBad; rw [h]; simp
        rw [hp] at this; cases this
    rw [hb]
    simp
  · simp

theorem store_w (m : Ar) (p v : Int) (h : mIn m.W p = true) : (mStore m p v).W = m.W.set p.toNat v := by unfold mStore; rw [h]; rfl
theorem store_w0 (m : Ar) (p v : Int) (h : mIn m.W p = false) : (mStore m p v).W = m.W := by unfold mStore; rw [h]; rfl

theorem twice_same (m : Ar) (p v q u : Int) (h : p ≠ q) : mSame (mStore (mStore m p v) q u) (mStore (mStore m q u) p v) = true := by
  have hb : (mStore (mStore m p v) q u).bad = (mStore (mStore m q u) p v).bad := by
    show mBad (mStore m p v) q = mBad (mStore m q u) p
    rw [store_bad, store_bad]
    cases mBad m p <;> cases mBad m q <;> rfl
  have hw : (mStore (mStore m p v) q u).W = (mStore (mStore m q u) p v).W := by
    have ip : mIn (mStore m q u).W p = mIn m.W p := mIn_len (mStore_len m q u) p
    have iq : mIn (mStore m p v).W q = mIn m.W q := mIn_len (mStore_len m p v) q
    cases hp : mIn m.W p <;> cases hq : mIn m.W q
    · rw [store_w0 _ _ _ (iq.trans hq), store_w0 _ _ _ hp, store_w0 _ _ _ (ip.trans hp), store_w0 _ _ _ hq]
    · rw [store_w _ _ _ (iq.trans hq), store_w0 _ _ _ hp, store_w0 _ _ _ (ip.trans hp), store_w _ _ _ hq]
    · rw [store_w0 _ _ _ (iq.trans hq), store_w _ _ _ hp, store_w _ _ _ (ip.trans hp), store_w0 _ _ _ hq]
    · rw [store_w _ _ _ (iq.trans hq), store_w _ _ _ hp, store_w _ _ _ (ip.trans hp), store_w _ _ _ hq]
      have a0 : 0 ≤ p := by unfold mIn at hp; simp at hp; exact hp.1
      have b0 : 0 ≤ q := by unfold mIn at hq; simp at hq; exact hq.1
      rw [List.set_comm _ _ (by omega)]
  unfold mSame mInts
  rw [hw, hb]
  simp
  rfl

/-- What is swapped is swapped back. -/
theorem cas_is {x : Ar} {p u : Int} (h : mVal x p = u ∨ mIn x.W p = false) : mIs x p u = mIn x.W p := by
  cases hi : mIn x.W p
  · exact mIs_no hi
  · rw [mIs_val hi]
    rcases h with h | h
    · rw [h]; simp
    · rw [h] at hi; cases hi
theorem cas_len (x : Ar) (p u v : Int) : (mCas x p u v).W.length = x.W.length := by
  unfold mCas
  dsimp only
  split <;> simp
theorem cas_back {x : Ar} {p u v : Int} (hi : mIn x.W p = true) (h : mVal x p = u) : mVal (mCas x p u v) p = v ∧ (mCas (mCas x p u v) p v u).W = x.W := by
  have h1 : mIs x p u = true := (cas_is (.inl h)).trans hi
  have e1 : mCas x p u v = mStore x p v := mCas_yes h1
  have hv : mVal (mStore x p v) p = v := mVal_store hi
  refine ⟨by rw [e1]; exact hv, ?_⟩
  rw [e1]
  have hi2 : mIn (mStore x p v).W p = true := (mIn_len (mStore_len x p v) p).trans hi
  have h2 : mIs (mStore x p v) p v = true := (cas_is (.inl hv)).trans hi2
  rw [mCas_yes h2, store_w _ _ _ hi2, store_w _ _ _ hi, List.set_set]
  have h0 : 0 ≤ p ∧ p < (x.W.length : Int) := by unfold mIn at hi; simpa using hi
  unfold mVal at h
  rw [if_pos hi] at h
  exact set_same (by omega) h

theorem lens2 (m : Ar) (p v q u : Int) (h1 : m.W.length ≤ 368) (h2 : m.G.length ≤ 61) (h3 : 2 ≤ m.G.length) :
    ((mStore m p v).W.length ≤ 1000000 ∧ (mStore m p v).G.length ≤ 1000000 ∧ 2 ≤ (mStore m p v).G.length) ∧ ((mStore (mStore m p v) q u).W.length ≤ 1000000 ∧ (mStore (mStore m p v) q u).G.length ≤ 1000000 ∧ 2 ≤ (mStore (mStore m p v) q u).G.length) := by
  rw [mStore_len, mStore_len, mStore_len]
  refine ⟨⟨by omega, ?_, ?_⟩, ⟨by omega, ?_, ?_⟩⟩
  · show m.G.length ≤ _; omega
  · exact h3
  · show m.G.length ≤ _; omega
  · exact h3

/-- An array of two integers by value. -/
theorem open_arr2 {H : Type} {enc : TypeId × Value → H} {P : Program} {w : World} {r : Reach} {b0 base : Nat} {spare : Nat → Bool} {held : Bool} {t e : TypeId} {k : IntKind} {v : Value} {d : DataW H} {p : List MemPlace}
    (ht : P.underlying t = some (.array 2 e)) (he : P.underlying e = some (.int k)) (hc : P.cellsOf t = 2) (hce : P.cellsOf e = 1)
    (hv : Value.okWide P w r b0 t v) (h : DataW.Trod enc P w base spare held t v d p) : ∃ x0 x1 : Int, v = .agg #[.int k x0, .int k x1] ∧ (Lit.int k x0).wf = true ∧ (Lit.int k x1).wf = true := by
  unfold Value.okWide at hv
  rw [ht] at hv
  obtain ⟨cs, rfl, hsz, _⟩ := hv
  obtain ⟨n, hn⟩ := h
  obtain ⟨xs, m, rfl, _, hl, hxs, hall⟩ := DataW.trod_array ht hn
  rw [hc] at hsz
  obtain ⟨cs⟩ := cs
  match cs, hsz with
  | [c0, c1], _ =>
    have el : (Value.agg ⟨[c0, c1]⟩).cells = #[c0, c1] := rfl
    simp only [el] at hall
    rw [hce] at hall
    match xs, hxs with
    | [y0, y1], _ =>
      have g0 := hall 0 (by decide)
      have g1 := hall 1 (by decide)
      simp at g0 g1
      obtain ⟨a0, e0, _, u0⟩ := DataW.trod_int he g0
      obtain ⟨a1, e1, _, u1⟩ := DataW.trod_int he g1
      simp at e0 e1
      subst e0 e1
      exact ⟨a0, a1, rfl, u0, u1⟩
end Go.Proofs.Ytbpkndjnohdnjaa
