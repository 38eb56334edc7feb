/- What a touch of a node's cell is, ahead of a turn to Live and behind it. No Go text. -/
import Derived.Test.YtbpkndjnohdnjaaMem12
import Derived.IntWalk
namespace Go.Proofs.Ytbpkndjnohdnjaa
set_option linter.unusedVariables false
set_option linter.unusedSimpArgs false

/-- The place of a node's cell: in the arena; its node; whether a touch is Bad. -/
theorem place_in {m : Ar} {i : Nat} {z : Int} (h3 : m.W.length + 4 = 128 + 4 * m.G.length) (i0 : 1 ≤ i) (i1 : i < m.G.length) (z0 : 0 ≤ z) (z1 : z ≤ 3) : mIn m.W (124 + 4 * i + z) = true := mIn_yes (by omega) (by omega)
theorem place_link {m : Ar} {i : Nat} : mNode m.G (124 + 4 * i + 0) = 0 := by unfold mNode; rw [if_neg (by omega)]
theorem place_cell {m : Ar} {i : Nat} {z : Int} (i0 : 1 ≤ i) (i1 : i < m.G.length) (z0 : 1 ≤ z) (z1 : z ≤ 3) : mNode m.G (124 + 4 * i + z) = i := mNode_is _ _ _ (by omega) (by omega) z0 z1
theorem bad_link {m : Ar} {p : Int} (hin : mIn m.W p = true) (hn : mNode m.G p = 0) : mBad m p = m.bad := by rw [mBad_yes hin, hn]; simp
theorem bad_cell {m : Ar} {p : Int} {i : Nat} {x : Int} (hin : mIn m.W p = true) (hn : mNode m.G p = i) (i0 : 1 ≤ i) (hx : m.G.getD i 0 = x) : mBad m p = (m.bad || (x == 0)) := by
  rw [mBad_yes hin, hn, Int.toNat_natCast, hx, decide_eq_true (by omega)]
  simp
theorem mNode_len {G G' : List Int} (h : G.length = G'.length) (p : Int) : mNode G p = mNode G' p := by unfold mNode; rw [h]
theorem root_bad {m : Ar} {z : Int} (h3 : m.W.length + 4 = 128 + 4 * m.G.length) (g1 : 2 ≤ m.G.length) (z0 : 0 ≤ z) (z1 : z ≤ 3) : mBad m z = m.bad := by
  refine bad_link (mIn_yes z0 (by omega)) ?_
  unfold mNode
  rw [if_neg (by omega)]
theorem mMay_one {x : Int} : mMay x 1 = (x == 0) := by
  unfold mMay
  simp
/-- Behind a turn to Live a touch is Bad just if the turn was. -/
theorem turned_bad {m : Ar} {p : Int} {i : Nat} {x : Int} (hin : mIn m.W p = true) (hn : mNode m.G p = 0 ∨ mNode m.G p = i) (i0 : 1 ≤ i) (i1 : i < m.G.length) (hx : m.G.getD i 0 = x) : mBad (mTurn m i 1) p = (mTurn m i 1).bad := by
  have ht : mTurns m i 1 = (x == 0) := by rw [mTurns_in (by omega) (by omega), Int.toNat_natCast, hx, mMay_one]
  cases t : (x == 0)
  · rw [t] at ht
    obtain ⟨t1, t2, t3⟩ := mTurn_no ht
    have hin2 : mIn (mTurn m i 1).W p = true := by rw [t1]; exact hin
    rw [mBad_yes hin2, t3]
    rfl
  · rw [t] at ht
    obtain ⟨t1, t2, t3⟩ := mTurn_yes ht
    have hin2 : mIn (mTurn m i 1).W p = true := by rw [t1]; exact hin
    have hl : mNode (mTurn m i 1).G p = mNode m.G p := mNode_len (by rw [t2, List.length_set]) p
    rcases hn with hn | hn
    · exact bad_link hin2 (hl.trans hn)
    · have hg : (mTurn m i 1).G.getD i 0 = 1 := by
        rw [t2, Int.toNat_natCast, List.getD_eq_getElem?_getD, List.getElem?_set_self i1]
        rfl
      rw [bad_cell hin2 (hl.trans hn) i0 hg]
      simp
theorem turned_is {m : Ar} {i : Nat} {x : Int} (hb : m.bad = false) (i0 : 1 ≤ i) (i1 : i < m.G.length) (hx : m.G.getD i 0 = x) : (mTurn m i 1).bad = !(x == 0) := by
  have ht : mTurns m i 1 = (x == 0) := by rw [mTurns_in (by omega) (by omega), Int.toNat_natCast, hx, mMay_one]
  unfold mTurn
  rw [ht, hb]
  simp
theorem min_yes {i n : Nat} {z : Int} (h : i < n) (hn : n ≤ 61) (hz : 1 ≤ z) : ((i : Int) == IntKind.i64.wrap ((i : Int) * if 1 < z then 1 else z)) = true := by
  have e : (if 1 < z then 1 else z) = 1 := by split <;> omega
  rw [e, Int.mul_one, IntWalk.i64_in _ (by omega)]
  simp
theorem min_no {i n : Nat} {z : Int} (h0 : 0 ≤ z) (h : i < n) (hn : n ≤ 61) (hz : z ≤ 0) : ((0 : Int) == IntKind.i64.wrap ((i : Int) * if 1 < z then 1 else z)) = true := by
  have e : (if 1 < z then 1 else z) = 0 := by split <;> omega
  rw [e, Int.mul_zero, IntWalk.i64_in _ (by omega)]
  simp
theorem turned_len {m : Ar} {i z : Int} : (mTurn m i z).W.length = m.W.length ∧ (mTurn m i z).G.length = m.G.length := by
  unfold mTurn
  refine ⟨rfl, ?_⟩
  dsimp only
  split <;> simp
end Go.Proofs.Ytbpkndjnohdnjaa
