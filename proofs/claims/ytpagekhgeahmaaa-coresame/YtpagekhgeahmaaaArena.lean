/- Arenas as plain data, and what the document does to them. No Go text. -/
namespace Go.Proofs.Ytpagekhgeahmaaa

/-- An arena: its words, what its nodes are, whether it is Bad. -/
structure Ar where
  W : List Int
  G : List Int
  bad : Bool

/-- A guarded place's node; 0 of another one. -/
def mNode (G : List Int) (p : Int) : Int := if 128 < p ∧ p < 128 + 4 * ((G.length : Int) - 1) ∧ (p - 128) % 4 ≠ 0 then 1 + (p - 128) / 4 else 0
/-- Is there such a place? -/
def mIn (W : List Int) (p : Int) : Bool := decide (0 ≤ p ∧ p < (W.length : Int))
/-- Is it Bad, if a place is touched? -/
def mBad (m : Ar) (p : Int) : Bool := !mIn m.W p || m.bad || (decide (0 < mNode m.G p) && m.G.getD (mNode m.G p).toNat 0 == 0)
def mVal (m : Ar) (p : Int) : Int := if mIn m.W p then m.W.getD p.toNat 0 else 0
def mLoad (m : Ar) (p : Int) : Ar := ⟨m.W, m.G, mBad m p⟩
def mStore (m : Ar) (p v : Int) : Ar := ⟨if mIn m.W p then m.W.set p.toNat v else m.W, m.G, mBad m p⟩
def mIs (m : Ar) (p old : Int) : Bool := mIn m.W p && m.W.getD p.toNat 0 == old
def mCas (m : Ar) (p old now : Int) : Ar := ⟨if mIs m p old then m.W.set p.toNat now else m.W, m.G, mBad m p⟩
def mMay (a b : Int) : Bool := (a == 0 && b == 1) || (a == 1 && b == 2) || (a == 1 && b == 0) || (a == 2 && b == 0)
def mTurns (m : Ar) (i to : Int) : Bool := decide (1 ≤ i ∧ i < (m.G.length : Int)) && mMay (m.G.getD i.toNat 0) to
def mTurn (m : Ar) (i to : Int) : Ar := ⟨m.W, if mTurns m i to then m.G.set i.toNat to else m.G, m.bad || !mTurns m i to⟩
def mCount (G : List Int) (what : Int) : Nat := (G.drop 1).count what
def mNew (n : Nat) : Ar := ⟨List.replicate (128 + 4 * n) 0, List.replicate (1 + n) 0, false⟩
def mNone : Ar := ⟨[], [], false⟩
def mRight (m : Ar) : Bool := decide (2 ≤ m.G.length ∧ m.G.length ≤ 201 ∧ m.W.length + 4 = 128 + 4 * m.G.length) && (m.G.getD 0 0 == 0 && m.G.all fun x => decide (0 ≤ x ∧ x ≤ 2))
def mSmall (m : Ar) : Bool := decide (m.G.length ≤ 61) && decide (m.W.length ≤ 368)
def mMays (m : Ar) : Bool := mSmall m && mRight m
def mInts (a b : List Int) : Bool := decide (a = b)
def mSame (a b : Ar) : Bool := mInts a.W b.W && mInts a.G b.G && (a.bad == b.bad)

/-- How far two lists agree is how far a loop has gone. -/
theorem mInts_len {a b : List Int} (h : a.length ≠ b.length) : mInts a b = false := by
  unfold mInts
  simp
  intro e
  exact h (by rw [e])

theorem mInts_at {a b : List Int} (k : Nat) (ha : k < a.length) (hb : k < b.length) (h : a[k] ≠ b[k]) : mInts a b = false := by
  unfold mInts
  simp
  intro e
  subst e
  exact h rfl

theorem take_more {a b : List Int} (k : Nat) (ha : k < a.length) (hb : k < b.length) (h : a[k] = b[k]) (ht : a.take k = b.take k) : a.take (k + 1) = b.take (k + 1) := by
  rw [List.take_succ_eq_append_getElem ha, List.take_succ_eq_append_getElem hb, ht, h]

theorem mInts_all {a b : List Int} (hl : a.length = b.length) (ht : a.take a.length = b.take a.length) : mInts a b = true := by
  unfold mInts
  simp only [decide_eq_true_eq]
  rw [List.take_length] at ht
  rw [ht, hl, List.take_length]

theorem mRight_head {m : Ar} (h : m.G.length < 2 ∨ 201 < m.G.length ∨ m.W.length + 4 ≠ 128 + 4 * m.G.length) : mRight m = false := by
  unfold mRight
  rw [decide_eq_false (by omega)]
  rfl

theorem mRight_first {m : Ar} (h : m.G.getD 0 0 ≠ 0) : mRight m = false := by
  unfold mRight
  rw [show (m.G.getD 0 0 == 0) = false by simpa using h]
  simp

theorem mRight_no {m : Ar} (k : Nat) (hk : k < m.G.length) (h : m.G.getD k 0 < 0 ∨ 2 < m.G.getD k 0) : mRight m = false := by
  unfold mRight
  have : (m.G.all fun x => decide (0 ≤ x ∧ x ≤ 2)) = false := by
    rw [List.all_eq_false]
    refine ⟨m.G[k], List.getElem_mem hk, ?_⟩
    rw [List.getD_eq_getElem?_getD, List.getElem?_eq_getElem hk] at h
    simp at h ⊢
    omega
  rw [this]
  simp

theorem mRight_yes {m : Ar} (h2 : 2 ≤ m.G.length) (h3 : m.G.length ≤ 201) (h4 : m.W.length + 4 = 128 + 4 * m.G.length) (h0 : m.G.getD 0 0 = 0) (h : ∀ j, j < m.G.length → 0 ≤ m.G.getD j 0 ∧ m.G.getD j 0 ≤ 2) : mRight m = true := by
  unfold mRight
  rw [decide_eq_true ⟨h2, h3, h4⟩, h0]
  simp only [Bool.true_and, beq_self_eq_true]
  rw [List.all_eq_true]
  intro x hx
  obtain ⟨j, hj, rfl⟩ := List.getElem_of_mem hx
  have := h j hj
  rw [List.getD_eq_getElem?_getD, List.getElem?_eq_getElem hj] at this
  simpa using this

theorem mRight_out {m : Ar} (h : mRight m = true) : 2 ≤ m.G.length ∧ m.G.length ≤ 201 ∧ m.W.length + 4 = 128 + 4 * m.G.length ∧ m.G.getD 0 0 = 0 ∧ ∀ j, j < m.G.length → 0 ≤ m.G.getD j 0 ∧ m.G.getD j 0 ≤ 2 := by
  unfold mRight at h
  simp only [Bool.and_eq_true, decide_eq_true_eq, beq_iff_eq, List.all_eq_true] at h
  obtain ⟨⟨a, b, c⟩, d, e⟩ := h
  refine ⟨a, b, c, d, fun j hj => ?_⟩
  have := e _ (List.getElem_mem hj)
  rw [List.getD_eq_getElem?_getD, List.getElem?_eq_getElem hj]
  exact this

/-- How many of the first k but the first one are what is asked. -/
def mCountTo (G : List Int) (what : Int) (k : Nat) : Nat := ((G.take k).drop 1).count what
theorem mCountTo_0 (G : List Int) (what : Int) : mCountTo G what 0 = 0 := by simp [mCountTo]
theorem mCountTo_1 (G : List Int) (what : Int) : mCountTo G what 1 = 0 := by
  unfold mCountTo
  cases G <;> simp
theorem mCountTo_all (G : List Int) (what : Int) (k : Nat) (h : G.length ≤ k) : mCountTo G what k = mCount G what := by
  unfold mCountTo mCount
  rw [List.take_of_length_le h]
theorem mCountTo_succ (G : List Int) (what : Int) (k : Nat) (hk : k < G.length) (h1 : 1 ≤ k) : mCountTo G what (k + 1) = mCountTo G what k + if G.getD k 0 = what then 1 else 0 := by
  unfold mCountTo
  rw [List.take_succ_eq_append_getElem hk, List.drop_append_of_le_length (by simp; omega), List.count_append, List.getD_eq_getElem?_getD, List.getElem?_eq_getElem hk, List.count_singleton]
  simp
theorem mCountTo_le (G : List Int) (what : Int) (k : Nat) : mCountTo G what k ≤ k := by
  unfold mCountTo
  have h1 := List.count_le_length (a := what) (l := (G.take k).drop 1)
  have h2 : ((G.take k).drop 1).length ≤ k := by simp; omega
  omega

theorem mTurn_no {m : Ar} {i z : Int} (h : mTurns m i z = false) : (mTurn m i z).W = m.W ∧ (mTurn m i z).G = m.G ∧ (mTurn m i z).bad = true := by
  unfold mTurn
  simp [h]
theorem mTurn_yes {m : Ar} {i z : Int} (h : mTurns m i z = true) : (mTurn m i z).W = m.W ∧ (mTurn m i z).G = m.G.set i.toNat z ∧ (mTurn m i z).bad = m.bad := by
  unfold mTurn
  simp [h]
theorem mTurns_out {m : Ar} {i z : Int} (h : i < 1 ∨ (m.G.length : Int) ≤ i) : mTurns m i z = false := by
  unfold mTurns
  rw [decide_eq_false (by omega)]
  rfl
theorem mTurns_in {m : Ar} {i z : Int} (h1 : 1 ≤ i) (h2 : i < (m.G.length : Int)) : mTurns m i z = mMay (m.G.getD i.toNat 0) z := by
  unfold mTurns
  rw [decide_eq_true ⟨h1, h2⟩]
  rfl

theorem mNode_cases (G : List Int) (p : Int) : (mNode G p = 0 ∧ (p ≤ 128 ∨ 128 + 4 * ((G.length : Int) - 1) ≤ p ∨ (p - 128) % 4 = 0)) ∨
    (1 ≤ mNode G p ∧ mNode G p < G.length ∧ p = 124 + 4 * mNode G p + (p - 128) % 4 ∧ 1 ≤ (p - 128) % 4 ∧ (p - 128) % 4 ≤ 3) := by
  unfold mNode
  split
  · right; omega
  · left; omega
theorem mNode_is (G : List Int) (i c : Int) (h0 : 1 ≤ i) (h1 : i < G.length) (h2 : 1 ≤ c) (h3 : c ≤ 3) : mNode G (124 + 4 * i + c) = i := by
  unfold mNode
  rw [if_pos (by omega)]
  omega
end Go.Proofs.Ytpagekhgeahmaaa
