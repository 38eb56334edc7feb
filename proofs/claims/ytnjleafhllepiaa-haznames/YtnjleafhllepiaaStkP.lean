/- A core that alone pops all nodes, and pushes them again: plain mathematics. No Go text. -/
import Derived.Test.YtnjleafhllepiaaStkN
namespace Go.Proofs.Ytnjleafhllepiaa
open Go.RowKit
set_option linter.unusedVariables false

/-- The next node, or none. -/
def nx (n k : Nat) : Int := if k < n then (k : Int) + 1 else 0
/-- A right arena of n nodes, not Bad, whose words are words. -/
structure IA (n : Nat) (M : Ar) : Prop where
  g : M.G.length = n + 1
  w : M.W.length = 128 + 4 * n
  bad : M.bad = false
  inn : ∀ x ∈ M.W, -9223372036854775808 ≤ x ∧ x ≤ 9223372036854775807
theorem IA.m0 {n : Nat} {M : Ar} (h : IA n M) : mBad M 0 = M.bad := by
  have := mBad_link (m := M) (k := 0) (by have := h.w; omega) (by omega)
  exact this
theorem IA.v0 {n : Nat} {M : Ar} (h : IA n M) : mVal M 0 = M.W.getD 0 0 := mVal_in (m := M) (k := 0) (by have := h.w; omega)
theorem link_nat {n j : Nat} (hn : n ≤ 200) (h : j ≤ n) : pLink (j : Int) = ((124 + 4 * j : Nat) : Int) := by rw [pLink_in (by omega) (by omega)]; omega
theorem IA.ml {n : Nat} {M : Ar} (h : IA n M) (hn : n ≤ 200) {j : Nat} (h1 : 1 ≤ j) (h2 : j ≤ n) : mBad M (pLink (j : Int)) = M.bad := by
  rw [link_nat hn h2]
  exact mBad_link (by have := h.w; omega) (by omega)
theorem IA.vl {n : Nat} {M : Ar} (h : IA n M) (hn : n ≤ 200) {j : Nat} (h1 : 1 ≤ j) (h2 : j ≤ n) : mVal M (pLink (j : Int)) = M.W.getD (124 + 4 * j) 0 := by
  rw [link_nat hn h2]
  exact mVal_in (by have := h.w; omega)
theorem IA.is {n : Nat} {M : Ar} (h : IA n M) : mIs M 0 (mVal M 0) = true := by
  have hw := h.w
  rw [h.v0]
  unfold mIs mIn
  rw [decide_eq_true ⟨by omega, by omega⟩]
  simp
theorem getD_set (l : List Int) (k j : Nat) (x : Int) (hk : k < l.length) : (l.set k x).getD j 0 = if k = j then x else l.getD j 0 := by
  rw [List.getD_eq_getElem?_getD, List.getElem?_set]
  by_cases q : k = j
  · subst q; rw [if_pos rfl, if_pos hk, if_pos rfl]; rfl
  · rw [if_neg q, if_neg q, ← List.getD_eq_getElem?_getD]
theorem mem_set {l : List Int} {k : Nat} {x : Int} (h : ∀ y ∈ l, -9223372036854775808 ≤ y ∧ y ≤ 9223372036854775807) (hx : -9223372036854775808 ≤ x ∧ x ≤ 9223372036854775807) : ∀ y ∈ l.set k x, -9223372036854775808 ≤ y ∧ y ≤ 9223372036854775807 := fun y hy => by
  rcases List.mem_or_eq_of_mem_set hy with q | q
  · exact h y q
  · rw [q]; exact hx
/-- A head that is swapped, and a node that is turned. -/
theorem cas_turn {n : Nat} {M : Ar} (h : IA n M) {nw a z : Int} {j : Nat} (h1 : 1 ≤ j) (h2 : j ≤ n) (hx : -9223372036854775808 ≤ nw ∧ nw ≤ 9223372036854775807) (hG : M.G.getD j 0 = a) (hm : mMay a z = true) :
    (mTurn (mCas M 0 (mVal M 0) nw) (j : Int) z) = ⟨M.W.set 0 nw, M.G.set j z, false⟩ ∧ IA n (mTurn (mCas M 0 (mVal M 0) nw) (j : Int) z) := by
  have hg := h.g
  have e1 : mCas M 0 (mVal M 0) nw = ⟨M.W.set 0 nw, M.G, false⟩ := by
    unfold mCas
    rw [h.is, h.m0, h.bad]
    simp
  have e2 : mTurns ⟨M.W.set 0 nw, M.G, false⟩ (j : Int) z = true := by
    unfold mTurns
    rw [decide_eq_true ⟨by omega, by simp only; omega⟩]
    simp only [Int.toNat_natCast, hG, hm, Bool.and_self]
  have e3 : mTurn (mCas M 0 (mVal M 0) nw) (j : Int) z = ⟨M.W.set 0 nw, M.G.set j z, false⟩ := by
    rw [e1]
    unfold mTurn
    rw [e2]
    simp
  refine ⟨e3, ?_⟩
  rw [e3]
  exact ⟨by simp [hg], by simp [h.w], rfl, mem_set h.inn hx⟩

/-- k nodes are popped. -/
structure I1 (n k : Nat) (M : Ar) : Prop where
  ia : IA n M
  hd : M.W.getD 0 0 = pWord k (nx n k) 0
  ln : ∀ j, 1 ≤ j → j ≤ n → M.W.getD (124 + 4 * j) 0 = nx n j
  gs : ∀ j, 1 ≤ j → j ≤ n → M.G.getD j 0 = if j ≤ k then 1 else 0
theorem word_bd {t i : Int} (h0 : 0 ≤ t) (h1 : t ≤ 1000) (h2 : 0 ≤ i) (h3 : i ≤ 1000) : -9223372036854775808 ≤ pWord t i 0 ∧ pWord t i 0 ≤ 9223372036854775807 := by unfold pWord; omega
theorem word_idx {t i : Int} (h2 : 0 ≤ i) (h3 : i ≤ 1000) : pIdx (pWord t i 0) = i := pIdx_word t i 0 (by omega) (by omega)
theorem word_next {t i j : Int} (h0 : 0 ≤ t) (h1 : t ≤ 1000) (h2 : 0 ≤ i) (h3 : i ≤ 1000) (h4 : 0 ≤ j) (h5 : j ≤ 1000) : pNext (pWord t i 0) j 0 = pWord (t + 1) j 0 := by
  unfold pNext
  rw [pTag_word t i 0 (by omega) (by omega) (by omega), Int.emod_eq_of_lt (by omega) (by omega), Int.emod_eq_of_lt (by omega) (by omega)]
  rfl
theorem nx_bd {n k : Nat} (hn : n ≤ 200) : 0 ≤ nx n k ∧ nx n k ≤ 1000 := by unfold nx; split <;> omega
theorem I1.pop {n k : Nat} {M : Ar} (h : I1 n k M) (hn : n ≤ 200) (hk : k < n) (v e : Int) (L : List Evt) :
    ∃ M', step3 (pCall (one1 M [] v e L) 0 (fr1 1 0 0 0)) = one1 M' [] ((k : Int) + 1) 0 L ∧ I1 n (k + 1) M' := by
  have hv : mVal M 0 = pWord k (nx n k) 0 := h.ia.v0.trans h.hd
  have hnk : nx n k = ((k + 1 : Nat) : Int) := by unfold nx; rw [if_pos hk]; omega
  have hi : pIdx (mVal M 0) = ((k + 1 : Nat) : Int) := by rw [hv, word_idx (nx_bd hn).1 (nx_bd hn).2, hnk]
  have hl : mVal M (pLink ((k + 1 : Nat) : Int)) = nx n (k + 1) := by rw [h.ia.vl hn (by omega) (by omega)]; exact h.ln _ (by omega) (by omega)
  have hb := nx_bd (n := n) (k := k + 1) hn
  have hc := pop_alone (v := v) (e := e) (L := L) h.ia.m0 (by rw [hi]; omega) (by rw [hi]; exact h.ia.ml hn (by omega) (by omega)) h.ia.is
  rw [hi, hl] at hc
  have hN : pNext (mVal M 0) (nx n (k + 1)) 0 = pWord ((k + 1 : Nat) : Int) (nx n (k + 1)) 0 := by
    rw [hv, word_next (by omega) (by omega) (nx_bd hn).1 (nx_bd hn).2 hb.1 hb.2]
    congr 1
  rw [hN] at hc
  obtain ⟨e3, ia⟩ := cas_turn (j := k + 1) (z := 1) h.ia (by omega) (by omega) (word_bd (t := ((k + 1 : Nat) : Int)) (i := nx n (k + 1)) (by omega) (by omega) hb.1 hb.2) (h.gs (k + 1) (by omega) (by omega)) (by rw [if_neg (by omega)]; rfl)
  refine ⟨_, by rw [hc, show ((k : Int) + 1) = ((k + 1 : Nat) : Int) by omega], ?_⟩
  rw [e3] at ia ⊢
  have hw := h.ia.w
  have hg := h.ia.g
  refine ⟨ia, ?_, fun j j1 j2 => ?_, fun j j1 j2 => ?_⟩
  · show (M.W.set 0 _).getD 0 0 = _
    rw [getD_set _ _ _ _ (by omega), if_pos rfl]
  · show (M.W.set 0 _).getD _ 0 = _
    rw [getD_set _ _ _ _ (by omega), if_neg (by omega)]
    exact h.ln j j1 j2
  · show (M.G.set (k + 1) 1).getD j 0 = _
    rw [getD_set _ _ _ _ (by omega)]
    by_cases q : k + 1 = j
    · rw [if_pos q, if_pos (by omega)]
    · rw [if_neg q, h.gs j j1 j2]
      by_cases q2 : j ≤ k
      · rw [if_pos q2, if_pos (by omega)]
      · rw [if_neg q2, if_neg (by omega)]
theorem I1.full {n : Nat} {M : Ar} (h : I1 n n M) (hn : n ≤ 200) (v e : Int) (L : List Evt) : step3 (pCall (one1 M [] v e L) 0 (fr1 1 0 0 0)) = one1 M [] 0 2 (L ++ [⟨0, 9, 0, 0, 0⟩]) := by
  refine pop_empty h.ia.m0 ?_
  rw [h.ia.v0, h.hd, word_idx (nx_bd hn).1 (nx_bd hn).2]
  unfold nx
  rw [if_neg (by omega)]

/-- All are popped, and k are pushed again. -/
structure I2 (n k : Nat) (M : Ar) : Prop where
  ia : IA n M
  hd : M.W.getD 0 0 = pWord ((n : Int) + k) k 0
  ln : ∀ j, 1 ≤ j → j ≤ k → M.W.getD (124 + 4 * j) 0 = (j : Int) - 1
  gs : ∀ j, 1 ≤ j → j ≤ n → M.G.getD j 0 = if j ≤ k then 0 else 1
theorem I1.to2 {n : Nat} {M : Ar} (h : I1 n n M) : I2 n 0 M := by
  refine ⟨h.ia, ?_, fun j j1 j2 => by omega, fun j j1 j2 => ?_⟩
  · rw [h.hd]; unfold nx; rw [if_neg (by omega)]; simp
  · rw [h.gs j j1 j2, if_pos j2, if_neg (by omega)]
theorem I2.push {n k : Nat} {M : Ar} (h : I2 n k M) (hn : n ≤ 200) (hk : k < n) (v e : Int) (L : List Evt) :
    ∃ M', step3 (pCall (one1 M [] v e L) 0 (fr1 2 0 ((k : Int) + 1) 0)) = one1 M' [] ((k : Int) + 1) 0 L ∧ I2 n (k + 1) M' := by
  have hw := h.ia.w
  have hg := h.ia.g
  have hv : mVal M 0 = pWord ((n : Int) + k) k 0 := h.ia.v0.trans h.hd
  have hi : pIdx (mVal M 0) = (k : Int) := by rw [hv, word_idx (by omega) (by omega)]
  have ek : (k : Int) + 1 = ((k + 1 : Nat) : Int) := by omega
  obtain ⟨M1, hM1⟩ : ∃ m, m = mStore M (pLink ((k : Int) + 1)) (pIdx (mVal M 0)) := ⟨_, rfl⟩
  have hlt : 124 + 4 * (k + 1) < M.W.length := by omega
  have e1 : M1 = ⟨M.W.set (124 + 4 * (k + 1)) k, M.G, false⟩ := by
    rw [hM1, ek, link_nat hn (by omega), hi]
    have a1 := mStore_in (m := M) hlt (k : Int)
    have a2 := mStore_bad (m := M) hlt (by omega) (k : Int)
    have a3 := (mStore_len M ((124 + 4 * (k + 1) : Nat) : Int) (k : Int)).2
    rw [h.ia.bad] at a2
    cases hm : mStore M ((124 + 4 * (k + 1) : Nat) : Int) (k : Int)
    rw [hm] at a1 a2 a3
    simp only at a1 a2 a3
    rw [a1, a2, a3]
  have ia1 : IA n M1 := by
    rw [e1]
    exact ⟨hg, by simp [hw], rfl, mem_set h.ia.inn (by omega)⟩
  have hv1 : mVal M1 0 = mVal M 0 := by
    rw [ia1.v0, h.ia.v0, e1]
    show (M.W.set _ _).getD 0 0 = _
    rw [getD_set _ _ _ _ hlt, if_neg (by omega)]
  have hc := push_alone (M := M) (v := v) (e := e) (p := (k : Int) + 1) (L := L) h.ia.m0 (by rw [← hM1, ← hv1]; exact ia1.is)
  rw [← hM1] at hc
  have hN : pNext (mVal M 0) ((k : Int) + 1) 0 = pWord ((n : Int) + ((k + 1 : Nat) : Int)) ((k + 1 : Nat) : Int) 0 := by
    rw [hv, word_next (by omega) (by omega) (by omega) (by omega) (by omega) (by omega)]
    first | (congr 1; omega) | congr 1
  rw [hN, ← hv1, ek] at hc
  have hgk : M1.G.getD (k + 1) 0 = 1 := by rw [e1]; show M.G.getD (k + 1) 0 = 1; rw [h.gs (k + 1) (by omega) (by omega), if_neg (by omega)]
  obtain ⟨e3, ia⟩ := cas_turn (j := k + 1) (z := 0) ia1 (by omega) (by omega) (word_bd (t := (n : Int) + ((k + 1 : Nat) : Int)) (i := ((k + 1 : Nat) : Int)) (by omega) (by omega) (by omega) (by omega)) hgk rfl
  refine ⟨_, by rw [ek]; exact hc, ?_⟩
  rw [e3] at ia ⊢
  have w1 : M1.W = M.W.set (124 + 4 * (k + 1)) k := by rw [e1]
  have g1 : M1.G = M.G := by rw [e1]
  have hw1 := ia1.w
  refine ⟨ia, ?_, fun j j1 j2 => ?_, fun j j1 j2 => ?_⟩
  · show (M1.W.set 0 _).getD 0 0 = _
    rw [getD_set _ _ _ _ (by omega), if_pos rfl]
  · show (M1.W.set 0 _).getD _ 0 = _
    rw [getD_set _ _ _ _ (by omega), if_neg (by omega), w1, getD_set _ _ _ _ hlt]
    by_cases q : 124 + 4 * (k + 1) = 124 + 4 * j
    · rw [if_pos q]; omega
    · rw [if_neg q]; exact h.ln j j1 (by omega)
  · show (M1.G.set (k + 1) 0).getD j 0 = _
    rw [g1, getD_set _ _ _ _ (by omega)]
    by_cases q : k + 1 = j
    · rw [if_pos q, if_pos (by omega)]
    · rw [if_neg q, h.gs j j1 j2]
      by_cases q2 : j ≤ k
      · rw [if_pos q2, if_pos (by omega)]
      · rw [if_neg q2, if_neg (by omega)]

/-- n, n - 1, and so on, k of them. -/
def down (n k : Nat) : List Int := (List.range k).map (fun (i : Nat) => (n : Int) - i)
theorem down_succ (n k : Nat) : down n (k + 1) = down n k ++ [(n : Int) - k] := by simp [down, List.range_succ]
theorem down_len (n k : Nat) : (down n k).length = k := by simp [down]
theorem down_at {n k i : Nat} (h : i < k) : (down n k)[i]? = some ((n : Int) - i) := by simp [down, h]
theorem down_mem {n k : Nat} {x : Int} (h : x ∈ down n k) : (n : Int) - k < x := by
  unfold down at h
  obtain ⟨i, hi, rfl⟩ := List.mem_map.1 h
  have := List.mem_range.1 hi
  omega
theorem I2.walkAt {n : Nat} {M : Ar} (h : I2 n n M) (hn : n ≤ 200) : ∀ k, k ≤ n → WalkAt M ((n : Int) - k) (down n k)
  | 0, _ => by
    have := WalkAt.start M
    rw [h.ia.v0, h.hd, word_idx (by omega) (by omega)] at this
    simpa [down] using this
  | k + 1, hk => by
    have ih := I2.walkAt h hn k (by omega)
    have hg := h.ia.g
    have := ih.next (by omega) (by omega) (fun hm => by have := down_mem hm; omega)
    rw [show (n : Int) - k = ((n - k : Nat) : Int) by omega, h.ia.vl hn (by omega) (by omega), h.ln (n - k) (by omega) (by omega)] at this
    rw [down_succ, show (n : Int) - (k + 1 : Nat) = ((n - k : Nat) : Int) - 1 by omega, show (n : Int) - k = ((n - k : Nat) : Int) by omega]
    exact this
theorem I2.walk {n : Nat} {M : Ar} (h : I2 n n M) (hn : n ≤ 200) : pWalk M = some (down n n) := by
  have := h.walkAt hn n (Nat.le_refl _)
  rw [show (n : Int) - n = 0 by omega] at this
  exact this.done

/-- The states behind k pops, and behind k pushes. -/
def stA (n : Nat) : Nat → Sy
  | 0 => syMem (syNew 1 n) (pFill (syNew 1 n).M)
  | k + 1 => step3 (pCall (stA n k) 0 (fr1 1 0 0 0))
def stB (n : Nat) : Nat → Sy
  | 0 => stA n (n + 1)
  | k + 1 => step3 (pCall (stB n k) 0 (fr1 2 0 ((k : Int) + 1) 0))
theorem new_rt {n : Nat} (h1 : 1 ≤ n) (h2 : n ≤ 200) : Rt (mNew n) := ⟨by simp [mNew]; omega, by simp [mNew]; omega, by simp [mNew]; omega⟩
theorem stA0 {n : Nat} (h1 : 1 ≤ n) (h2 : n ≤ 200) : ∃ M, stA n 0 = one1 M [] 0 0 [] ∧ I1 n 0 M := by
  have hr := new_rt h1 h2
  have hf := fill_W hr
  have hl := pFill_len (mNew n)
  have hgl : (mNew n).G.length = n + 1 := by simp [mNew]; omega
  refine ⟨pFill (mNew n), rfl, ⟨by rw [hl.2, hgl], by rw [hl.1]; simp [mNew], hf.2, fill_in hr (fun x hx => by simp [mNew] at hx; omega)⟩, ?_, fun j j1 j2 => ?_, fun j j1 j2 => ?_⟩
  · rw [List.getD_eq_getElem?_getD, hf.1 0]
    unfold gw nx pWord
    rw [if_pos rfl, if_pos (by omega)]
    rfl
  · have := fill_link hr (i := j) j1 (by omega)
    rw [link_nat h2 j2, mVal_in (by rw [hl.1]; simp [mNew]; omega)] at this
    rw [this, hgl]
    unfold nx
    by_cases q : j + 1 = n + 1
    · rw [if_pos q, if_neg (by omega)]
    · rw [if_neg q, if_pos (by omega)]
  · rw [hl.2, if_neg (by omega), List.getD_eq_getElem?_getD]
    simp only [mNew]
    rw [List.getElem?_replicate, if_pos (by omega)]
    rfl
theorem stA_at {n : Nat} (h1 : 1 ≤ n) (h2 : n ≤ 200) : ∀ k, k ≤ n → ∃ M v, stA n k = one1 M [] v 0 [] ∧ I1 n k M ∧ (1 ≤ k → v = (k : Int))
  | 0, _ => by
    obtain ⟨M, e, h⟩ := stA0 h1 h2
    exact ⟨M, 0, e, h, fun h => by omega⟩
  | k + 1, hk => by
    obtain ⟨M, v, e, h, _⟩ := stA_at h1 h2 k (by omega)
    obtain ⟨M', e', h'⟩ := h.pop h2 (by omega) v 0 []
    refine ⟨M', (k : Int) + 1, ?_, h', fun _ => by omega⟩
    rw [stA, e]
    exact e'
theorem stA_end {n : Nat} (h1 : 1 ≤ n) (h2 : n ≤ 200) : ∃ M, stA n (n + 1) = one1 M [] 0 2 [⟨0, 9, 0, 0, 0⟩] ∧ I2 n 0 M := by
  obtain ⟨M, v, e, h, _⟩ := stA_at h1 h2 n (Nat.le_refl _)
  refine ⟨M, ?_, h.to2⟩
  rw [stA, e]
  exact h.full h2 v 0 []
theorem stB_at {n : Nat} (h1 : 1 ≤ n) (h2 : n ≤ 200) : ∀ k, k ≤ n → ∃ M v e, stB n k = one1 M [] v e [⟨0, 9, 0, 0, 0⟩] ∧ I2 n k M
  | 0, _ => by
    obtain ⟨M, e, h⟩ := stA_end h1 h2
    exact ⟨M, 0, 2, e, h⟩
  | k + 1, hk => by
    obtain ⟨M, v, e, eq, h⟩ := stB_at h1 h2 k (by omega)
    obtain ⟨M', e', h'⟩ := h.push h2 (by omega) v e [⟨0, 9, 0, 0, 0⟩]
    refine ⟨M', (k : Int) + 1, 0, ?_, h'⟩
    rw [stB, eq]
    exact e'
theorem one_ok {n : Nat} {M : Ar} (h : IA n M) (h1 : 1 ≤ n) (h2 : n ≤ 200) (v e : Int) (L : List Evt) (b : Nat) (hb : b ≤ 999998) (hL : L.length ≤ b) : Ok4 b (one1 M [] v e L) := by
  have hg := h.g
  have hw := h.w
  refine ⟨⟨?_, ?_, ?_, ?_, ?_⟩, ?_, hL⟩
  · show M.W.length ≤ _; omega
  · show M.G.length ≤ _; omega
  · show ([⟨[], v, e, 0, 0, 0, []⟩] : List Co).length ≤ _; simp
  · show L.length ≤ _; omega
  · intro x hx
    have : x = ⟨[], v, e, 0, 0, 0, []⟩ := by simpa [one1] using hx
    subst this
    simp
  · show 2 ≤ M.G.length; omega
theorem stA_ok {n : Nat} (h1 : 1 ≤ n) (h2 : n ≤ 200) {k : Nat} (hk : k ≤ n + 1) : Ok4 1 (stA n k) := by
  rcases Nat.lt_or_ge n k with q | q
  · obtain ⟨M, e, h⟩ := stA_end h1 h2
    have : k = n + 1 := by omega
    subst this
    rw [e]
    exact one_ok h.ia h1 h2 _ _ _ 1 (by omega) (by simp)
  · obtain ⟨M, v, e, h, _⟩ := stA_at h1 h2 k q
    rw [e]
    exact one_ok h.ia h1 h2 _ _ _ 1 (by omega) (by simp)
theorem stB_ok {n : Nat} (h1 : 1 ≤ n) (h2 : n ≤ 200) {k : Nat} (hk : k ≤ n) : Ok4 1 (stB n k) := by
  obtain ⟨M, v, e, eq, h⟩ := stB_at h1 h2 k hk
  rw [eq]
  exact one_ok h.ia h1 h2 _ _ _ 1 (by omega) (by simp)
/-- j steps. -/
def stepN : Nat → Sy → Sy
  | 0, s => s
  | j + 1, s => pStep (stepN j s) 0
theorem stepN_ok {s : Sy} (h : Ok4 1 s) : ∀ j, j ≤ 3 → Ok4 (1 + j) (stepN j s)
  | 0, _ => h
  | j + 1, hj => by
    have := (stepN_ok h j (by omega)).step (by omega) 0
    exact this
end Go.Proofs.Ytnjleafhllepiaa
