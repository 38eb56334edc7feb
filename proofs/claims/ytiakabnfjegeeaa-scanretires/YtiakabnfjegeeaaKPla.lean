/- Steps of layer 4 keep systems few; a core that is alone pops and pushes: plain mathematics. No Go text. -/
import Derived.Test.YtiakabnfjegeeaaKStA
import Derived.Test.YtiakabnfjegeeaaHaz1
import Derived.Test.YtiakabnfjegeeaaScn1

namespace Go.Proofs.Ytiakabnfjegeeaa
open Go.RowKit
set_option linter.unusedVariables false

/-- Few enough for a step, with at most b events. -/
structure Ok4 (b : Nat) (s : Sy) : Prop where
  few : SyFew s
  g : 2 ≤ s.M.G.length
  l : s.L.length ≤ b
theorem Ok4.up {b c : Nat} {s : Sy} (h : Ok4 b s) (hc : b ≤ c) : Ok4 c s := ⟨h.few, h.g, Nat.le_trans h.l hc⟩
theorem set_M (s : Sy) (i : Int) (f : Fr) : (pSet s i f).M = s.M ∧ (pSet s i f).L = s.L := by
  unfold pSet
  split
  · exact ⟨rfl, rfl⟩
  · split <;> exact ⟨rfl, rfl⟩
theorem back_M (s : Sy) (i v e : Int) : (pBack s i v e).M = s.M ∧ (pBack s i v e).L = s.L := by
  unfold pBack
  split
  · exact ⟨rfl, rfl⟩
  · split <;> exact ⟨rfl, rfl⟩
theorem call_M (s : Sy) (i : Int) (f : Fr) : (pCall s i f).M = s.M ∧ (pCall s i f).L = s.L := by
  unfold pCall
  split
  · exact ⟨rfl, rfl⟩
  · split <;> exact ⟨rfl, rfl⟩
theorem log_M (s : Sy) (i k a b v : Int) : (pLog s i k a b v).M = s.M ∧ (pLog s i k a b v).L.length ≤ s.L.length + 1 := by
  unfold pLog
  split
  · exact ⟨rfl, by simp [syLog]⟩
  · exact ⟨rfl, by omega⟩
theorem Ok4.set {b : Nat} {s : Sy} (h : Ok4 b s) {f : Fr} (hf : f.S.length ≤ 1000000) (i : Int) : Ok4 b (pSet s i f) := by
  obtain ⟨e1, e2⟩ := set_M s i f
  exact ⟨few_set h.few hf i, by rw [e1]; exact h.g, by rw [e2]; exact h.l⟩
theorem Ok4.back {b : Nat} {s : Sy} (h : Ok4 b s) (i v e : Int) : Ok4 b (pBack s i v e) := by
  obtain ⟨e1, e2⟩ := back_M s i v e
  exact ⟨few_back h.few i v e, by rw [e1]; exact h.g, by rw [e2]; exact h.l⟩
theorem Ok4.call {b : Nat} {s : Sy} (h : Ok4 b s) {f : Fr} (hf : f.S.length ≤ 1000000) (i : Int) : Ok4 b (pCall s i f) := by
  obtain ⟨e1, e2⟩ := call_M s i f
  exact ⟨few_call h.few hf i, by rw [e1]; exact h.g, by rw [e2]; exact h.l⟩
theorem Ok4.log {b : Nat} {s : Sy} (h : Ok4 b s) (hb : b ≤ 999998) (i k a c v : Int) : Ok4 (b + 1) (pLog s i k a c v) := by
  obtain ⟨e1, e2⟩ := log_M s i k a c v
  have := h.l
  exact ⟨few_log h.few (by omega) i k a c v, by rw [e1]; exact h.g, by omega⟩
theorem Ok4.mem {b : Nat} {s : Sy} (h : Ok4 b s) {m : Ar} (h0 : m.W.length = s.M.W.length) (h1 : m.G.length = s.M.G.length) : Ok4 b (syMem s m) :=
  ⟨few_mem h.few h0 h1, by simp only [syMem]; rw [h1]; exact h.g, h.l⟩
theorem top_S {s : Sy} (h : SyFew s) {i : Int} {f : Fr} (ht : pTop s i = some f) : f.S.length ≤ 1000000 := by
  unfold pTop at ht
  rcases pAt_cases s i with ⟨_, _, h2⟩ | ⟨k, x, rfl, hk, hx, _, h2⟩
  · rw [h2] at ht; cases ht
  · rw [h2] at ht
    exact (h.2.2.2.2 x (List.mem_of_getElem? hx)).2.2 f (List.mem_of_getLast? ht)
theorem mCas_len (m : Ar) (p o n : Int) : (mCas m p o n).W.length = m.W.length ∧ (mCas m p o n).G = m.G := by
  unfold mCas
  refine ⟨?_, rfl⟩
  dsimp only
  split <;> simp
theorem mTurn_len (m : Ar) (i z : Int) : (mTurn m i z).W = m.W ∧ (mTurn m i z).G.length = m.G.length := by
  unfold mTurn
  refine ⟨rfl, ?_⟩
  dsimp only
  split <;> simp
theorem Ok4.swap {b : Nat} {s : Sy} (h : Ok4 b s) {f : Fr} (hf : f.S.length ≤ 1000000) (i seen first node nw : Int) : Ok4 b (pSwap s i f seen first node nw) := by
  unfold pSwap
  have hc := mCas_len s.M 0 seen (pNext seen first 0)
  have ht := mTurn_len (mCas s.M 0 seen (pNext seen first 0)) node nw
  split
  · exact (h.mem (by rw [ht.1]; exact hc.1) (by rw [ht.2, hc.2])).back i node 0
  · exact (h.mem hc.1 (by rw [hc.2])).set (f := ⟨f.op, 0, f.R, f.S⟩) hf i
theorem Ok4.step {b : Nat} {s : Sy} (h : Ok4 b s) (hb : b ≤ 999997) (i : Int) : Ok4 (b + 1) (pStep s i) := by
  unfold pStep
  split
  · exact h.up (by omega)
  · next f ht =>
    have hf := top_S h.few ht
    split
    · unfold pPop
      split
      · split
        · exact ((h.mem (m := mLoad s.M 0) rfl rfl).log (by omega) i 9 0 0 0).back i 0 2
        · exact ((h.mem (m := mLoad s.M 0) rfl rfl).set (f := ⟨f.op, 1, f.R.set 0 (mVal s.M 0), f.S⟩) hf i).up (by omega)
      · split
        · exact ((h.mem (m := mLoad s.M (pLink (pIdx (f.R.getD 0 0)))) rfl rfl).set (f := ⟨f.op, 2, f.R.set 1 (mVal s.M (pLink (pIdx (f.R.getD 0 0)))), f.S⟩) hf i).up (by omega)
        · split
          · exact (h.swap hf i _ _ _ _).up (by omega)
          · exact h.up (by omega)
    · split
      · unfold pPush
        split
        · exact ((h.mem (m := mLoad s.M 0) rfl rfl).set (f := ⟨f.op, 1, f.R.set 1 (mVal s.M 0), f.S⟩) hf i).up (by omega)
        · split
          · have hl := mStore_len s.M (pLink (f.R.getD 0 0)) (pIdx (f.R.getD 1 0))
            exact ((h.mem hl.1 (by rw [hl.2])).set (f := ⟨f.op, 2, f.R, f.S⟩) hf i).up (by omega)
          · split
            · exact (h.swap hf i _ _ _ _).up (by omega)
            · exact h.up (by omega)
      · exact h.up (by omega)

/-- One core, alone. -/
def one1 (M : Ar) (F : List Fr) (v e : Int) (L : List Evt) : Sy := ⟨M, [⟨F, v, e, 0, 0, 0, []⟩], L⟩
def fr1 (op pc r0 r1 : Int) : Fr := ⟨op, pc, [r0, r1, 0, 0, 0, 0, 0, 0], []⟩
theorem one_at (M : Ar) (F : List Fr) (v e : Int) (L : List Evt) : pAt (one1 M F v e L) 0 = some ⟨F, v, e, 0, 0, 0, []⟩ := by simp [pAt, syHas, one1]
theorem one_top (M : Ar) (f : Fr) (v e : Int) (L : List Evt) : pTop (one1 M [f] v e L) 0 = some f := by unfold pTop; rw [one_at]; rfl
theorem one_set (M : Ar) (f g : Fr) (v e : Int) (L : List Evt) : pSet (one1 M [f] v e L) 0 g = one1 M [g] v e L := by unfold pSet; rw [one_at]; rfl
theorem one_back (M : Ar) (f : Fr) (v e v' e' : Int) (L : List Evt) : pBack (one1 M [f] v e L) 0 v' e' = one1 M [] v' e' L := by unfold pBack; rw [one_at]; rfl
theorem one_call (M : Ar) (f : Fr) (v e : Int) (L : List Evt) : pCall (one1 M [] v e L) 0 f = one1 M [f] v e L := by unfold pCall; rw [one_at]; rfl
theorem one_log (M : Ar) (F : List Fr) (v e k a b z : Int) (L : List Evt) : pLog (one1 M F v e L) 0 k a b z = one1 M F v e (L ++ [⟨0, k, a, b, z⟩]) := by
  unfold pLog
  rw [if_pos (by simp [syHas, one1])]
  rfl
theorem one_step0 (M : Ar) (v e : Int) (L : List Evt) : pStep (one1 M [] v e L) 0 = one1 M [] v e L := by
  have : pTop (one1 M [] v e L) 0 = none := by unfold pTop; rw [one_at]; rfl
  unfold pStep
  rw [this]
theorem pstep_pop {s : Sy} {i : Int} {f : Fr} (h : pTop s i = some f) (h1 : f.op = 1) : pStep s i = pPop s i f s := by
  unfold pStep
  rw [h]
  dsimp only
  rw [if_pos h1]
theorem pstep_push {s : Sy} {i : Int} {f : Fr} (h : pTop s i = some f) (h1 : f.op = 2) : pStep s i = pPush s i f s := by
  unfold pStep
  rw [h]
  dsimp only
  rw [if_neg (by omega), if_pos h1]
theorem load_same {M : Ar} {p : Int} (h : mBad M p = M.bad) : mLoad M p = M := by
  obtain ⟨W, G, b⟩ := M
  unfold mLoad
  rw [h]
def step3 (s : Sy) : Sy := pStep (pStep (pStep s 0) 0) 0
theorem pop_alone {M : Ar} {v e : Int} {L : List Evt} (h0 : mBad M 0 = M.bad) (hi : ¬ pIdx (mVal M 0) = 0) (hl : mBad M (pLink (pIdx (mVal M 0))) = M.bad) (hin : mIs M 0 (mVal M 0) = true) :
    step3 (pCall (one1 M [] v e L) 0 (fr1 1 0 0 0)) = one1 (mTurn (mCas M 0 (mVal M 0) (pNext (mVal M 0) (mVal M (pLink (pIdx (mVal M 0)))) 0)) (pIdx (mVal M 0)) 1) [] (pIdx (mVal M 0)) 0 L := by
  have e1 : pStep (one1 M [fr1 1 0 0 0] v e L) 0 = one1 M [fr1 1 1 (mVal M 0) 0] v e L := by
    rw [pstep_pop (one_top _ _ _ _ _) rfl]
    unfold pPop
    rw [if_pos (show (fr1 1 0 0 0).pc = 0 from rfl), if_neg (show ¬ pIdx (mVal (one1 M [fr1 1 0 0 0] v e L).M 0) = 0 from hi)]
    show pSet (syMem (one1 M [fr1 1 0 0 0] v e L) (mLoad M 0)) 0 _ = _
    rw [load_same h0]
    exact one_set M _ _ v e L
  have e2 : pStep (one1 M [fr1 1 1 (mVal M 0) 0] v e L) 0 = one1 M [fr1 1 2 (mVal M 0) (mVal M (pLink (pIdx (mVal M 0))))] v e L := by
    rw [pstep_pop (one_top _ _ _ _ _) rfl]
    unfold pPop
    rw [if_neg (show ¬ (fr1 1 1 (mVal M 0) 0).pc = 0 by simp [fr1]), if_pos (show (fr1 1 1 (mVal M 0) 0).pc = 1 from rfl)]
    show pSet (syMem (one1 M [fr1 1 1 (mVal M 0) 0] v e L) (mLoad M (pLink (pIdx (mVal M 0))))) 0 _ = _
    rw [load_same hl]
    exact one_set M _ _ v e L
  unfold step3
  rw [one_call, e1, e2]
  rw [pstep_pop (one_top _ _ _ _ _) rfl]
  unfold pPop
  rw [if_neg (show ¬ (fr1 1 2 (mVal M 0) (mVal M (pLink (pIdx (mVal M 0))))).pc = 0 by simp [fr1]), if_neg (show ¬ (fr1 1 2 (mVal M 0) (mVal M (pLink (pIdx (mVal M 0))))).pc = 1 by simp [fr1]), if_pos (show (fr1 1 2 (mVal M 0) (mVal M (pLink (pIdx (mVal M 0))))).pc = 2 from rfl)]
  show pSwap _ 0 _ (mVal M 0) (mVal M (pLink (pIdx (mVal M 0)))) (pIdx (mVal M 0)) 1 = _
  unfold pSwap
  rw [if_pos (show mIs (one1 M _ v e L).M 0 (mVal M 0) = true from hin)]
  exact one_back _ _ v e _ 0 L
theorem pop_empty {M : Ar} {v e : Int} {L : List Evt} (h0 : mBad M 0 = M.bad) (hi : pIdx (mVal M 0) = 0) : step3 (pCall (one1 M [] v e L) 0 (fr1 1 0 0 0)) = one1 M [] 0 2 (L ++ [⟨0, 9, 0, 0, 0⟩]) := by
  have e1 : pStep (one1 M [fr1 1 0 0 0] v e L) 0 = one1 M [] 0 2 (L ++ [⟨0, 9, 0, 0, 0⟩]) := by
    rw [pstep_pop (one_top _ _ _ _ _) rfl]
    unfold pPop
    rw [if_pos (show (fr1 1 0 0 0).pc = 0 from rfl), if_pos (show pIdx (mVal (one1 M [fr1 1 0 0 0] v e L).M 0) = 0 from hi)]
    show pBack (pLog (syMem (one1 M [fr1 1 0 0 0] v e L) (mLoad M 0)) 0 9 0 0 0) 0 0 2 = _
    rw [load_same h0]
    show pBack (pLog (one1 M [fr1 1 0 0 0] v e L) 0 9 0 0 0) 0 0 2 = _
    rw [one_log, one_back]
  unfold step3
  rw [one_call, e1, one_step0, one_step0]
theorem push_alone {M : Ar} {v e p : Int} {L : List Evt} (h0 : mBad M 0 = M.bad) (hin : mIs (mStore M (pLink p) (pIdx (mVal M 0))) 0 (mVal M 0) = true) :
    step3 (pCall (one1 M [] v e L) 0 (fr1 2 0 p 0)) = one1 (mTurn (mCas (mStore M (pLink p) (pIdx (mVal M 0))) 0 (mVal M 0) (pNext (mVal M 0) p 0)) p 0) [] p 0 L := by
  have e1 : pStep (one1 M [fr1 2 0 p 0] v e L) 0 = one1 M [fr1 2 1 p (mVal M 0)] v e L := by
    rw [pstep_push (one_top _ _ _ _ _) rfl]
    unfold pPush
    rw [if_pos (show (fr1 2 0 p 0).pc = 0 from rfl)]
    show pSet (syMem (one1 M [fr1 2 0 p 0] v e L) (mLoad M 0)) 0 _ = _
    rw [load_same h0]
    exact one_set M _ _ v e L
  have e2 : pStep (one1 M [fr1 2 1 p (mVal M 0)] v e L) 0 = one1 (mStore M (pLink p) (pIdx (mVal M 0))) [fr1 2 2 p (mVal M 0)] v e L := by
    rw [pstep_push (one_top _ _ _ _ _) rfl]
    unfold pPush
    rw [if_neg (show ¬ (fr1 2 1 p (mVal M 0)).pc = 0 by simp [fr1]), if_pos (show (fr1 2 1 p (mVal M 0)).pc = 1 from rfl)]
    exact one_set _ _ _ v e L
  unfold step3
  rw [one_call, e1, e2]
  rw [pstep_push (one_top _ _ _ _ _) rfl]
  unfold pPush
  rw [if_neg (show ¬ (fr1 2 2 p (mVal M 0)).pc = 0 by simp [fr1]), if_neg (show ¬ (fr1 2 2 p (mVal M 0)).pc = 1 by simp [fr1]), if_pos (show (fr1 2 2 p (mVal M 0)).pc = 2 from rfl)]
  show pSwap _ 0 _ (mVal M 0) p p 0 = _
  unfold pSwap
  rw [if_pos (show mIs (one1 (mStore M (pLink p) (pIdx (mVal M 0))) _ v e L).M 0 (mVal M 0) = true from hin)]
  exact one_back _ _ v e _ 0 L
end Go.Proofs.Ytiakabnfjegeeaa

/- A core that alone pops all nodes, and pushes them again: plain mathematics. No Go text. -/
namespace Go.Proofs.Ytiakabnfjegeeaa
open Go.RowKit
set_option linter.unusedVariables false

/-- The next node, or none. -/
def nx (n k : Nat) : Int := if k < n then (k : Int) + 1 else 0
/-- A right arena of n nodes, not Bad, whose words are words. -/
structure IA (n : Nat) (M : Ar) : Prop where
  g : M.G.length = n + 1
  w : M.W.length = 128 + 4 * n
  bad : M.bad = false
  inn : ∀ x ∈ M.W, -9223372036854775808 ≤ x ∧ x ≤ 9223372036854775807
theorem IA.m0 {n : Nat} {M : Ar} (h : IA n M) : mBad M 0 = M.bad := by
  have := mBad_link (m := M) (k := 0) (by have := h.w; omega) (by omega)
  exact this
theorem IA.v0 {n : Nat} {M : Ar} (h : IA n M) : mVal M 0 = M.W.getD 0 0 := mVal_in (m := M) (k := 0) (by have := h.w; omega)
theorem link_nat {n j : Nat} (hn : n ≤ 200) (h : j ≤ n) : pLink (j : Int) = ((124 + 4 * j : Nat) : Int) := by rw [pLink_in (by omega) (by omega)]; omega
theorem IA.ml {n : Nat} {M : Ar} (h : IA n M) (hn : n ≤ 200) {j : Nat} (h1 : 1 ≤ j) (h2 : j ≤ n) : mBad M (pLink (j : Int)) = M.bad := by
  rw [link_nat hn h2]
  exact mBad_link (by have := h.w; omega) (by omega)
theorem IA.vl {n : Nat} {M : Ar} (h : IA n M) (hn : n ≤ 200) {j : Nat} (h1 : 1 ≤ j) (h2 : j ≤ n) : mVal M (pLink (j : Int)) = M.W.getD (124 + 4 * j) 0 := by
  rw [link_nat hn h2]
  exact mVal_in (by have := h.w; omega)
theorem IA.is {n : Nat} {M : Ar} (h : IA n M) : mIs M 0 (mVal M 0) = true := by
  have hw := h.w
  rw [h.v0]
  unfold mIs mIn
  rw [decide_eq_true ⟨by omega, by omega⟩]
  simp
theorem getD_set (l : List Int) (k j : Nat) (x : Int) (hk : k < l.length) : (l.set k x).getD j 0 = if k = j then x else l.getD j 0 := by
  rw [List.getD_eq_getElem?_getD, List.getElem?_set]
  by_cases q : k = j
  · subst q; rw [if_pos rfl, if_pos hk, if_pos rfl]; rfl
  · rw [if_neg q, if_neg q, ← List.getD_eq_getElem?_getD]
theorem mem_set {l : List Int} {k : Nat} {x : Int} (h : ∀ y ∈ l, -9223372036854775808 ≤ y ∧ y ≤ 9223372036854775807) (hx : -9223372036854775808 ≤ x ∧ x ≤ 9223372036854775807) : ∀ y ∈ l.set k x, -9223372036854775808 ≤ y ∧ y ≤ 9223372036854775807 := fun y hy => by
  rcases List.mem_or_eq_of_mem_set hy with q | q
  · exact h y q
  · rw [q]; exact hx
/-- A head that is swapped, and a node that is turned. -/
theorem cas_turn {n : Nat} {M : Ar} (h : IA n M) {nw a z : Int} {j : Nat} (h1 : 1 ≤ j) (h2 : j ≤ n) (hx : -9223372036854775808 ≤ nw ∧ nw ≤ 9223372036854775807) (hG : M.G.getD j 0 = a) (hm : mMay a z = true) :
    (mTurn (mCas M 0 (mVal M 0) nw) (j : Int) z) = ⟨M.W.set 0 nw, M.G.set j z, false⟩ ∧ IA n (mTurn (mCas M 0 (mVal M 0) nw) (j : Int) z) := by
  have hg := h.g
  have e1 : mCas M 0 (mVal M 0) nw = ⟨M.W.set 0 nw, M.G, false⟩ := by
    unfold mCas
    rw [h.is, h.m0, h.bad]
    simp
  have e2 : mTurns ⟨M.W.set 0 nw, M.G, false⟩ (j : Int) z = true := by
    unfold mTurns
    rw [decide_eq_true ⟨by omega, by simp only; omega⟩]
    simp only [Int.toNat_natCast, hG, hm, Bool.and_self]
  have e3 : mTurn (mCas M 0 (mVal M 0) nw) (j : Int) z = ⟨M.W.set 0 nw, M.G.set j z, false⟩ := by
    rw [e1]
    unfold mTurn
    rw [e2]
    simp
  refine ⟨e3, ?_⟩
  rw [e3]
  exact ⟨by simp [hg], by simp [h.w], rfl, mem_set h.inn hx⟩

/-- k nodes are popped. -/
structure I1 (n k : Nat) (M : Ar) : Prop where
  ia : IA n M
  hd : M.W.getD 0 0 = pWord k (nx n k) 0
  ln : ∀ j, 1 ≤ j → j ≤ n → M.W.getD (124 + 4 * j) 0 = nx n j
  gs : ∀ j, 1 ≤ j → j ≤ n → M.G.getD j 0 = if j ≤ k then 1 else 0
theorem word_bd {t i : Int} (h0 : 0 ≤ t) (h1 : t ≤ 1000) (h2 : 0 ≤ i) (h3 : i ≤ 1000) : -9223372036854775808 ≤ pWord t i 0 ∧ pWord t i 0 ≤ 9223372036854775807 := by unfold pWord; omega
theorem word_idx {t i : Int} (h2 : 0 ≤ i) (h3 : i ≤ 1000) : pIdx (pWord t i 0) = i := pIdx_word t i 0 (by omega) (by omega)
theorem word_next {t i j : Int} (h0 : 0 ≤ t) (h1 : t ≤ 1000) (h2 : 0 ≤ i) (h3 : i ≤ 1000) (h4 : 0 ≤ j) (h5 : j ≤ 1000) : pNext (pWord t i 0) j 0 = pWord (t + 1) j 0 := by
  unfold pNext
  rw [pTag_word t i 0 (by omega) (by omega) (by omega), Int.emod_eq_of_lt (by omega) (by omega), Int.emod_eq_of_lt (by omega) (by omega)]
  rfl
theorem nx_bd {n k : Nat} (hn : n ≤ 200) : 0 ≤ nx n k ∧ nx n k ≤ 1000 := by unfold nx; split <;> omega
theorem I1.pop {n k : Nat} {M : Ar} (h : I1 n k M) (hn : n ≤ 200) (hk : k < n) (v e : Int) (L : List Evt) :
    ∃ M', step3 (pCall (one1 M [] v e L) 0 (fr1 1 0 0 0)) = one1 M' [] ((k : Int) + 1) 0 L ∧ I1 n (k + 1) M' := by
  have hv : mVal M 0 = pWord k (nx n k) 0 := h.ia.v0.trans h.hd
  have hnk : nx n k = ((k + 1 : Nat) : Int) := by unfold nx; rw [if_pos hk]; omega
  have hi : pIdx (mVal M 0) = ((k + 1 : Nat) : Int) := by rw [hv, word_idx (nx_bd hn).1 (nx_bd hn).2, hnk]
  have hl : mVal M (pLink ((k + 1 : Nat) : Int)) = nx n (k + 1) := by rw [h.ia.vl hn (by omega) (by omega)]; exact h.ln _ (by omega) (by omega)
  have hb := nx_bd (n := n) (k := k + 1) hn
  have hc := pop_alone (v := v) (e := e) (L := L) h.ia.m0 (by rw [hi]; omega) (by rw [hi]; exact h.ia.ml hn (by omega) (by omega)) h.ia.is
  rw [hi, hl] at hc
  have hN : pNext (mVal M 0) (nx n (k + 1)) 0 = pWord ((k + 1 : Nat) : Int) (nx n (k + 1)) 0 := by
    rw [hv, word_next (by omega) (by omega) (nx_bd hn).1 (nx_bd hn).2 hb.1 hb.2]
    congr 1
  rw [hN] at hc
  obtain ⟨e3, ia⟩ := cas_turn (j := k + 1) (z := 1) h.ia (by omega) (by omega) (word_bd (t := ((k + 1 : Nat) : Int)) (i := nx n (k + 1)) (by omega) (by omega) hb.1 hb.2) (h.gs (k + 1) (by omega) (by omega)) (by rw [if_neg (by omega)]; rfl)
  refine ⟨_, by rw [hc, show ((k : Int) + 1) = ((k + 1 : Nat) : Int) by omega], ?_⟩
  rw [e3] at ia ⊢
  have hw := h.ia.w
  have hg := h.ia.g
  refine ⟨ia, ?_, fun j j1 j2 => ?_, fun j j1 j2 => ?_⟩
  · show (M.W.set 0 _).getD 0 0 = _
    rw [getD_set _ _ _ _ (by omega), if_pos rfl]
  · show (M.W.set 0 _).getD _ 0 = _
    rw [getD_set _ _ _ _ (by omega), if_neg (by omega)]
    exact h.ln j j1 j2
  · show (M.G.set (k + 1) 1).getD j 0 = _
    rw [getD_set _ _ _ _ (by omega)]
    by_cases q : k + 1 = j
    · rw [if_pos q, if_pos (by omega)]
    · rw [if_neg q, h.gs j j1 j2]
      by_cases q2 : j ≤ k
      · rw [if_pos q2, if_pos (by omega)]
      · rw [if_neg q2, if_neg (by omega)]
theorem I1.full {n : Nat} {M : Ar} (h : I1 n n M) (hn : n ≤ 200) (v e : Int) (L : List Evt) : step3 (pCall (one1 M [] v e L) 0 (fr1 1 0 0 0)) = one1 M [] 0 2 (L ++ [⟨0, 9, 0, 0, 0⟩]) := by
  refine pop_empty h.ia.m0 ?_
  rw [h.ia.v0, h.hd, word_idx (nx_bd hn).1 (nx_bd hn).2]
  unfold nx
  rw [if_neg (by omega)]

/-- All are popped, and k are pushed again. -/
structure I2 (n k : Nat) (M : Ar) : Prop where
  ia : IA n M
  hd : M.W.getD 0 0 = pWord ((n : Int) + k) k 0
  ln : ∀ j, 1 ≤ j → j ≤ k → M.W.getD (124 + 4 * j) 0 = (j : Int) - 1
  gs : ∀ j, 1 ≤ j → j ≤ n → M.G.getD j 0 = if j ≤ k then 0 else 1
theorem I1.to2 {n : Nat} {M : Ar} (h : I1 n n M) : I2 n 0 M := by
  refine ⟨h.ia, ?_, fun j j1 j2 => by omega, fun j j1 j2 => ?_⟩
  · rw [h.hd]; unfold nx; rw [if_neg (by omega)]; simp
  · rw [h.gs j j1 j2, if_pos j2, if_neg (by omega)]
theorem I2.push {n k : Nat} {M : Ar} (h : I2 n k M) (hn : n ≤ 200) (hk : k < n) (v e : Int) (L : List Evt) :
    ∃ M', step3 (pCall (one1 M [] v e L) 0 (fr1 2 0 ((k : Int) + 1) 0)) = one1 M' [] ((k : Int) + 1) 0 L ∧ I2 n (k + 1) M' := by
  have hw := h.ia.w
  have hg := h.ia.g
  have hv : mVal M 0 = pWord ((n : Int) + k) k 0 := h.ia.v0.trans h.hd
  have hi : pIdx (mVal M 0) = (k : Int) := by rw [hv, word_idx (by omega) (by omega)]
  have ek : (k : Int) + 1 = ((k + 1 : Nat) : Int) := by omega
  obtain ⟨M1, hM1⟩ : ∃ m, m = mStore M (pLink ((k : Int) + 1)) (pIdx (mVal M 0)) := ⟨_, rfl⟩
  have hlt : 124 + 4 * (k + 1) < M.W.length := by omega
  have e1 : M1 = ⟨M.W.set (124 + 4 * (k + 1)) k, M.G, false⟩ := by
    rw [hM1, ek, link_nat hn (by omega), hi]
    have a1 := mStore_in (m := M) hlt (k : Int)
    have a2 := mStore_bad (m := M) hlt (by omega) (k : Int)
    have a3 := (mStore_len M ((124 + 4 * (k + 1) : Nat) : Int) (k : Int)).2
    rw [h.ia.bad] at a2
    cases hm : mStore M ((124 + 4 * (k + 1) : Nat) : Int) (k : Int)
    rw [hm] at a1 a2 a3
    simp only at a1 a2 a3
    rw [a1, a2, a3]
  have ia1 : IA n M1 := by
    rw [e1]
    exact ⟨hg, by simp [hw], rfl, mem_set h.ia.inn (by omega)⟩
  have hv1 : mVal M1 0 = mVal M 0 := by
    rw [ia1.v0, h.ia.v0, e1]
    show (M.W.set _ _).getD 0 0 = _
    rw [getD_set _ _ _ _ hlt, if_neg (by omega)]
  have hc := push_alone (M := M) (v := v) (e := e) (p := (k : Int) + 1) (L := L) h.ia.m0 (by rw [← hM1, ← hv1]; exact ia1.is)
  rw [← hM1] at hc
  have hN : pNext (mVal M 0) ((k : Int) + 1) 0 = pWord ((n : Int) + ((k + 1 : Nat) : Int)) ((k + 1 : Nat) : Int) 0 := by
    rw [hv, word_next (by omega) (by omega) (by omega) (by omega) (by omega) (by omega)]
    first | (congr 1; omega) | congr 1
  rw [hN, ← hv1, ek] at hc
  have hgk : M1.G.getD (k + 1) 0 = 1 := by rw [e1]; show M.G.getD (k + 1) 0 = 1; rw [h.gs (k + 1) (by omega) (by omega), if_neg (by omega)]
  obtain ⟨e3, ia⟩ := cas_turn (j := k + 1) (z := 0) ia1 (by omega) (by omega) (word_bd (t := (n : Int) + ((k + 1 : Nat) : Int)) (i := ((k + 1 : Nat) : Int)) (by omega) (by omega) (by omega) (by omega)) hgk rfl
  refine ⟨_, by rw [ek]; exact hc, ?_⟩
  rw [e3] at ia ⊢
  have w1 : M1.W = M.W.set (124 + 4 * (k + 1)) k := by rw [e1]
  have g1 : M1.G = M.G := by rw [e1]
  have hw1 := ia1.w
  refine ⟨ia, ?_, fun j j1 j2 => ?_, fun j j1 j2 => ?_⟩
  · show (M1.W.set 0 _).getD 0 0 = _
    rw [getD_set _ _ _ _ (by omega), if_pos rfl]
  · show (M1.W.set 0 _).getD _ 0 = _
    rw [getD_set _ _ _ _ (by omega), if_neg (by omega), w1, getD_set _ _ _ _ hlt]
    by_cases q : 124 + 4 * (k + 1) = 124 + 4 * j
    · rw [if_pos q]; omega
    · rw [if_neg q]; exact h.ln j j1 (by omega)
  · show (M1.G.set (k + 1) 0).getD j 0 = _
    rw [g1, getD_set _ _ _ _ (by omega)]
    by_cases q : k + 1 = j
    · rw [if_pos q, if_pos (by omega)]
    · rw [if_neg q, h.gs j j1 j2]
      by_cases q2 : j ≤ k
      · rw [if_pos q2, if_pos (by omega)]
      · rw [if_neg q2, if_neg (by omega)]

/-- n, n - 1, and so on, k of them. -/
def down (n k : Nat) : List Int := (List.range k).map (fun (i : Nat) => (n : Int) - i)
theorem down_succ (n k : Nat) : down n (k + 1) = down n k ++ [(n : Int) - k] := by simp [down, List.range_succ]
theorem down_len (n k : Nat) : (down n k).length = k := by simp [down]
theorem down_at {n k i : Nat} (h : i < k) : (down n k)[i]? = some ((n : Int) - i) := by simp [down, h]
theorem down_mem {n k : Nat} {x : Int} (h : x ∈ down n k) : (n : Int) - k < x := by
  unfold down at h
  obtain ⟨i, hi, rfl⟩ := List.mem_map.1 h
  have := List.mem_range.1 hi
  omega
theorem I2.walkAt {n : Nat} {M : Ar} (h : I2 n n M) (hn : n ≤ 200) : ∀ k, k ≤ n → WalkAt M ((n : Int) - k) (down n k)
  | 0, _ => by
    have := WalkAt.start M
    rw [h.ia.v0, h.hd, word_idx (by omega) (by omega)] at this
    simpa [down] using this
  | k + 1, hk => by
    have ih := I2.walkAt h hn k (by omega)
    have hg := h.ia.g
    have := ih.next (by omega) (by omega) (fun hm => by have := down_mem hm; omega)
    rw [show (n : Int) - k = ((n - k : Nat) : Int) by omega, h.ia.vl hn (by omega) (by omega), h.ln (n - k) (by omega) (by omega)] at this
    rw [down_succ, show (n : Int) - (k + 1 : Nat) = ((n - k : Nat) : Int) - 1 by omega, show (n : Int) - k = ((n - k : Nat) : Int) by omega]
    exact this
theorem I2.walk {n : Nat} {M : Ar} (h : I2 n n M) (hn : n ≤ 200) : pWalk M = some (down n n) := by
  have := h.walkAt hn n (Nat.le_refl _)
  rw [show (n : Int) - n = 0 by omega] at this
  exact this.done

/-- The states behind k pops, and behind k pushes. -/
def stA (n : Nat) : Nat → Sy
  | 0 => syMem (syNew 1 n) (pFill (syNew 1 n).M)
  | k + 1 => step3 (pCall (stA n k) 0 (fr1 1 0 0 0))
def stB (n : Nat) : Nat → Sy
  | 0 => stA n (n + 1)
  | k + 1 => step3 (pCall (stB n k) 0 (fr1 2 0 ((k : Int) + 1) 0))
theorem new_rt {n : Nat} (h1 : 1 ≤ n) (h2 : n ≤ 200) : Rt (mNew n) := ⟨by simp [mNew]; omega, by simp [mNew]; omega, by simp [mNew]; omega⟩
theorem stA0 {n : Nat} (h1 : 1 ≤ n) (h2 : n ≤ 200) : ∃ M, stA n 0 = one1 M [] 0 0 [] ∧ I1 n 0 M := by
  have hr := new_rt h1 h2
  have hf := fill_W hr
  have hl := pFill_len (mNew n)
  have hgl : (mNew n).G.length = n + 1 := by simp [mNew]; omega
  refine ⟨pFill (mNew n), rfl, ⟨by rw [hl.2, hgl], by rw [hl.1]; simp [mNew], hf.2, fill_in hr (fun x hx => by simp [mNew] at hx; omega)⟩, ?_, fun j j1 j2 => ?_, fun j j1 j2 => ?_⟩
  · rw [List.getD_eq_getElem?_getD, hf.1 0]
    unfold gw nx pWord
    rw [if_pos rfl, if_pos (by omega)]
    rfl
  · have := fill_link hr (i := j) j1 (by omega)
    rw [link_nat h2 j2, mVal_in (by rw [hl.1]; simp [mNew]; omega)] at this
    rw [this, hgl]
    unfold nx
    by_cases q : j + 1 = n + 1
    · rw [if_pos q, if_neg (by omega)]
    · rw [if_neg q, if_pos (by omega)]
  · rw [hl.2, if_neg (by omega), List.getD_eq_getElem?_getD]
    simp only [mNew]
    rw [List.getElem?_replicate, if_pos (by omega)]
    rfl
theorem stA_at {n : Nat} (h1 : 1 ≤ n) (h2 : n ≤ 200) : ∀ k, k ≤ n → ∃ M v, stA n k = one1 M [] v 0 [] ∧ I1 n k M ∧ (1 ≤ k → v = (k : Int))
  | 0, _ => by
    obtain ⟨M, e, h⟩ := stA0 h1 h2
    exact ⟨M, 0, e, h, fun h => by omega⟩
  | k + 1, hk => by
    obtain ⟨M, v, e, h, _⟩ := stA_at h1 h2 k (by omega)
    obtain ⟨M', e', h'⟩ := h.pop h2 (by omega) v 0 []
    refine ⟨M', (k : Int) + 1, ?_, h', fun _ => by omega⟩
    rw [stA, e]
    exact e'
theorem stA_end {n : Nat} (h1 : 1 ≤ n) (h2 : n ≤ 200) : ∃ M, stA n (n + 1) = one1 M [] 0 2 [⟨0, 9, 0, 0, 0⟩] ∧ I2 n 0 M := by
  obtain ⟨M, v, e, h, _⟩ := stA_at h1 h2 n (Nat.le_refl _)
  refine ⟨M, ?_, h.to2⟩
  rw [stA, e]
  exact h.full h2 v 0 []
theorem stB_at {n : Nat} (h1 : 1 ≤ n) (h2 : n ≤ 200) : ∀ k, k ≤ n → ∃ M v e, stB n k = one1 M [] v e [⟨0, 9, 0, 0, 0⟩] ∧ I2 n k M
  | 0, _ => by
    obtain ⟨M, e, h⟩ := stA_end h1 h2
    exact ⟨M, 0, 2, e, h⟩
  | k + 1, hk => by
    obtain ⟨M, v, e, eq, h⟩ := stB_at h1 h2 k (by omega)
    obtain ⟨M', e', h'⟩ := h.push h2 (by omega) v e [⟨0, 9, 0, 0, 0⟩]
    refine ⟨M', (k : Int) + 1, 0, ?_, h'⟩
    rw [stB, eq]
    exact e'
theorem one_ok {n : Nat} {M : Ar} (h : IA n M) (h1 : 1 ≤ n) (h2 : n ≤ 200) (v e : Int) (L : List Evt) (b : Nat) (hb : b ≤ 999998) (hL : L.length ≤ b) : Ok4 b (one1 M [] v e L) := by
  have hg := h.g
  have hw := h.w
  refine ⟨⟨?_, ?_, ?_, ?_, ?_⟩, ?_, hL⟩
  · show M.W.length ≤ _; omega
  · show M.G.length ≤ _; omega
  · show ([⟨[], v, e, 0, 0, 0, []⟩] : List Co).length ≤ _; simp
  · show L.length ≤ _; omega
  · intro x hx
    have : x = ⟨[], v, e, 0, 0, 0, []⟩ := by simpa [one1] using hx
    subst this
    simp
  · show 2 ≤ M.G.length; omega
theorem stA_ok {n : Nat} (h1 : 1 ≤ n) (h2 : n ≤ 200) {k : Nat} (hk : k ≤ n + 1) : Ok4 1 (stA n k) := by
  rcases Nat.lt_or_ge n k with q | q
  · obtain ⟨M, e, h⟩ := stA_end h1 h2
    have : k = n + 1 := by omega
    subst this
    rw [e]
    exact one_ok h.ia h1 h2 _ _ _ 1 (by omega) (by simp)
  · obtain ⟨M, v, e, h, _⟩ := stA_at h1 h2 k q
    rw [e]
    exact one_ok h.ia h1 h2 _ _ _ 1 (by omega) (by simp)
theorem stB_ok {n : Nat} (h1 : 1 ≤ n) (h2 : n ≤ 200) {k : Nat} (hk : k ≤ n) : Ok4 1 (stB n k) := by
  obtain ⟨M, v, e, eq, h⟩ := stB_at h1 h2 k hk
  rw [eq]
  exact one_ok h.ia h1 h2 _ _ _ 1 (by omega) (by simp)
/-- j steps. -/
def stepN : Nat → Sy → Sy
  | 0, s => s
  | j + 1, s => pStep (stepN j s) 0
theorem stepN_ok {s : Sy} (h : Ok4 1 s) : ∀ j, j ≤ 3 → Ok4 (1 + j) (stepN j s)
  | 0, _ => h
  | j + 1, hj => by
    have := (stepN_ok h j (by omega)).step (by omega) 0
    exact this
end Go.Proofs.Ytiakabnfjegeeaa

/- Many cores pop and push: a step of one of them, and what the arena's list becomes: plain mathematics. No Go text. -/
namespace Go.Proofs.Ytiakabnfjegeeaa
open Go.RowKit
set_option linter.unusedVariables false

/-- A core with other frames; a core that has ended an op. -/
def cF (x : Co) (F : List Fr) : Co := ⟨F, x.v, x.e, x.x0, x.x1, x.x2, x.ret⟩
def cB (x : Co) (v e : Int) : Co := ⟨[], v, e, x.x0, x.x1, x.x2, x.ret⟩
theorem at_core {s : Sy} {k : Nat} {x : Co} (h : s.C[k]? = some x) : pAt s (k : Int) = some x := by
  have hk := (List.getElem?_eq_some_iff.1 h).1
  have h1 : syHas s (k : Int) = true := by simp [syHas]; omega
  simp [pAt, h1, h]
theorem top_core {s : Sy} {k : Nat} {x : Co} {f : Fr} (h : s.C[k]? = some x) (hF : x.F = [f]) : pTop s (k : Int) = some f := by
  unfold pTop; rw [at_core h]; simp [hF]
theorem top_idle {s : Sy} {k : Nat} {x : Co} (h : s.C[k]? = some x) (hF : x.F = []) : pTop s (k : Int) = none := by
  unfold pTop; rw [at_core h]; simp [hF]
theorem mem_core {s : Sy} {M : Ar} {k : Nat} {x : Co} (h : s.C[k]? = some x) : (syMem s M).C[k]? = some x := h
theorem set_core {s : Sy} {k : Nat} {x : Co} {f g : Fr} (h : s.C[k]? = some x) (hF : x.F = [f]) : pSet s (k : Int) g = ⟨s.M, s.C.set k (cF x [g]), s.L⟩ := by
  unfold pSet; rw [at_core h]; simp [hF, syWith, coSet, cF]
theorem back_core {s : Sy} {k : Nat} {x : Co} {f : Fr} (h : s.C[k]? = some x) (hF : x.F = [f]) (v e : Int) : pBack s (k : Int) v e = ⟨s.M, s.C.set k (cB x v e), s.L⟩ := by
  unfold pBack; rw [at_core h]; simp [hF, syWith, coBack, cB]
theorem call_core {s : Sy} {k : Nat} {x : Co} (h : s.C[k]? = some x) (hF : x.F = []) (g : Fr) : pCall s (k : Int) g = ⟨s.M, s.C.set k (cF x [g]), s.L⟩ := by
  unfold pCall; rw [at_core h]; simp [hF, syWith, coCall, cF]
theorem log_core {s : Sy} {k : Nat} {x : Co} (h : s.C[k]? = some x) (a b c d : Int) : pLog s (k : Int) a b c d = ⟨s.M, s.C, s.L ++ [⟨k, a, b, c, d⟩]⟩ := by
  have hk := (List.getElem?_eq_some_iff.1 h).1
  unfold pLog
  rw [if_pos (by simp [syHas]; omega)]
  rfl

section
variable {s : Sy} {k n : Nat} {x : Co} {r0 r1 : Int}
theorem pop0_full (h : s.C[k]? = some x) (ia : IA n s.M) (hF : x.F = [fr1 1 0 r0 r1]) (hi : pIdx (mVal s.M 0) = 0) : pStep s (k : Int) = ⟨s.M, s.C.set k (cB x 0 2), s.L ++ [⟨k, 9, 0, 0, 0⟩]⟩ := by
  rw [pstep_pop (top_core h hF) rfl]
  unfold pPop
  rw [if_pos (show (fr1 1 0 r0 r1).pc = 0 from rfl), if_pos hi, load_same ia.m0, log_core (mem_core h), back_core (f := fr1 1 0 r0 r1) (x := x) (by exact h) hF]
  rfl
theorem pop0_go (h : s.C[k]? = some x) (ia : IA n s.M) (hF : x.F = [fr1 1 0 r0 r1]) (hi : ¬ pIdx (mVal s.M 0) = 0) : pStep s (k : Int) = ⟨s.M, s.C.set k (cF x [fr1 1 1 (mVal s.M 0) r1]), s.L⟩ := by
  rw [pstep_pop (top_core h hF) rfl]
  unfold pPop
  rw [if_pos (show (fr1 1 0 r0 r1).pc = 0 from rfl), if_neg hi, load_same ia.m0, set_core (f := fr1 1 0 r0 r1) (x := x) (mem_core h) hF]
  rfl
theorem pop1_go (h : s.C[k]? = some x) (hF : x.F = [fr1 1 1 r0 r1]) (hl : mBad s.M (pLink (pIdx r0)) = s.M.bad) : pStep s (k : Int) = ⟨s.M, s.C.set k (cF x [fr1 1 2 r0 (mVal s.M (pLink (pIdx r0)))]), s.L⟩ := by
  rw [pstep_pop (top_core h hF) rfl]
  unfold pPop
  rw [if_neg (show ¬ (fr1 1 1 r0 r1).pc = 0 by simp [fr1]), if_pos (show (fr1 1 1 r0 r1).pc = 1 from rfl)]
  show pSet (syMem s (mLoad s.M (pLink (pIdx r0)))) (k : Int) _ = _
  rw [load_same hl, set_core (f := fr1 1 1 r0 r1) (x := x) (mem_core h) hF]
  rfl
theorem pop2_hit (h : s.C[k]? = some x) (hF : x.F = [fr1 1 2 r0 r1]) (hm : mIs s.M 0 r0 = true) : pStep s (k : Int) = ⟨mTurn (mCas s.M 0 r0 (pNext r0 r1 0)) (pIdx r0) 1, s.C.set k (cB x (pIdx r0) 0), s.L⟩ := by
  rw [pstep_pop (top_core h hF) rfl]
  unfold pPop
  rw [if_neg (show ¬ (fr1 1 2 r0 r1).pc = 0 by simp [fr1]), if_neg (show ¬ (fr1 1 2 r0 r1).pc = 1 by simp [fr1]), if_pos (show (fr1 1 2 r0 r1).pc = 2 from rfl)]
  show pSwap s (k : Int) _ r0 r1 (pIdx r0) 1 = _
  unfold pSwap
  rw [if_pos hm, back_core (f := fr1 1 2 r0 r1) (x := x) (mem_core h) hF]
  rfl
theorem cas_miss (ia : IA n s.M) {o : Int} (hm : mIs s.M 0 o = false) (nw : Int) : mCas s.M 0 o nw = s.M := by
  have hb := ia.m0
  unfold mCas
  rw [hm, hb]
  cases s.M
  simp
theorem pop2_miss (h : s.C[k]? = some x) (ia : IA n s.M) (hF : x.F = [fr1 1 2 r0 r1]) (hm : mIs s.M 0 r0 = false) : pStep s (k : Int) = ⟨s.M, s.C.set k (cF x [fr1 1 0 r0 r1]), s.L⟩ := by
  rw [pstep_pop (top_core h hF) rfl]
  unfold pPop
  rw [if_neg (show ¬ (fr1 1 2 r0 r1).pc = 0 by simp [fr1]), if_neg (show ¬ (fr1 1 2 r0 r1).pc = 1 by simp [fr1]), if_pos (show (fr1 1 2 r0 r1).pc = 2 from rfl)]
  show pSwap s (k : Int) _ r0 r1 (pIdx r0) 1 = _
  unfold pSwap
  rw [if_neg (by rw [hm]; simp), cas_miss ia hm, set_core (f := fr1 1 2 r0 r1) (x := x) (mem_core h) hF]
  rfl
theorem push0_go (h : s.C[k]? = some x) (ia : IA n s.M) (hF : x.F = [fr1 2 0 r0 r1]) : pStep s (k : Int) = ⟨s.M, s.C.set k (cF x [fr1 2 1 r0 (mVal s.M 0)]), s.L⟩ := by
  rw [pstep_push (top_core h hF) rfl]
  unfold pPush
  rw [if_pos (show (fr1 2 0 r0 r1).pc = 0 from rfl), load_same ia.m0, set_core (f := fr1 2 0 r0 r1) (x := x) (mem_core h) hF]
  rfl
theorem push1_go (h : s.C[k]? = some x) (hF : x.F = [fr1 2 1 r0 r1]) : pStep s (k : Int) = ⟨mStore s.M (pLink r0) (pIdx r1), s.C.set k (cF x [fr1 2 2 r0 r1]), s.L⟩ := by
  rw [pstep_push (top_core h hF) rfl]
  unfold pPush
  rw [if_neg (show ¬ (fr1 2 1 r0 r1).pc = 0 by simp [fr1]), if_pos (show (fr1 2 1 r0 r1).pc = 1 from rfl)]
  show pSet (syMem s (mStore s.M (pLink r0) (pIdx r1))) (k : Int) _ = _
  rw [set_core (f := fr1 2 1 r0 r1) (x := x) (mem_core h) hF]
  rfl
theorem push2_hit (h : s.C[k]? = some x) (hF : x.F = [fr1 2 2 r0 r1]) (hm : mIs s.M 0 r1 = true) : pStep s (k : Int) = ⟨mTurn (mCas s.M 0 r1 (pNext r1 r0 0)) r0 0, s.C.set k (cB x r0 0), s.L⟩ := by
  rw [pstep_push (top_core h hF) rfl]
  unfold pPush
  rw [if_neg (show ¬ (fr1 2 2 r0 r1).pc = 0 by simp [fr1]), if_neg (show ¬ (fr1 2 2 r0 r1).pc = 1 by simp [fr1]), if_pos (show (fr1 2 2 r0 r1).pc = 2 from rfl)]
  show pSwap s (k : Int) _ r1 r0 r0 0 = _
  unfold pSwap
  rw [if_pos hm, back_core (f := fr1 2 2 r0 r1) (x := x) (mem_core h) hF]
  rfl
theorem push2_miss (h : s.C[k]? = some x) (ia : IA n s.M) (hF : x.F = [fr1 2 2 r0 r1]) (hm : mIs s.M 0 r1 = false) : pStep s (k : Int) = ⟨s.M, s.C.set k (cF x [fr1 2 0 r0 r1]), s.L⟩ := by
  rw [pstep_push (top_core h hF) rfl]
  unfold pPush
  rw [if_neg (show ¬ (fr1 2 2 r0 r1).pc = 0 by simp [fr1]), if_neg (show ¬ (fr1 2 2 r0 r1).pc = 1 by simp [fr1]), if_pos (show (fr1 2 2 r0 r1).pc = 2 from rfl)]
  show pSwap s (k : Int) _ r1 r0 r0 0 = _
  unfold pSwap
  rw [if_neg (by rw [hm]; simp), cas_miss ia hm, set_core (f := fr1 2 2 r0 r1) (x := x) (mem_core h) hF]
  rfl
end

/-- The first one of a list of nodes, or 0. -/
def hdN (l : List Nat) : Int := (l.headD 0 : Nat)
/-- The arena's list is l, of tag T. -/
structure Tri (n T : Nat) (l : List Nat) (M : Ar) : Prop where
  ia : IA n M
  hd : M.W.getD 0 0 = pWord T (hdN l) 0
  nd : l.Nodup
  rg : ∀ j ∈ l, 1 ≤ j ∧ j ≤ n
  ch : ∀ a j r, l = a ++ j :: r → M.W.getD (124 + 4 * j) 0 = hdN r
  lk : ∀ j, 1 ≤ j → j ≤ n → 0 ≤ M.W.getD (124 + 4 * j) 0 ∧ M.W.getD (124 + 4 * j) 0 ≤ (n : Int)
  gs : ∀ j, 1 ≤ j → j ≤ n → M.G.getD j 0 = if j ∈ l then 0 else 1
theorem hdN_bd {n : Nat} {l : List Nat} (h : ∀ j ∈ l, 1 ≤ j ∧ j ≤ n) : 0 ≤ hdN l ∧ hdN l ≤ (n : Int) := by
  unfold hdN
  cases l with
  | nil => simp
  | cons a r => have := h a (by simp); simp; omega
/-- The first node is popped. -/
theorem Tri.pop {n T j : Nat} {r : List Nat} {M : Ar} (h : Tri n T (j :: r) M) (hn : n ≤ 200) (hT : T ≤ 900) :
    Tri n (T + 1) r (mTurn (mCas M 0 (mVal M 0) (pNext (mVal M 0) (hdN r) 0)) (j : Int) 1) := by
  have hj := h.rg j (by simp)
  have hr := hdN_bd (n := n) (l := r) (fun i hi => h.rg i (by simp [hi]))
  have hh := hdN_bd h.rg
  have hN : pNext (mVal M 0) (hdN r) 0 = pWord ((T + 1 : Nat) : Int) (hdN r) 0 := by
    rw [h.ia.v0, h.hd, word_next (by omega) (by omega) hh.1 (by omega) hr.1 (by omega)]
    first | (congr 1; omega) | congr 1
  rw [hN]
  obtain ⟨e3, ia⟩ := cas_turn (j := j) (z := 1) h.ia hj.1 hj.2 (word_bd (t := ((T + 1 : Nat) : Int)) (i := hdN r) (by omega) (by omega) hr.1 (by omega)) (h.gs j hj.1 hj.2) (by rw [if_pos (by simp)]; rfl)
  rw [e3] at ia ⊢
  have hw := h.ia.w
  have hg := h.ia.g
  have hnd := List.nodup_cons.1 h.nd
  refine ⟨ia, ?_, hnd.2, fun i hi => h.rg i (by simp [hi]), fun a i q e => ?_, fun i i1 i2 => ?_, fun i i1 i2 => ?_⟩
  · show (M.W.set 0 _).getD 0 0 = _
    rw [getD_set _ _ _ _ (by omega), if_pos rfl]
  · show (M.W.set 0 _).getD _ 0 = _
    rw [getD_set _ _ _ _ (by omega), if_neg (by omega)]
    exact h.ch (j :: a) i q (by rw [e]; rfl)
  · show 0 ≤ (M.W.set 0 _).getD _ 0 ∧ _
    rw [getD_set _ _ _ _ (by omega), if_neg (by omega)]
    exact h.lk i i1 i2
  · show (M.G.set j 1).getD i 0 = _
    rw [getD_set _ _ _ _ (by omega)]
    by_cases q : j = i
    · subst q; rw [if_pos rfl, if_neg hnd.1]
    · rw [if_neg q, h.gs i i1 i2]
      by_cases q2 : i ∈ r
      · rw [if_pos (by simp [q2]), if_pos q2]
      · rw [if_neg (by simp [q2]; omega), if_neg q2]
/-- The link of a node that isn't in the list is stored. -/
theorem Tri.link {n T p : Nat} {l : List Nat} {M : Ar} (h : Tri n T l M) (hn : n ≤ 200) (p1 : 1 ≤ p) (p2 : p ≤ n) (hp : p ∉ l) {v : Int} (v0 : 0 ≤ v) (v1 : v ≤ (n : Int)) :
    Tri n T l (mStore M (pLink (p : Int)) v) ∧ (mStore M (pLink (p : Int)) v).W.getD (124 + 4 * p) 0 = v ∧ (∀ j, 1 ≤ j → j ≤ n → j ≠ p → (mStore M (pLink (p : Int)) v).W.getD (124 + 4 * j) 0 = M.W.getD (124 + 4 * j) 0) ∧ mVal (mStore M (pLink (p : Int)) v) 0 = mVal M 0 := by
  have hw := h.ia.w
  have hg := h.ia.g
  have hlt : 124 + 4 * p < M.W.length := by omega
  rw [link_nat hn p2]
  have a1 := mStore_in (m := M) hlt v
  have a2 := mStore_bad (m := M) hlt (by omega) v
  have a3 := (mStore_len M ((124 + 4 * p : Nat) : Int) v).2
  obtain ⟨M1, hM1⟩ : ∃ m, m = mStore M ((124 + 4 * p : Nat) : Int) v := ⟨_, rfl⟩
  rw [← hM1] at a1 a2 a3 ⊢
  have ia1 : IA n M1 := ⟨by rw [a3]; exact hg, by rw [a1]; simp [hw], by rw [a2]; exact h.ia.bad, by rw [a1]; exact mem_set h.ia.inn (by omega)⟩
  have ho : ∀ j, 1 ≤ j → j ≤ n → j ≠ p → M1.W.getD (124 + 4 * j) 0 = M.W.getD (124 + 4 * j) 0 := fun j j1 j2 j3 => by
    rw [a1, getD_set _ _ _ _ hlt, if_neg (by omega)]
  have hs : M1.W.getD (124 + 4 * p) 0 = v := by rw [a1, getD_set _ _ _ _ hlt, if_pos rfl]
  have h0 : M1.W.getD 0 0 = M.W.getD 0 0 := by rw [a1, getD_set _ _ _ _ hlt, if_neg (by omega)]
  refine ⟨⟨ia1, by rw [h0]; exact h.hd, h.nd, h.rg, fun a j r e => ?_, fun j j1 j2 => ?_, fun j j1 j2 => by rw [a3]; exact h.gs j j1 j2⟩, hs, ho, by rw [ia1.v0, h.ia.v0, h0]⟩
  · have hj : j ∈ l := by rw [e]; simp
    have hjr := h.rg j hj
    rw [ho j hjr.1 hjr.2 (fun q => hp (q ▸ hj))]
    exact h.ch a j r e
  · by_cases q : j = p
    · subst q; rw [hs]; exact ⟨v0, v1⟩
    · rw [ho j j1 j2 q]; exact h.lk j j1 j2
/-- A node whose link tells the first one is pushed. -/
theorem Tri.push {n T p : Nat} {l : List Nat} {M : Ar} (h : Tri n T l M) (hn : n ≤ 200) (hT : T ≤ 900) (p1 : 1 ≤ p) (p2 : p ≤ n) (hp : p ∉ l) (hk : M.W.getD (124 + 4 * p) 0 = hdN l) :
    Tri n (T + 1) (p :: l) (mTurn (mCas M 0 (mVal M 0) (pNext (mVal M 0) (p : Int) 0)) (p : Int) 0) := by
  have hh := hdN_bd h.rg
  have hN : pNext (mVal M 0) (p : Int) 0 = pWord ((T + 1 : Nat) : Int) (p : Int) 0 := by
    rw [h.ia.v0, h.hd, word_next (by omega) (by omega) hh.1 (by omega) (by omega) (by omega)]
    first | (congr 1; omega) | congr 1
  rw [hN]
  obtain ⟨e3, ia⟩ := cas_turn (j := p) (z := 0) h.ia p1 p2 (word_bd (t := ((T + 1 : Nat) : Int)) (i := (p : Int)) (by omega) (by omega) (by omega) (by omega)) (h.gs p p1 p2) (by rw [if_neg hp]; rfl)
  rw [e3] at ia ⊢
  have hw := h.ia.w
  have hg := h.ia.g
  have hx : ∀ j, 1 ≤ j → (M.W.set 0 (pWord ((T + 1 : Nat) : Int) (p : Int) 0)).getD (124 + 4 * j) 0 = M.W.getD (124 + 4 * j) 0 := fun j j1 => by rw [getD_set _ _ _ _ (by omega), if_neg (by omega)]
  refine ⟨ia, ?_, List.nodup_cons.2 ⟨hp, h.nd⟩, fun i hi => ?_, fun a i q e => ?_, fun i i1 i2 => ?_, fun i i1 i2 => ?_⟩
  · show (M.W.set 0 _).getD 0 0 = _
    rw [getD_set _ _ _ _ (by omega), if_pos rfl]
    rfl
  · rcases List.mem_cons.1 hi with e | e
    · subst e; exact ⟨p1, p2⟩
    · exact h.rg i e
  · show (M.W.set 0 _).getD _ 0 = _
    cases a with
    | nil =>
      simp only [List.nil_append, List.cons.injEq] at e
      obtain ⟨rfl, rfl⟩ := e
      rw [hx p p1]
      exact hk
    | cons b a =>
      simp only [List.cons_append, List.cons.injEq] at e
      have hi : i ∈ l := by rw [e.2]; simp
      rw [hx i (h.rg i hi).1]
      exact h.ch a i q e.2
  · show 0 ≤ (M.W.set 0 _).getD _ 0 ∧ _
    rw [hx i i1]
    exact h.lk i i1 i2
  · show (M.G.set p 0).getD i 0 = _
    rw [getD_set _ _ _ _ (by omega)]
    by_cases q : p = i
    · subst q; rw [if_pos rfl, if_pos (by simp)]
    · rw [if_neg q, h.gs i i1 i2]
      by_cases q2 : i ∈ l
      · rw [if_pos q2, if_pos (by simp [q2])]
      · rw [if_neg q2, if_neg (by simp [q2]; omega)]
/-- The list is what is walked. -/
theorem Tri.walkAt {n T : Nat} {l : List Nat} {M : Ar} (h : Tri n T l M) (hn : n ≤ 200) : ∀ (k : Nat) (a r : List Nat), a.length = k → l = a ++ r → WalkAt M (hdN r) (a.map (fun (i : Nat) => (i : Int)))
  | 0, a, r, ha, e => by
    have : a = [] := List.length_eq_zero_iff.mp ha
    subst this
    have hh := hdN_bd h.rg
    have := WalkAt.start M
    rw [h.ia.v0, h.hd, word_idx hh.1 (by omega)] at this
    simp only [List.nil_append] at e
    rw [← e]
    exact this
  | k + 1, a, r, ha, e => by
    rcases List.eq_nil_or_concat a with q | ⟨b, j, q⟩
    · rw [q] at ha; simp at ha
    · have q' : a = b ++ [j] := by simpa using q
      subst q'
      have e2 : l = b ++ j :: r := by rw [e]; simp
      have hj := h.rg j (by rw [e2]; simp)
      have hg := h.ia.g
      have w0 := Tri.walkAt h hn k b (j :: r) (by simp at ha; exact ha) e2
      have hnd : j ∉ b := by
        have := h.nd
        rw [e2, List.nodup_append] at this
        exact fun hm => this.2.2 j hm j (by simp) rfl
      have := w0.next (show 1 ≤ hdN (j :: r) by simp [hdN]; omega) (show hdN (j :: r) ≤ _ by simp [hdN]; omega) (fun hm => by
        obtain ⟨i, hi, q⟩ := List.mem_map.1 hm
        have : i = j := by simp [hdN] at q; omega
        exact hnd (this ▸ hi))
      rw [show hdN (j :: r) = ((j : Nat) : Int) by simp [hdN], h.ia.vl hn hj.1 hj.2, h.ch b j r e2] at this
      simpa using this
theorem Tri.walk {n T : Nat} {l : List Nat} {M : Ar} (h : Tri n T l M) (hn : n ≤ 200) : pWalk M = some (l.map (fun (i : Nat) => (i : Int))) := by
  have := h.walkAt hn l.length l [] rfl (by simp)
  exact this.done
end Go.Proofs.Ytiakabnfjegeeaa

/- Plain mathematics of layer 5: OClear alone; a step of a core. No Go text. -/
namespace Go.Proofs.Ytiakabnfjegeeaa
open Go.RowKit
set_option linter.unusedVariables false

theorem root_bad {m : Ar} {n : Nat} (h : n < 128) (hw : 128 ≤ m.W.length) : mBad m (n : Int) = m.bad := by
  have h1 : mIn m.W (n : Int) = true := by simp [mIn]; omega
  have h2 : mNode m.G (n : Int) = 0 := by unfold mNode; rw [if_neg (by omega)]
  simp [mBad, h1, h2]
theorem root_store {m : Ar} {n : Nat} (h : n < 128) (hw : 128 ≤ m.W.length) (v : Int) : mStore m (n : Int) v = ⟨m.W.set n v, m.G, m.bad⟩ := by
  have h1 : mIn m.W (n : Int) = true := by simp [mIn]; omega
  unfold mStore; rw [root_bad h hw, if_pos h1]; rfl
theorem root_val {m : Ar} {n : Nat} (h : n < 128) (hw : 128 ≤ m.W.length) : mVal m (n : Int) = m.W.getD n 0 := by
  have h1 : mIn m.W (n : Int) = true := by simp [mIn]; omega
  unfold mVal; rw [if_pos h1]; rfl

theorem core_call {s : Sy} {k : Nat} {x : Co} (h : s.C[k]? = some x) (hl : x.F.length < 40) (g : Fr) : pCall s (k : Int) g = ⟨s.M, s.C.set k (cF x (x.F ++ [g])), s.L⟩ := by
  unfold pCall; rw [at_core h]
  have e : ¬ 40 ≤ x.F.length := by omega
  simp [e, syWith, coCall, cF]
theorem core_top {s : Sy} {k : Nat} {x : Co} {F : List Fr} {f : Fr} (h : s.C[k]? = some x) (hF : x.F = F ++ [f]) : pTop s (k : Int) = some f := by
  unfold pTop; rw [at_core h]; simp [hF]
theorem core_set {s : Sy} {k : Nat} {x : Co} {F : List Fr} {f : Fr} (h : s.C[k]? = some x) (hF : x.F = F ++ [f]) (g : Fr) : pSet s (k : Int) g = ⟨s.M, s.C.set k (cF x (F ++ [g])), s.L⟩ := by
  unfold pSet; rw [at_core h]; simp [hF, syWith, coSet, cF]
theorem core_back {s : Sy} {k : Nat} {x : Co} {F : List Fr} {f : Fr} (h : s.C[k]? = some x) (hF : x.F = F ++ [f]) (v e : Int) : pBack s (k : Int) v e = ⟨s.M, s.C.set k ⟨F, v, e, x.x0, x.x1, x.x2, x.ret⟩, s.L⟩ := by
  unfold pBack; rw [at_core h]; simp [hF, syWith, coBack]
theorem haz_clr {s : Sy} {i : Int} {f : Fr} (h : pTop s i = some f) (h1 : f.op = 4) : pHaz s i = pClr s i f s := by
  unfold pHaz; rw [h]; simp [h1]
theorem clr_go {s : Sy} {k : Nat} {x : Co} {F : List Fr} {pc : Nat} {R : List Int} (h : s.C[k]? = some x) (hF : x.F = F ++ [⟨4, pc, R, []⟩]) (hk : k < 8) (hw : 128 ≤ s.M.W.length) (hp : pc < 2) :
    pHaz s (k : Int) = ⟨⟨s.M.W.set (8 + 3 * k + pc) 0, s.M.G, s.M.bad⟩, s.C.set k (cF x (F ++ [⟨4, ((pc + 1 : Nat) : Int), R, []⟩])), s.L⟩ := by
  rw [haz_clr (core_top h hF) rfl]
  unfold pClr
  dsimp only
  rw [if_neg (by omega), if_neg (by omega), pPlace_in (by omega) (by omega) (by omega) (by omega), show (8 + 3 * (k : Int) + (pc : Int)) = ((8 + 3 * k + pc : Nat) : Int) by omega, root_store (by omega) hw]
  rw [core_set (s := syMem s _) (x := x) (by exact h) hF]
  rfl
theorem clr_end {s : Sy} {k : Nat} {x : Co} {F : List Fr} {R : List Int} (h : s.C[k]? = some x) (hF : x.F = F ++ [⟨4, 2, R, []⟩]) (hk : k < 8) (hw : 128 ≤ s.M.W.length) :
    pHaz s (k : Int) = ⟨⟨s.M.W.set (8 + 3 * k + 2) 0, s.M.G, s.M.bad⟩, s.C.set k ⟨F, 0, 0, x.x0, x.x1, x.x2, x.ret⟩, s.L⟩ := by
  rw [haz_clr (core_top h hF) rfl]
  unfold pClr
  dsimp only
  rw [if_neg (by omega), if_pos rfl, pPlace_in (by omega) (by omega) (by omega) (by omega), show (8 + 3 * (k : Int) + 2) = ((8 + 3 * k + 2 : Nat) : Int) by omega, root_store (by omega) hw]
  rw [core_back (s := syMem s _) (x := x) (by exact h) hF]
  rfl
/-- OClear, step by step. -/
def clrN (s : Sy) (k : Nat) : Nat → Sy
  | 0 => pCall s (k : Int) ⟨4, 0, [0, 0, 0, 0, 0, 0, 0, 0], []⟩
  | j + 1 => pHaz (clrN s k j) (k : Int)
theorem set_get {α : Type} {l : List α} {k : Nat} {x y : α} (h : l[k]? = some x) : (l.set k y)[k]? = some y := by
  have hk := (List.getElem?_eq_some_iff.1 h).1
  simp [hk]
theorem clrN_is {s : Sy} {k : Nat} {x : Co} (h : s.C[k]? = some x) (hk : k < 8) (hl : x.F.length < 40) (hw : 128 ≤ s.M.W.length) :
    clrN s k 1 = ⟨⟨s.M.W.set (8 + 3 * k) 0, s.M.G, s.M.bad⟩, s.C.set k (cF x (x.F ++ [⟨4, 1, [0, 0, 0, 0, 0, 0, 0, 0], []⟩])), s.L⟩ ∧
    clrN s k 2 = ⟨⟨(s.M.W.set (8 + 3 * k) 0).set (8 + 3 * k + 1) 0, s.M.G, s.M.bad⟩, s.C.set k (cF x (x.F ++ [⟨4, 2, [0, 0, 0, 0, 0, 0, 0, 0], []⟩])), s.L⟩ ∧
    clrN s k 3 = ⟨⟨((s.M.W.set (8 + 3 * k) 0).set (8 + 3 * k + 1) 0).set (8 + 3 * k + 2) 0, s.M.G, s.M.bad⟩, s.C.set k ⟨x.F, 0, 0, x.x0, x.x1, x.x2, x.ret⟩, s.L⟩ := by
  have e0 : clrN s k 0 = ⟨s.M, s.C.set k (cF x (x.F ++ [⟨4, 0, [0, 0, 0, 0, 0, 0, 0, 0], []⟩])), s.L⟩ := core_call h hl _
  have e1 : clrN s k 1 = ⟨⟨s.M.W.set (8 + 3 * k) 0, s.M.G, s.M.bad⟩, s.C.set k (cF x (x.F ++ [⟨4, 1, [0, 0, 0, 0, 0, 0, 0, 0], []⟩])), s.L⟩ := by
    show pHaz (clrN s k 0) (k : Int) = _
    rw [e0, clr_go (s := ⟨s.M, _, s.L⟩) (pc := 0) (set_get h) rfl hk hw (by omega)]
    simp [cF]
  have e2 : clrN s k 2 = ⟨⟨(s.M.W.set (8 + 3 * k) 0).set (8 + 3 * k + 1) 0, s.M.G, s.M.bad⟩, s.C.set k (cF x (x.F ++ [⟨4, 2, [0, 0, 0, 0, 0, 0, 0, 0], []⟩])), s.L⟩ := by
    show pHaz (clrN s k 1) (k : Int) = _
    rw [e1, clr_go (s := ⟨⟨_, s.M.G, s.M.bad⟩, _, s.L⟩) (pc := 1) (set_get h) rfl hk (by simpa using hw) (by omega)]
    simp [cF]
  refine ⟨e1, e2, ?_⟩
  show pHaz (clrN s k 2) (k : Int) = _
  rw [e2, clr_end (s := ⟨⟨_, s.M.G, s.M.bad⟩, _, s.L⟩) (set_get h) rfl hk (by simpa using hw)]
  simp [cF]
theorem clr_words {s : Sy} {k j : Nat} (hk : k < 8) (hw : 128 ≤ s.M.W.length) (hj : j < s.M.W.length) :
    (((s.M.W.set (8 + 3 * k) 0).set (8 + 3 * k + 1) 0).set (8 + 3 * k + 2) 0)[j]? = some (if 8 + 3 * k ≤ j ∧ j ≤ 8 + 3 * k + 2 then 0 else s.M.W.getD j 0) := by
  rw [List.getElem?_set, List.getElem?_set, List.getElem?_set]
  simp only [List.length_set]
  by_cases q : 8 + 3 * k ≤ j ∧ j ≤ 8 + 3 * k + 2
  · rw [if_pos q]
    have : j = 8 + 3 * k ∨ j = 8 + 3 * k + 1 ∨ j = 8 + 3 * k + 2 := by omega
    rcases this with rfl | rfl | rfl
    · simp [hj]
    · simp [hj]
    · simp [hj]
  · rw [if_neg q, if_neg (by omega), if_neg (by omega), if_neg (by omega)]
    simp [List.getD, List.getElem?_eq_getElem hj]
/-- Steps keep systems few. -/
theorem Ok4.haz {b : Nat} {s : Sy} (h : Ok4 b s) (i : Int) : Ok4 b (pHaz s i) := by
  unfold pHaz
  cases ht : pTop s i with
  | none => exact h
  | some f =>
    have hS := top_S h.few ht
    dsimp only
    split
    · unfold pProt
      have hl : Ok4 b (syMem s (mLoad s.M (f.R.getD 0 0))) := h.mem rfl rfl
      repeat' split
      · exact hl.back _ _ _
      · exact hl.set (by exact hS) _
      · have hst := mStore_len s.M (pPlace i (f.R.getD 1 0)) (pIdx (f.R.getD 2 0))
        exact Ok4.set (h.mem hst.1 (congrArg List.length hst.2)) (by exact hS) _
      · exact hl.back _ _ _
      · exact hl.set (by exact hS) _
      · exact h
    · split
      · unfold pClr
        have hst := fun p => mStore_len s.M p 0
        repeat' split
        · exact h
        · exact Ok4.back (h.mem (hst _).1 (congrArg List.length (hst _).2)) _ _ _
        · exact Ok4.set (h.mem (hst _).1 (congrArg List.length (hst _).2)) (by exact hS) _
      · exact h
end Go.Proofs.Ytiakabnfjegeeaa

/- What a retirement's first step leaves: plain. -/
namespace Go.Proofs.Ytiakabnfjegeeaa
open Go.RowKit
set_option linter.unusedVariables false
set_option linter.unusedSimpArgs false

/-- The frame of a retirement of p. -/
def frR (p pc : Int) : Fr := ⟨5, pc, [p, 0, 0, 0, 0, 0, 0, 0], []⟩
theorem core_keep {s : Sy} {k : Nat} {x : Co} (h : s.C[k]? = some x) (l : List Int) : pKeep s (k : Int) l = ⟨s.M, s.C.set k (coKeep x l), s.L⟩ := pKeep_nat h l
/-- Below the limit. -/
theorem ret_low {s : Sy} {k : Nat} {x : Co} {p : Int} (hx : s.C[k]? = some x) (hF : x.F.length < 38) (hr : x.ret.length < 200) (hl : x.ret.length + 1 < 3 * s.C.length + 1) :
    pScan (pCall s (k : Int) (frR p 0)) (k : Int) = ⟨mTurn s.M p 2, s.C.set k ⟨x.F, p, 0, x.x0, x.x1, x.x2, x.ret ++ [p]⟩, s.L⟩ := by
  have e0 := core_call hx (by omega) (frR p 0)
  have hg := set_get (y := cF x (x.F ++ [frR p 0])) hx
  have e1 : pTop (pCall s (k : Int) (frR p 0)) (k : Int) = some (frR p 0) := by rw [e0]; exact core_top (s := ⟨s.M, _, s.L⟩) hg rfl
  have e2 : pRet (pCall s (k : Int) (frR p 0)) (k : Int) = x.ret := by rw [e0]; exact pRet_nat (s := ⟨s.M, _, s.L⟩) (x := cF x (x.F ++ [frR p 0])) hg
  have e3 : (pCall s (k : Int) (frR p 0)).C.length = s.C.length := by rw [e0]; simp
  have e4 : pMore (pCall s (k : Int) (frR p 0)) (k : Int) p = ⟨mTurn s.M p 2, s.C.set k (coKeep (cF x (x.F ++ [frR p 0])) (x.ret ++ [p])), s.L⟩ := by
    unfold pMore
    rw [e2, e0, core_keep (s := ⟨s.M, _, s.L⟩) hg]
    simp [syMem]
  unfold pScan
  rw [e1]
  simp only [frR] at e2 e3 e4 ⊢
  rw [if_neg (by omega), if_neg (by omega), if_pos trivial]
  unfold pRetire
  rw [if_pos rfl]
  unfold pRetire0
  simp only [List.getD_cons_zero]
  rw [e2, e3, if_neg (by omega), if_pos hl, e4, core_back (s := ⟨mTurn s.M p 2, _, s.L⟩) (F := x.F) (f := frR p 0) (set_get hx) rfl]
  simp [coKeep, cF]
/-- From the limit on. -/
theorem ret_high {s : Sy} {k : Nat} {x : Co} {p : Int} (hx : s.C[k]? = some x) (hF : x.F.length < 38) (hr : x.ret.length < 200) (hl : ¬ x.ret.length + 1 < 3 * s.C.length + 1) :
    pScan (pCall s (k : Int) (frR p 0)) (k : Int) = ⟨mTurn s.M p 2, s.C.set k ⟨x.F ++ [frR p 1, frS 6 0], x.v, x.e, x.x0, x.x1, x.x2, x.ret ++ [p]⟩, s.L⟩ := by
  have e0 := core_call hx (by omega) (frR p 0)
  have hg := set_get (y := cF x (x.F ++ [frR p 0])) hx
  have e1 : pTop (pCall s (k : Int) (frR p 0)) (k : Int) = some (frR p 0) := by rw [e0]; exact core_top (s := ⟨s.M, _, s.L⟩) hg rfl
  have e2 : pRet (pCall s (k : Int) (frR p 0)) (k : Int) = x.ret := by rw [e0]; exact pRet_nat (s := ⟨s.M, _, s.L⟩) (x := cF x (x.F ++ [frR p 0])) hg
  have e3 : (pCall s (k : Int) (frR p 0)).C.length = s.C.length := by rw [e0]; simp
  have e4 : pMore (pCall s (k : Int) (frR p 0)) (k : Int) p = ⟨mTurn s.M p 2, s.C.set k (coKeep (cF x (x.F ++ [frR p 0])) (x.ret ++ [p])), s.L⟩ := by
    unfold pMore
    rw [e2, e0, core_keep (s := ⟨s.M, _, s.L⟩) hg]
    simp [syMem]
  unfold pScan
  rw [e1]
  simp only [frR] at e2 e3 e4 ⊢
  rw [if_neg (by omega), if_neg (by omega), if_pos trivial]
  unfold pRetire
  rw [if_pos rfl]
  unfold pRetire0
  simp only [List.getD_cons_zero]
  rw [e2, e3, if_neg (by omega), if_neg hl, e4, core_set (s := ⟨mTurn s.M p 2, _, s.L⟩) (F := x.F) (f := frR p 0) (set_get hx) rfl]
  simp only [List.set_set]
  rw [core_call (s := ⟨mTurn s.M p 2, _, s.L⟩) (set_get hx) (by simp [cF, coKeep]; omega)]
  simp [coKeep, cF, frR]
theorem getD_set_same {l : List Int} {k : Nat} {v : Int} (h : k < l.length) : (l.set k v).getD k 0 = v := by
  rw [List.getD_eq_getElem?_getD, List.getElem?_set_self h]; rfl
theorem may_two (g : Int) (h : mMay g 2 = true) : g = 1 := by
  simp [mMay] at h
  omega
/-- The node that is retired. -/
theorem turn_two {m : Ar} {p : Nat} (h1 : 1 ≤ p) (h2 : p < m.G.length) : (m.G.getD p 0 = 1 → (mTurn m p 2).G.getD p 0 = 2) ∧ ((mTurn m p 2).bad = true ∨ m.G.getD p 0 = 1) := by
  have e := mTurns_in (m := m) (i := (p : Int)) (z := 2) (by omega) (by omega)
  simp only [Int.toNat_natCast] at e
  rcases Bool.eq_false_or_eq_true (mTurns m (p : Int) 2) with h | h
  · obtain ⟨_, q2, q3⟩ := mTurn_yes h
    rw [h] at e
    refine ⟨fun _ => by rw [q2]; simp only [Int.toNat_natCast]; exact getD_set_same h2, Or.inr ?_⟩
    exact may_two _ e.symm
  · obtain ⟨_, q2, q3⟩ := mTurn_no h
    rw [h] at e
    refine ⟨fun h9 => ?_, Or.inl q3⟩
    rw [h9] at e
    exact absurd e (by decide)
theorem flat_le {l : List Co} {n : Nat} (h : ∀ x ∈ l, x.ret.length ≤ n) : ((l.map (·.ret)).flatten).length ≤ l.length * n := by
  induction l with
  | nil => simp
  | cons x l ih =>
    have h1 := h x (by simp)
    have h2 := ih (fun y hy => h y (by simp [hy]))
    have e : (x :: l).length * n = l.length * n + n := by rw [List.length_cons, Nat.add_mul, Nat.one_mul]
    simp only [List.map_cons, List.flatten_cons, List.length_append]
    omega
theorem pRetired_le {s : Sy} {m n : Nat} (hc : s.C.length ≤ m) (h : ∀ x ∈ s.C, x.ret.length ≤ n) : (pRetired s).length ≤ m * n :=
  Nat.le_trans (flat_le h) (Nat.mul_le_mul_right n hc)
/-- One more is retired. -/
theorem retired_more {s : Sy} {k : Nat} {x y : Co} {m : Ar} {p : Int} (hx : s.C[k]? = some x) (hy : y.ret = x.ret ++ [p]) : (pRetired ⟨m, s.C.set k y, s.L⟩).length = (pRetired s).length + 1 := by
  have hk : k < s.C.length := (List.getElem?_eq_some_iff.1 hx).1
  have hxe : s.C[k] = x := (List.getElem?_eq_some_iff.1 hx).2
  have e1 : s.C = s.C.take k ++ x :: s.C.drop (k + 1) := by rw [← hxe, List.getElem_cons_drop, List.take_append_drop]
  have e2 : s.C.set k y = s.C.take k ++ y :: s.C.drop (k + 1) := List.set_eq_take_append_cons_drop.trans (if_pos hk)
  unfold pRetired
  rw [e2]
  conv => rhs; rw [e1]
  simp [hy]
  omega
end Go.Proofs.Ytiakabnfjegeeaa

/- What a scan has seen behind so many looks: plain. -/
namespace Go.Proofs.Ytiakabnfjegeeaa
open Go.RowKit
set_option linter.unusedVariables false
set_option linter.unusedSimpArgs false

def seenTo (W : List Int) : Nat → List Int
  | 0 => []
  | j + 1 => if W.getD (8 + j) 0 = 0 then seenTo W j else seenTo W j ++ [W.getD (8 + j) 0]
theorem seenTo_le (W : List Int) (j : Nat) : (seenTo W j).length ≤ j := by
  induction j with
  | zero => simp [seenTo]
  | succ j ih =>
    unfold seenTo
    split
    · omega
    · simp; omega
/-- A core that looks, step by step. -/
def lookN (s : Sy) (k : Nat) : Nat → Sy
  | 0 => pCall s (k : Int) (frS 6 0)
  | j + 1 => pScan (lookN s k j) (k : Int)
def lookF (s : Sy) (j : Nat) : Fr := ⟨6, if j = 3 * s.C.length then 1 else 0, [(j : Int), 0, 0, 0, 0, 0, 0, 0], seenTo s.M.W j⟩
theorem lookN_is {s : Sy} {k : Nat} {x : Co} (h : s.C[k]? = some x) (hl : x.F.length < 40) (hw : 128 ≤ s.M.W.length) (h1 : 1 ≤ s.C.length) (h8 : s.C.length ≤ 8) (j : Nat) (hj : j ≤ 3 * s.C.length) :
    lookN s k j = ⟨s.M, s.C.set k (cF x (x.F ++ [lookF s j])), s.L⟩ := by
  induction j with
  | zero =>
    show pCall s (k : Int) (frS 6 0) = _
    rw [core_call h hl]
    have e : (0 : Nat) ≠ 3 * s.C.length := by omega
    simp [lookF, frS, seenTo, e]
  | succ j ih =>
    show pScan (lookN s k j) (k : Int) = _
    rw [ih (by omega)]
    have hg := set_get (y := cF x (x.F ++ [lookF s j])) h
    have ej : j ≠ 3 * s.C.length := by omega
    have et := core_top (s := ⟨s.M, s.C.set k (cF x (x.F ++ [lookF s j])), s.L⟩) (F := x.F) hg rfl
    unfold pScan
    rw [et]
    have e8 : wrap64 (8 + (j : Int)) = ((8 + j : Nat) : Int) := by unfold wrap64; omega
    have e9 : wrap64 ((j : Int) + 1) = ((j + 1 : Nat) : Int) := by unfold wrap64; omega
    have hm : mLoad s.M ((8 + j : Nat) : Int) = s.M := by unfold mLoad; rw [root_bad (by omega) hw]
    have hv : mVal s.M ((8 + j : Nat) : Int) = s.M.W.getD (8 + j) 0 := root_val (by omega) hw
    simp only [lookF, if_neg ej]
    rw [if_neg (by omega), if_neg (by omega), if_neg (by omega), if_pos trivial]
    unfold pOScan
    rw [if_pos rfl]
    unfold pLook
    simp only [List.getD_cons_zero, e8, e9, hm, hv, List.length_set]
    rw [core_set (s := syMem ⟨s.M, _, s.L⟩ s.M) (x := cF x (x.F ++ [lookF s j])) (F := x.F) (f := lookF s j) (by simp only [lookF, if_neg ej]; simp only [lookF, if_neg ej] at hg; exact hg) rfl]
    have hs := seenTo_le s.M.W j
    have e24 : (seenTo s.M.W j).length < 24 := by omega
    have ep : pSeen (seenTo s.M.W j) (s.M.W.getD (8 + j) 0) = seenTo s.M.W (j + 1) := by
      unfold pSeen
      by_cases h0 : s.M.W.getD (8 + j) 0 = 0
      · rw [if_neg (fun h => h.1 h0)]
        show _ = if s.M.W.getD (8 + j) 0 = 0 then _ else _
        rw [if_pos h0]
      · rw [if_pos ⟨h0, e24⟩]
        show _ = if s.M.W.getD (8 + j) 0 = 0 then _ else _
        rw [if_neg h0]
    rw [ep]
    have ec : (3 * (s.C.length : Int) ≤ (j : Int) + 1) = (j + 1 = 3 * s.C.length) := by
      apply propext; constructor <;> intro <;> omega
    simp [syMem, cF, ec]
/-- What the law gathers: the words of the slots, in order. -/
theorem seenTo_zero {W : List Int} {j : Nat} (h : W.getD (8 + j) 0 = 0) : seenTo W (j + 1) = seenTo W j := by
  show (if W.getD (8 + j) 0 = 0 then _ else _) = _
  rw [if_pos h]
theorem seenTo_more {W : List Int} {j : Nat} (h : W.getD (8 + j) 0 ≠ 0) : seenTo W (j + 1) = seenTo W j ++ [W.getD (8 + j) 0] := by
  show (if W.getD (8 + j) 0 = 0 then _ else _) = _
  rw [if_neg h]
theorem place_of (j : Nat) (h : j < 24) : pPlace ((j : Int).tdiv 3) ((j : Int).tmod 3) = ((8 + j : Nat) : Int) := by
  rw [Int.tdiv_eq_ediv_of_nonneg (by omega), Int.tmod_eq_emod_of_nonneg (by omega), pPlace_in (by omega) (by omega) (by omega) (by omega)]
  omega
end Go.Proofs.Ytiakabnfjegeeaa
