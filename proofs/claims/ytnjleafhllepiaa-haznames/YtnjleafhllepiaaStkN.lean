/- Steps of layer 4 keep systems few; a core that is alone pops and pushes: plain mathematics. No Go text. -/
import Derived.Test.YtnjleafhllepiaaKStA
namespace Go.Proofs.Ytnjleafhllepiaa
open Go.RowKit
set_option linter.unusedVariables false

/-- Few enough for a step, with at most b events. -/
structure Ok4 (b : Nat) (s : Sy) : Prop where
  few : SyFew s
  g : 2 ≤ s.M.G.length
  l : s.L.length ≤ b
theorem Ok4.up {b c : Nat} {s : Sy} (h : Ok4 b s) (hc : b ≤ c) : Ok4 c s := ⟨h.few, h.g, Nat.le_trans h.l hc⟩
theorem set_M (s : Sy) (i : Int) (f : Fr) : (pSet s i f).M = s.M ∧ (pSet s i f).L = s.L := by
  unfold pSet
  split
  · exact ⟨rfl, rfl⟩
  · split <;> exact ⟨rfl, rfl⟩
theorem back_M (s : Sy) (i v e : Int) : (pBack s i v e).M = s.M ∧ (pBack s i v e).L = s.L := by
  unfold pBack
  split
  · exact ⟨rfl, rfl⟩
  · split <;> exact ⟨rfl, rfl⟩
theorem call_M (s : Sy) (i : Int) (f : Fr) : (pCall s i f).M = s.M ∧ (pCall s i f).L = s.L := by
  unfold pCall
  split
  · exact ⟨rfl, rfl⟩
  · split <;> exact ⟨rfl, rfl⟩
theorem log_M (s : Sy) (i k a b v : Int) : (pLog s i k a b v).M = s.M ∧ (pLog s i k a b v).L.length ≤ s.L.length + 1 := by
  unfold pLog
  split
  · exact ⟨rfl, by simp [syLog]⟩
  · exact ⟨rfl, by omega⟩
theorem Ok4.set {b : Nat} {s : Sy} (h : Ok4 b s) {f : Fr} (hf : f.S.length ≤ 1000000) (i : Int) : Ok4 b (pSet s i f) := by
  obtain ⟨e1, e2⟩ := set_M s i f
  exact ⟨few_set h.few hf i, by rw [e1]; exact h.g, by rw [e2]; exact h.l⟩
theorem Ok4.back {b : Nat} {s : Sy} (h : Ok4 b s) (i v e : Int) : Ok4 b (pBack s i v e) := by
  obtain ⟨e1, e2⟩ := back_M s i v e
  exact ⟨few_back h.few i v e, by rw [e1]; exact h.g, by rw [e2]; exact h.l⟩
theorem Ok4.call {b : Nat} {s : Sy} (h : Ok4 b s) {f : Fr} (hf : f.S.length ≤ 1000000) (i : Int) : Ok4 b (pCall s i f) := by
  obtain ⟨e1, e2⟩ := call_M s i f
  exact ⟨few_call h.few hf i, by rw [e1]; exact h.g, by rw [e2]; exact h.l⟩
theorem Ok4.log {b : Nat} {s : Sy} (h : Ok4 b s) (hb : b ≤ 999998) (i k a c v : Int) : Ok4 (b + 1) (pLog s i k a c v) := by
  obtain ⟨e1, e2⟩ := log_M s i k a c v
  have := h.l
  exact ⟨few_log h.few (by omega) i k a c v, by rw [e1]; exact h.g, by omega⟩
theorem Ok4.mem {b : Nat} {s : Sy} (h : Ok4 b s) {m : Ar} (h0 : m.W.length = s.M.W.length) (h1 : m.G.length = s.M.G.length) : Ok4 b (syMem s m) :=
  ⟨few_mem h.few h0 h1, by simp only [syMem]; rw [h1]; exact h.g, h.l⟩
theorem top_S {s : Sy} (h : SyFew s) {i : Int} {f : Fr} (ht : pTop s i = some f) : f.S.length ≤ 1000000 := by
  unfold pTop at ht
  rcases pAt_cases s i with ⟨_, _, h2⟩ | ⟨k, x, rfl, hk, hx, _, h2⟩
  · rw [h2] at ht; cases ht
  · rw [h2] at ht
    exact (h.2.2.2.2 x (List.mem_of_getElem? hx)).2.2 f (List.mem_of_getLast? ht)
theorem mCas_len (m : Ar) (p o n : Int) : (mCas m p o n).W.length = m.W.length ∧ (mCas m p o n).G = m.G := by
  unfold mCas
  refine ⟨?_, rfl⟩
  dsimp only
  split <;> simp
theorem mTurn_len (m : Ar) (i z : Int) : (mTurn m i z).W = m.W ∧ (mTurn m i z).G.length = m.G.length := by
  unfold mTurn
  refine ⟨rfl, ?_⟩
  dsimp only
  split <;> simp
theorem Ok4.swap {b : Nat} {s : Sy} (h : Ok4 b s) {f : Fr} (hf : f.S.length ≤ 1000000) (i seen first node nw : Int) : Ok4 b (pSwap s i f seen first node nw) := by
  unfold pSwap
  have hc := mCas_len s.M 0 seen (pNext seen first 0)
  have ht := mTurn_len (mCas s.M 0 seen (pNext seen first 0)) node nw
  split
  · exact (h.mem (by rw [ht.1]; exact hc.1) (by rw [ht.2, hc.2])).back i node 0
  · exact (h.mem hc.1 (by rw [hc.2])).set (f := ⟨f.op, 0, f.R, f.S⟩) hf i
theorem Ok4.step {b : Nat} {s : Sy} (h : Ok4 b s) (hb : b ≤ 999997) (i : Int) : Ok4 (b + 1) (pStep s i) := by
  unfold pStep
  split
  · exact h.up (by omega)
  · next f ht =>
    have hf := top_S h.few ht
    split
    · unfold pPop
      split
      · split
        · exact ((h.mem (m := mLoad s.M 0) rfl rfl).log (by omega) i 9 0 0 0).back i 0 2
        · exact ((h.mem (m := mLoad s.M 0) rfl rfl).set (f := ⟨f.op, 1, f.R.set 0 (mVal s.M 0), f.S⟩) hf i).up (by omega)
      · split
        · exact ((h.mem (m := mLoad s.M (pLink (pIdx (f.R.getD 0 0)))) rfl rfl).set (f := ⟨f.op, 2, f.R.set 1 (mVal s.M (pLink (pIdx (f.R.getD 0 0)))), f.S⟩) hf i).up (by omega)
        · split
          · exact (h.swap hf i _ _ _ _).up (by omega)
          · exact h.up (by omega)
    · split
      · unfold pPush
        split
        · exact ((h.mem (m := mLoad s.M 0) rfl rfl).set (f := ⟨f.op, 1, f.R.set 1 (mVal s.M 0), f.S⟩) hf i).up (by omega)
        · split
          · have hl := mStore_len s.M (pLink (f.R.getD 0 0)) (pIdx (f.R.getD 1 0))
            exact ((h.mem hl.1 (by rw [hl.2])).set (f := ⟨f.op, 2, f.R, f.S⟩) hf i).up (by omega)
          · split
            · exact (h.swap hf i _ _ _ _).up (by omega)
            · exact h.up (by omega)
      · exact h.up (by omega)

/-- One core, alone. -/
def one1 (M : Ar) (F : List Fr) (v e : Int) (L : List Evt) : Sy := ⟨M, [⟨F, v, e, 0, 0, 0, []⟩], L⟩
def fr1 (op pc r0 r1 : Int) : Fr := ⟨op, pc, [r0, r1, 0, 0, 0, 0, 0, 0], []⟩
theorem one_at (M : Ar) (F : List Fr) (v e : Int) (L : List Evt) : pAt (one1 M F v e L) 0 = some ⟨F, v, e, 0, 0, 0, []⟩ := by simp [pAt, syHas, one1]
theorem one_top (M : Ar) (f : Fr) (v e : Int) (L : List Evt) : pTop (one1 M [f] v e L) 0 = some f := by unfold pTop; rw [one_at]; rfl
theorem one_set (M : Ar) (f g : Fr) (v e : Int) (L : List Evt) : pSet (one1 M [f] v e L) 0 g = one1 M [g] v e L := by unfold pSet; rw [one_at]; rfl
theorem one_back (M : Ar) (f : Fr) (v e v' e' : Int) (L : List Evt) : pBack (one1 M [f] v e L) 0 v' e' = one1 M [] v' e' L := by unfold pBack; rw [one_at]; rfl
theorem one_call (M : Ar) (f : Fr) (v e : Int) (L : List Evt) : pCall (one1 M [] v e L) 0 f = one1 M [f] v e L := by unfold pCall; rw [one_at]; rfl
theorem one_log (M : Ar) (F : List Fr) (v e k a b z : Int) (L : List Evt) : pLog (one1 M F v e L) 0 k a b z = one1 M F v e (L ++ [⟨0, k, a, b, z⟩]) := by
  unfold pLog
  rw [if_pos (by simp [syHas, one1])]
  rfl
theorem one_step0 (M : Ar) (v e : Int) (L : List Evt) : pStep (one1 M [] v e L) 0 = one1 M [] v e L := by
  have : pTop (one1 M [] v e L) 0 = none := by unfold pTop; rw [one_at]; rfl
  unfold pStep
  rw [this]
theorem pstep_pop {s : Sy} {i : Int} {f : Fr} (h : pTop s i = some f) (h1 : f.op = 1) : pStep s i = pPop s i f s := by
  unfold pStep
  rw [h]
  dsimp only
  rw [if_pos h1]
theorem pstep_push {s : Sy} {i : Int} {f : Fr} (h : pTop s i = some f) (h1 : f.op = 2) : pStep s i = pPush s i f s := by
  unfold pStep
  rw [h]
  dsimp only
  rw [if_neg (by omega), if_pos h1]
theorem load_same {M : Ar} {p : Int} (h : mBad M p = M.bad) : mLoad M p = M := by
  obtain ⟨W, G, b⟩ := M
  unfold mLoad
  rw [h]
def step3 (s : Sy) : Sy := pStep (pStep (pStep s 0) 0) 0
theorem pop_alone {M : Ar} {v e : Int} {L : List Evt} (h0 : mBad M 0 = M.bad) (hi : ¬ pIdx (mVal M 0) = 0) (hl : mBad M (pLink (pIdx (mVal M 0))) = M.bad) (hin : mIs M 0 (mVal M 0) = true) :
    step3 (pCall (one1 M [] v e L) 0 (fr1 1 0 0 0)) = one1 (mTurn (mCas M 0 (mVal M 0) (pNext (mVal M 0) (mVal M (pLink (pIdx (mVal M 0)))) 0)) (pIdx (mVal M 0)) 1) [] (pIdx (mVal M 0)) 0 L := by
  have e1 : pStep (one1 M [fr1 1 0 0 0] v e L) 0 = one1 M [fr1 1 1 (mVal M 0) 0] v e L := by
    rw [pstep_pop (one_top _ _ _ _ _) rfl]
    unfold pPop
    rw [if_pos (show (fr1 1 0 0 0).pc = 0 from rfl), if_neg (show ¬ pIdx (mVal (one1 M [fr1 1 0 0 0] v e L).M 0) = 0 from hi)]
    show pSet (syMem (one1 M [fr1 1 0 0 0] v e L) (mLoad M 0)) 0 _ = _
    rw [load_same h0]
    exact one_set M _ _ v e L
  have e2 : pStep (one1 M [fr1 1 1 (mVal M 0) 0] v e L) 0 = one1 M [fr1 1 2 (mVal M 0) (mVal M (pLink (pIdx (mVal M 0))))] v e L := by
    rw [pstep_pop (one_top _ _ _ _ _) rfl]
    unfold pPop
    rw [if_neg (show ¬ (fr1 1 1 (mVal M 0) 0).pc = 0 by simp [fr1]), if_pos (show (fr1 1 1 (mVal M 0) 0).pc = 1 from rfl)]
    show pSet (syMem (one1 M [fr1 1 1 (mVal M 0) 0] v e L) (mLoad M (pLink (pIdx (mVal M 0))))) 0 _ = _
    rw [load_same hl]
    exact one_set M _ _ v e L
  unfold step3
  rw [one_call, e1, e2]
  rw [pstep_pop (one_top _ _ _ _ _) rfl]
  unfold pPop
  rw [if_neg (show ¬ (fr1 1 2 (mVal M 0) (mVal M (pLink (pIdx (mVal M 0))))).pc = 0 by simp [fr1]), if_neg (show ¬ (fr1 1 2 (mVal M 0) (mVal M (pLink (pIdx (mVal M 0))))).pc = 1 by simp [fr1]), if_pos (show (fr1 1 2 (mVal M 0) (mVal M (pLink (pIdx (mVal M 0))))).pc = 2 from rfl)]
  show pSwap _ 0 _ (mVal M 0) (mVal M (pLink (pIdx (mVal M 0)))) (pIdx (mVal M 0)) 1 = _
  unfold pSwap
  rw [if_pos (show mIs (one1 M _ v e L).M 0 (mVal M 0) = true from hin)]
  exact one_back _ _ v e _ 0 L
theorem pop_empty {M : Ar} {v e : Int} {L : List Evt} (h0 : mBad M 0 = M.bad) (hi : pIdx (mVal M 0) = 0) : step3 (pCall (one1 M [] v e L) 0 (fr1 1 0 0 0)) = one1 M [] 0 2 (L ++ [⟨0, 9, 0, 0, 0⟩]) := by
  have e1 : pStep (one1 M [fr1 1 0 0 0] v e L) 0 = one1 M [] 0 2 (L ++ [⟨0, 9, 0, 0, 0⟩]) := by
    rw [pstep_pop (one_top _ _ _ _ _) rfl]
    unfold pPop
    rw [if_pos (show (fr1 1 0 0 0).pc = 0 from rfl), if_pos (show pIdx (mVal (one1 M [fr1 1 0 0 0] v e L).M 0) = 0 from hi)]
    show pBack (pLog (syMem (one1 M [fr1 1 0 0 0] v e L) (mLoad M 0)) 0 9 0 0 0) 0 0 2 = _
    rw [load_same h0]
    show pBack (pLog (one1 M [fr1 1 0 0 0] v e L) 0 9 0 0 0) 0 0 2 = _
    rw [one_log, one_back]
  unfold step3
  rw [one_call, e1, one_step0, one_step0]
theorem push_alone {M : Ar} {v e p : Int} {L : List Evt} (h0 : mBad M 0 = M.bad) (hin : mIs (mStore M (pLink p) (pIdx (mVal M 0))) 0 (mVal M 0) = true) :
    step3 (pCall (one1 M [] v e L) 0 (fr1 2 0 p 0)) = one1 (mTurn (mCas (mStore M (pLink p) (pIdx (mVal M 0))) 0 (mVal M 0) (pNext (mVal M 0) p 0)) p 0) [] p 0 L := by
  have e1 : pStep (one1 M [fr1 2 0 p 0] v e L) 0 = one1 M [fr1 2 1 p (mVal M 0)] v e L := by
    rw [pstep_push (one_top _ _ _ _ _) rfl]
    unfold pPush
    rw [if_pos (show (fr1 2 0 p 0).pc = 0 from rfl)]
    show pSet (syMem (one1 M [fr1 2 0 p 0] v e L) (mLoad M 0)) 0 _ = _
    rw [load_same h0]
    exact one_set M _ _ v e L
  have e2 : pStep (one1 M [fr1 2 1 p (mVal M 0)] v e L) 0 = one1 (mStore M (pLink p) (pIdx (mVal M 0))) [fr1 2 2 p (mVal M 0)] v e L := by
    rw [pstep_push (one_top _ _ _ _ _) rfl]
    unfold pPush
    rw [if_neg (show ¬ (fr1 2 1 p (mVal M 0)).pc = 0 by simp [fr1]), if_pos (show (fr1 2 1 p (mVal M 0)).pc = 1 from rfl)]
    exact one_set _ _ _ v e L
  unfold step3
  rw [one_call, e1, e2]
  rw [pstep_push (one_top _ _ _ _ _) rfl]
  unfold pPush
  rw [if_neg (show ¬ (fr1 2 2 p (mVal M 0)).pc = 0 by simp [fr1]), if_neg (show ¬ (fr1 2 2 p (mVal M 0)).pc = 1 by simp [fr1]), if_pos (show (fr1 2 2 p (mVal M 0)).pc = 2 from rfl)]
  show pSwap _ 0 _ (mVal M 0) p p 0 = _
  unfold pSwap
  rw [if_pos (show mIs (one1 (mStore M (pLink p) (pIdx (mVal M 0))) _ v e L).M 0 (mVal M 0) = true from hin)]
  exact one_back _ _ v e _ 0 L
end Go.Proofs.Ytnjleafhllepiaa
