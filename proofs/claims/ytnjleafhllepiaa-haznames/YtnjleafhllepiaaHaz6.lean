/- Plain mathematics of layer 5: OClear alone; a step of a core. No Go text. -/
import Derived.Test.YtnjleafhllepiaaHaz1
import Derived.Test.YtnjleafhllepiaaStkI
import Derived.Test.YtnjleafhllepiaaStkN
namespace Go.Proofs.Ytnjleafhllepiaa
open Go.RowKit
set_option linter.unusedVariables false

theorem root_bad {m : Ar} {n : Nat} (h : n < 128) (hw : 128 ≤ m.W.length) : mBad m (n : Int) = m.bad := by
  have h1 : mIn m.W (n : Int) = true := by simp [mIn]; omega
  have h2 : mNode m.G (n : Int) = 0 := by unfold mNode; rw [if_neg (by omega)]
  simp [mBad, h1, h2]
theorem root_store {m : Ar} {n : Nat} (h : n < 128) (hw : 128 ≤ m.W.length) (v : Int) : mStore m (n : Int) v = ⟨m.W.set n v, m.G, m.bad⟩ := by
  have h1 : mIn m.W (n : Int) = true := by simp [mIn]; omega
  unfold mStore; rw [root_bad h hw, if_pos h1]; rfl
theorem root_val {m : Ar} {n : Nat} (h : n < 128) (hw : 128 ≤ m.W.length) : mVal m (n : Int) = m.W.getD n 0 := by
  have h1 : mIn m.W (n : Int) = true := by simp [mIn]; omega
  unfold mVal; rw [if_pos h1]; rfl

theorem core_call {s : Sy} {k : Nat} {x : Co} (h : s.C[k]? = some x) (hl : x.F.length < 40) (g : Fr) : pCall s (k : Int) g = ⟨s.M, s.C.set k (cF x (x.F ++ [g])), s.L⟩ := by
  unfold pCall; rw [at_core h]
  have e : ¬ 40 ≤ x.F.length := by omega
  simp [e, syWith, coCall, cF]
theorem core_top {s : Sy} {k : Nat} {x : Co} {F : List Fr} {f : Fr} (h : s.C[k]? = some x) (hF : x.F = F ++ [f]) : pTop s (k : Int) = some f := by
  unfold pTop; rw [at_core h]; simp [hF]
theorem core_set {s : Sy} {k : Nat} {x : Co} {F : List Fr} {f : Fr} (h : s.C[k]? = some x) (hF : x.F = F ++ [f]) (g : Fr) : pSet s (k : Int) g = ⟨s.M, s.C.set k (cF x (F ++ [g])), s.L⟩ := by
  unfold pSet; rw [at_core h]; simp [hF, syWith, coSet, cF]
theorem core_back {s : Sy} {k : Nat} {x : Co} {F : List Fr} {f : Fr} (h : s.C[k]? = some x) (hF : x.F = F ++ [f]) (v e : Int) : pBack s (k : Int) v e = ⟨s.M, s.C.set k ⟨F, v, e, x.x0, x.x1, x.x2, x.ret⟩, s.L⟩ := by
  unfold pBack; rw [at_core h]; simp [hF, syWith, coBack]
theorem haz_clr {s : Sy} {i : Int} {f : Fr} (h : pTop s i = some f) (h1 : f.op = 4) : pHaz s i = pClr s i f s := by
  unfold pHaz; rw [h]; simp [h1]
theorem clr_go {s : Sy} {k : Nat} {x : Co} {F : List Fr} {pc : Nat} {R : List Int} (h : s.C[k]? = some x) (hF : x.F = F ++ [⟨4, pc, R, []⟩]) (hk : k < 8) (hw : 128 ≤ s.M.W.length) (hp : pc < 2) :
    pHaz s (k : Int) = ⟨⟨s.M.W.set (8 + 3 * k + pc) 0, s.M.G, s.M.bad⟩, s.C.set k (cF x (F ++ [⟨4, ((pc + 1 : Nat) : Int), R, []⟩])), s.L⟩ := by
  rw [haz_clr (core_top h hF) rfl]
  unfold pClr
  dsimp only
  rw [if_neg (by omega), if_neg (by omega), pPlace_in (by omega) (by omega) (by omega) (by omega), show (8 + 3 * (k : Int) + (pc : Int)) = ((8 + 3 * k + pc : Nat) : Int) by omega, root_store (by omega) hw]
  rw [core_set (s := syMem s _) (x := x) (by exact h) hF]
  rfl
theorem clr_end {s : Sy} {k : Nat} {x : Co} {F : List Fr} {R : List Int} (h : s.C[k]? = some x) (hF : x.F = F ++ [⟨4, 2, R, []⟩]) (hk : k < 8) (hw : 128 ≤ s.M.W.length) :
    pHaz s (k : Int) = ⟨⟨s.M.W.set (8 + 3 * k + 2) 0, s.M.G, s.M.bad⟩, s.C.set k ⟨F, 0, 0, x.x0, x.x1, x.x2, x.ret⟩, s.L⟩ := by
  rw [haz_clr (core_top h hF) rfl]
  unfold pClr
  dsimp only
  rw [if_neg (by omega), if_pos rfl, pPlace_in (by omega) (by omega) (by omega) (by omega), show (8 + 3 * (k : Int) + 2) = ((8 + 3 * k + 2 : Nat) : Int) by omega, root_store (by omega) hw]
  rw [core_back (s := syMem s _) (x := x) (by exact h) hF]
  rfl
/-- OClear, step by step. -/
def clrN (s : Sy) (k : Nat) : Nat → Sy
  | 0 => pCall s (k : Int) ⟨4, 0, [0, 0, 0, 0, 0, 0, 0, 0], []⟩
  | j + 1 => pHaz (clrN s k j) (k : Int)
theorem set_get {α : Type} {l : List α} {k : Nat} {x y : α} (h : l[k]? = some x) : (l.set k y)[k]? = some y := by
  have hk := (List.getElem?_eq_some_iff.1 h).1
  simp [hk]
theorem clrN_is {s : Sy} {k : Nat} {x : Co} (h : s.C[k]? = some x) (hk : k < 8) (hl : x.F.length < 40) (hw : 128 ≤ s.M.W.length) :
    clrN s k 1 = ⟨⟨s.M.W.set (8 + 3 * k) 0, s.M.G, s.M.bad⟩, s.C.set k (cF x (x.F ++ [⟨4, 1, [0, 0, 0, 0, 0, 0, 0, 0], []⟩])), s.L⟩ ∧
    clrN s k 2 = ⟨⟨(s.M.W.set (8 + 3 * k) 0).set (8 + 3 * k + 1) 0, s.M.G, s.M.bad⟩, s.C.set k (cF x (x.F ++ [⟨4, 2, [0, 0, 0, 0, 0, 0, 0, 0], []⟩])), s.L⟩ ∧
    clrN s k 3 = ⟨⟨((s.M.W.set (8 + 3 * k) 0).set (8 + 3 * k + 1) 0).set (8 + 3 * k + 2) 0, s.M.G, s.M.bad⟩, s.C.set k ⟨x.F, 0, 0, x.x0, x.x1, x.x2, x.ret⟩, s.L⟩ := by
  have e0 : clrN s k 0 = ⟨s.M, s.C.set k (cF x (x.F ++ [⟨4, 0, [0, 0, 0, 0, 0, 0, 0, 0], []⟩])), s.L⟩ := core_call h hl _
  have e1 : clrN s k 1 = ⟨⟨s.M.W.set (8 + 3 * k) 0, s.M.G, s.M.bad⟩, s.C.set k (cF x (x.F ++ [⟨4, 1, [0, 0, 0, 0, 0, 0, 0, 0], []⟩])), s.L⟩ := by
    show pHaz (clrN s k 0) (k : Int) = _
    rw [e0, clr_go (s := ⟨s.M, _, s.L⟩) (pc := 0) (set_get h) rfl hk hw (by omega)]
    simp [cF]
  have e2 : clrN s k 2 = ⟨⟨(s.M.W.set (8 + 3 * k) 0).set (8 + 3 * k + 1) 0, s.M.G, s.M.bad⟩, s.C.set k (cF x (x.F ++ [⟨4, 2, [0, 0, 0, 0, 0, 0, 0, 0], []⟩])), s.L⟩ := by
    show pHaz (clrN s k 1) (k : Int) = _
    rw [e1, clr_go (s := ⟨⟨_, s.M.G, s.M.bad⟩, _, s.L⟩) (pc := 1) (set_get h) rfl hk (by simpa using hw) (by omega)]
    simp [cF]
  refine ⟨e1, e2, ?_⟩
  show pHaz (clrN s k 2) (k : Int) = _
  rw [e2, clr_end (s := ⟨⟨_, s.M.G, s.M.bad⟩, _, s.L⟩) (set_get h) rfl hk (by simpa using hw)]
  simp [cF]
theorem clr_words {s : Sy} {k j : Nat} (hk : k < 8) (hw : 128 ≤ s.M.W.length) (hj : j < s.M.W.length) :
    (((s.M.W.set (8 + 3 * k) 0).set (8 + 3 * k + 1) 0).set (8 + 3 * k + 2) 0)[j]? = some (if 8 + 3 * k ≤ j ∧ j ≤ 8 + 3 * k + 2 then 0 else s.M.W.getD j 0) := by
  rw [List.getElem?_set, List.getElem?_set, List.getElem?_set]
  simp only [List.length_set]
  by_cases q : 8 + 3 * k ≤ j ∧ j ≤ 8 + 3 * k + 2
  · rw [if_pos q]
    have : j = 8 + 3 * k ∨ j = 8 + 3 * k + 1 ∨ j = 8 + 3 * k + 2 := by omega
    rcases this with rfl | rfl | rfl
    · simp [hj]
    · simp [hj]
    · simp [hj]
  · rw [if_neg q, if_neg (by omega), if_neg (by omega), if_neg (by omega)]
    simp [List.getD, List.getElem?_eq_getElem hj]
/-- Steps keep systems few. -/
theorem Ok4.haz {b : Nat} {s : Sy} (h : Ok4 b s) (i : Int) : Ok4 b (pHaz s i) := by
  unfold pHaz
  cases ht : pTop s i with
  | none => exact h
  | some f =>
    have hS := top_S h.few ht
    dsimp only
    split
    · unfold pProt
      have hl : Ok4 b (syMem s (mLoad s.M (f.R.getD 0 0))) := h.mem rfl rfl
      repeat' split
      · exact hl.back _ _ _
      · exact hl.set (by exact hS) _
      · have hst := mStore_len s.M (pPlace i (f.R.getD 1 0)) (pIdx (f.R.getD 2 0))
        exact Ok4.set (h.mem hst.1 (congrArg List.length hst.2)) (by exact hS) _
      · exact hl.back _ _ _
      · exact hl.set (by exact hS) _
      · exact h
    · split
      · unfold pClr
        have hst := fun p => mStore_len s.M p 0
        repeat' split
        · exact h
        · exact Ok4.back (h.mem (hst _).1 (congrArg List.length (hst _).2)) _ _ _
        · exact Ok4.set (h.mem (hst _).1 (congrArg List.length (hst _).2)) (by exact hS) _
      · exact h
end Go.Proofs.Ytnjleafhllepiaa
