/- core.New, hazelref03.New, and the two Tops, stated once for all inputs. -/
import Derived.Test.YthpflcknommpdaaKBas
import Derived.Test.YthpflcknommpdaaKCoT
import Derived.Test.YthpflcknommpdaaKCoA
import Derived.Test.YthpflcknommpdaaKCoB
import Derived.Test.YthpflcknommpdaaCoreB
import Derived.Test.YthpflcknommpdaaKCoD
import Derived.Test.YthpflcknommpdaaKCpy

namespace Go.Proofs.Ythpflcknommpdaa
open Go.RowKit
set_option linter.unusedVariables false

theorem few_of_small {s : Sy} (h : sySmall s = true) : SyFew s := by
  simp only [sySmall, mSmall, Bool.and_eq_true, decide_eq_true_eq, List.all_eq_true] at h
  obtain ⟨⟨⟨⟨h1, h2⟩, h3⟩, h4⟩, h5⟩ := h
  refine ⟨by omega, by omega, by omega, by omega, fun x hx => ?_⟩
  have h6 := h5 x hx
  simp only [coSmall, Bool.and_eq_true, decide_eq_true_eq, List.all_eq_true] at h6
  obtain ⟨⟨h7, h8⟩, h9⟩ := h6
  refine ⟨by omega, by omega, fun f hf => ?_⟩
  have := h9 f hf
  simp only [frSmall, decide_eq_true_eq] at this
  omega

theorem eight {l : List Int} (h : l.length = 8) : ∃ r0 r1 r2 r3 r4 r5 r6 r7 : Int, l = [r0, r1, r2, r3, r4, r5, r6, r7] := by
  match l, h with
  | [r0, r1, r2, r3, r4, r5, r6, r7], _ => exact ⟨r0, r1, r2, r3, r4, r5, r6, r7, rfl⟩

end Go.Proofs.Ythpflcknommpdaa

/- The contracts of core and hazelref03 over plain functions, for every core. -/
namespace Go.Proofs.Ythpflcknommpdaa
open Go.RowKit
set_option linter.unusedVariables false
set_option linter.unusedSimpArgs false

/-- A system lies in memory. -/
structure RS (w : World) (s : Sy) (A B C L : Option Addr) : Prop where
  W : Row w A s.M.W
  G : Row w B s.M.G
  C : RowC w C s.C
  L : RowE w L s.L
theorem RS.step {w w' : World} {s : Sy} {A B C L : Option Addr} (h : RS w s A B C L) (hb : Below w.heap.size w w') : RS w' s A B C L := ⟨h.W.step hb, h.G.step hb, h.C.step hb, h.L.step hb⟩
/-- The core of a place. -/
def pAt (s : Sy) (i : Int) : Option Co := if syHas s i then s.C[i.toNat]? else none
def pTop (s : Sy) (i : Int) : Option Fr := match pAt s i with
  | none => none
  | some x => x.F.getLast?
def pSet (s : Sy) (i : Int) (f : Fr) : Sy := match pAt s i with
  | none => s
  | some x => if x.F.length = 0 then s else syWith s i.toNat (coSet x (x.F.length - 1) f)
def pBack (s : Sy) (i v e : Int) : Sy := match pAt s i with
  | none => s
  | some x => if x.F.length = 0 then s else syWith s i.toNat (coBack x (x.F.length - 1) v e)
def pCall (s : Sy) (i : Int) (f : Fr) : Sy := match pAt s i with
  | none => s
  | some x => if 40 ≤ x.F.length then s else syWith s i.toNat (coCall x f)
def pLog (s : Sy) (i kind a b v : Int) : Sy := if syHas s i then syLog s ⟨i, kind, a, b, v⟩ else s

theorem pAt_cases (s : Sy) (i : Int) : (syHas s i = false ∧ (i < 0 ∨ (s.C.length : Int) ≤ i) ∧ pAt s i = none) ∨ ∃ (k : Nat) (x : Co), i = (k : Int) ∧ k < s.C.length ∧ s.C[k]? = some x ∧ syHas s i = true ∧ pAt s i = some x := by
  by_cases q : 0 ≤ i ∧ i < (s.C.length : Int)
  · obtain ⟨j, rfl⟩ : ∃ j : Nat, i = j := ⟨i.toNat, by omega⟩
    have hj : j < s.C.length := by omega
    have h1 : syHas s j = true := by simp [syHas]; omega
    exact Or.inr ⟨j, _, rfl, hj, List.getElem?_eq_getElem hj, h1, by simp [pAt, h1]⟩
  · have h1 : syHas s i = false := by simp [syHas]; omega
    exact Or.inl ⟨h1, by omega, by simp [pAt, h1]⟩
theorem set_uN (A B C L : Option Addr) (a b c d : Nat) (s : Sy) (i : Int) (AS : Option Addr) (cS : Nat) (op pc r0 r1 r2 r3 r4 r5 r6 r7 : Int) (xs : List Int) (w : World) (hs : SyFew s) (h : RS w s A B C L) (hS : Row w AS xs) (h6 : xs.length ≤ 1000000) :
    Calls Try.prog 45 #[.agg #[.slice A s.M.W.length a, .slice B s.M.G.length b, .bool s.M.bad, .slice C s.C.length c, .slice L s.L.length d], .int .i64 i, .agg #[.int .i64 op, .int .i64 pc, .int .i64 r0, .int .i64 r1, .int .i64 r2, .int .i64 r3, .int .i64 r4, .int .i64 r5, .int .i64 r6, .int .i64 r7, .slice AS xs.length cS]] w (RetSysN w (pSet s i ⟨op, pc, [r0, r1, r2, r3, r4, r5, r6, r7], xs⟩)) := by
  obtain ⟨f0, f1, f2, f3, f4⟩ := hs
  rcases pAt_cases s i with ⟨h1, h1b, h2⟩ | ⟨k, x, rfl, hk, hx, h1, h2⟩
  · have e : pSet s i ⟨op, pc, [r0, r1, r2, r3, r4, r5, r6, r7], xs⟩ = s := by unfold pSet; rw [h2]
    rw [e]
    exact set_outN A B C L a b c d s i AS cS op pc r0 r1 r2 r3 r4 r5 r6 r7 xs h1 w h.W h.G h.C h.L f0 f1 f2 (by omega) f4
  · obtain ⟨g1, g2, g3⟩ := f4 x (List.mem_of_getElem? hx)
    rcases Nat.eq_zero_or_pos x.F.length with q | q
    · have e : pSet s (k : Int) ⟨op, pc, [r0, r1, r2, r3, r4, r5, r6, r7], xs⟩ = s := by unfold pSet; rw [h2]; simp [List.length_eq_zero_iff.mp q]
      rw [e]
      exact set_noneN A B C L a b c d s k x AS cS op pc r0 r1 r2 r3 r4 r5 r6 r7 xs hx q w h.W h.G h.C h.L f0 f1 f2 (by omega) f4
    · obtain ⟨n, hn⟩ : ∃ n, x.F.length = n + 1 := ⟨x.F.length - 1, by omega⟩
      have e : pSet s (k : Int) ⟨op, pc, [r0, r1, r2, r3, r4, r5, r6, r7], xs⟩ = syWith s k (coSet x n ⟨op, pc, [r0, r1, r2, r3, r4, r5, r6, r7], xs⟩) := by unfold pSet; rw [h2]; simp [hn]
      rw [e]
      exact set_yesN A B C L a b c d s k n x AS cS op pc r0 r1 r2 r3 r4 r5 r6 r7 xs hx hn h6 w hS h.W h.G h.C h.L f0 f1 f2 (by omega) f4
theorem rset_u (A B C L : Option Addr) (a b c d : Nat) (s : Sy) (i : Int) (AS : Option Addr) (cS : Nat) (op pc r0 r1 r2 r3 r4 r5 r6 r7 : Int) (xs : List Int) (w : World) (hs : SyFew s) (h : RS w s A B C L) (hS : Row w AS xs) (hk6 : ∀ x ∈ s.C, x.F.length ≤ 999999) :
    Calls Try.prog 82 #[.agg #[.slice A s.M.W.length a, .slice B s.M.G.length b, .bool s.M.bad, .slice C s.C.length c, .slice L s.L.length d], .int .i64 i, .agg #[.int .i64 op, .int .i64 pc, .int .i64 r0, .int .i64 r1, .int .i64 r2, .int .i64 r3, .int .i64 r4, .int .i64 r5, .int .i64 r6, .int .i64 r7, .slice AS xs.length cS]] w (RetSys w (pSet s i ⟨op, pc, [r0, r1, r2, r3, r4, r5, r6, r7], xs⟩)) := by
  obtain ⟨f0, f1, f2, f3, f4⟩ := hs
  rcases pAt_cases s i with ⟨h1, h1b, h2⟩ | ⟨k, x, rfl, hk, hx, h1, h2⟩
  · have e : pSet s i ⟨op, pc, [r0, r1, r2, r3, r4, r5, r6, r7], xs⟩ = s := by unfold pSet; rw [h2]
    rw [e]
    exact rset_out A B C L a b c d s i AS cS op pc r0 r1 r2 r3 r4 r5 r6 r7 xs h1b w h.W h.G h.C h.L f2
  · obtain ⟨g1, g2, g3⟩ := f4 x (List.mem_of_getElem? hx)
    rcases Nat.eq_zero_or_pos x.F.length with q | q
    · have e : pSet s (k : Int) ⟨op, pc, [r0, r1, r2, r3, r4, r5, r6, r7], xs⟩ = s := by unfold pSet; rw [h2]; simp [List.length_eq_zero_iff.mp q]
      rw [e]
      exact rset_none A B C L a b c d s k x AS cS op pc r0 r1 r2 r3 r4 r5 r6 r7 xs hx q w h.W h.G h.C h.L f2
    · obtain ⟨n, hn⟩ : ∃ n, x.F.length = n + 1 := ⟨x.F.length - 1, by omega⟩
      have e : pSet s (k : Int) ⟨op, pc, [r0, r1, r2, r3, r4, r5, r6, r7], xs⟩ = syWith s k (coSet x n ⟨op, pc, [r0, r1, r2, r3, r4, r5, r6, r7], xs⟩) := by unfold pSet; rw [h2]; simp [hn]
      rw [e]
      exact rset_yes A B C L a b c d s k n x AS cS op pc r0 r1 r2 r3 r4 r5 r6 r7 xs hx hn (by have := hk6 x (List.mem_of_getElem? hx); omega) w hS h.W h.G h.C h.L f2
theorem back_uN (A B C L : Option Addr) (a b c d : Nat) (s : Sy) (i : Int) (z er : Int) (w : World) (hs : SyFew s) (h : RS w s A B C L)  :
    Calls Try.prog 78 #[.agg #[.slice A s.M.W.length a, .slice B s.M.G.length b, .bool s.M.bad, .slice C s.C.length c, .slice L s.L.length d], .int .i64 i, .int .i64 z, .int .i64 er] w (RetSysN w (pBack s i z er)) := by
  obtain ⟨f0, f1, f2, f3, f4⟩ := hs
  rcases pAt_cases s i with ⟨h1, h1b, h2⟩ | ⟨k, x, rfl, hk, hx, h1, h2⟩
  · have e : pBack s i z er = s := by unfold pBack; rw [h2]
    rw [e]
    exact back_outN A B C L a b c d s i z er h1 w h.W h.G h.C h.L f0 f1 f2 (by omega) f4
  · obtain ⟨g1, g2, g3⟩ := f4 x (List.mem_of_getElem? hx)
    rcases Nat.eq_zero_or_pos x.F.length with q | q
    · have e : pBack s (k : Int) z er = s := by unfold pBack; rw [h2]; simp [List.length_eq_zero_iff.mp q]
      rw [e]
      exact back_noneN A B C L a b c d s k x z er hx q w h.W h.G h.C h.L f0 f1 f2 (by omega) f4
    · obtain ⟨n, hn⟩ : ∃ n, x.F.length = n + 1 := ⟨x.F.length - 1, by omega⟩
      have e : pBack s (k : Int) z er = syWith s k (coBack x n z er) := by unfold pBack; rw [h2]; simp [hn]
      rw [e]
      exact back_yesN A B C L a b c d s k n x z er hx hn w h.W h.G h.C h.L f0 f1 f2 (by omega) f4
theorem rback_u (A B C L : Option Addr) (a b c d : Nat) (s : Sy) (i : Int) (z er : Int) (w : World) (hs : SyFew s) (h : RS w s A B C L)  :
    Calls Try.prog 48 #[.agg #[.slice A s.M.W.length a, .slice B s.M.G.length b, .bool s.M.bad, .slice C s.C.length c, .slice L s.L.length d], .int .i64 i, .int .i64 z, .int .i64 er] w (RetSys w (pBack s i z er)) := by
  obtain ⟨f0, f1, f2, f3, f4⟩ := hs
  rcases pAt_cases s i with ⟨h1, h1b, h2⟩ | ⟨k, x, rfl, hk, hx, h1, h2⟩
  · have e : pBack s i z er = s := by unfold pBack; rw [h2]
    rw [e]
    exact rback_out A B C L a b c d s i z er h1b w h.W h.G h.C h.L f2
  · obtain ⟨g1, g2, g3⟩ := f4 x (List.mem_of_getElem? hx)
    rcases Nat.eq_zero_or_pos x.F.length with q | q
    · have e : pBack s (k : Int) z er = s := by unfold pBack; rw [h2]; simp [List.length_eq_zero_iff.mp q]
      rw [e]
      exact rback_none A B C L a b c d s k x z er hx q w h.W h.G h.C h.L f2
    · obtain ⟨n, hn⟩ : ∃ n, x.F.length = n + 1 := ⟨x.F.length - 1, by omega⟩
      have e : pBack s (k : Int) z er = syWith s k (coBack x n z er) := by unfold pBack; rw [h2]; simp [hn]
      rw [e]
      exact rback_yes A B C L a b c d s k n x z er hx hn (by omega) w h.W h.G h.C h.L f2
theorem rcall_u (A B C L : Option Addr) (a b c d : Nat) (s : Sy) (i : Int) (op e1 e2 e3 : Int) (w : World) (hs : SyFew s) (h : RS w s A B C L)  :
    Calls Try.prog 29 #[.agg #[.slice A s.M.W.length a, .slice B s.M.G.length b, .bool s.M.bad, .slice C s.C.length c, .slice L s.L.length d], .int .i64 i, .int .i64 op, .int .i64 e1, .int .i64 e2, .int .i64 e3] w (RetSys w (pCall s i ⟨op, 0, [e1, e2, e3, 0, 0, 0, 0, 0], []⟩)) := by
  obtain ⟨f0, f1, f2, f3, f4⟩ := hs
  rcases pAt_cases s i with ⟨h1, h1b, h2⟩ | ⟨k, x, rfl, hk, hx, h1, h2⟩
  · have e : pCall s i ⟨op, 0, [e1, e2, e3, 0, 0, 0, 0, 0], []⟩ = s := by unfold pCall; rw [h2]
    rw [e]
    exact rcall_out A B C L a b c d s i op e1 e2 e3 h1b w h.W h.G h.C h.L f2
  · by_cases q : 40 ≤ x.F.length
    · have e : pCall s (k : Int) ⟨op, 0, [e1, e2, e3, 0, 0, 0, 0, 0], []⟩ = s := by unfold pCall; rw [h2]; simp [q]
      rw [e]
      exact rcall_full A B C L a b c d s k x op e1 e2 e3 hx q (f4 x (List.mem_of_getElem? hx)).2.1 w h.W h.G h.C h.L f2
    · have e : pCall s (k : Int) ⟨op, 0, [e1, e2, e3, 0, 0, 0, 0, 0], []⟩ = syWith s k (coCall x ⟨op, 0, [e1, e2, e3, 0, 0, 0, 0, 0], []⟩) := by unfold pCall; rw [h2]; simp [q]
      rw [e]
      exact rcall_yes A B C L a b c d s k x op e1 e2 e3 hx (by omega) w h.W h.G h.C h.L f2
theorem log_uN (A B C L : Option Addr) (a b c d : Nat) (s : Sy) (i kind p q z : Int) (w : World) (hs : SyFew s) (h : RS w s A B C L) :
    Calls Try.prog 117 #[.agg #[.slice A s.M.W.length a, .slice B s.M.G.length b, .bool s.M.bad, .slice C s.C.length c, .slice L s.L.length d], .int .i64 i, .int .i64 kind, .int .i64 p, .int .i64 q, .int .i64 z] w (RetSysN w (pLog s i kind p q z)) := by
  obtain ⟨f0, f1, f2, f3, f4⟩ := hs
  rcases pAt_cases s i with ⟨h1, h1b, h2⟩ | ⟨k, x, rfl, hk, hx, h1, h2⟩
  · have e : pLog s i kind p q z = s := by unfold pLog; rw [h1]; rfl
    rw [e]
    exact log_outN A B C L a b c d s i kind p q z h1 w h.W h.G h.C h.L f0 f1 f2 (by omega) f4
  · have e : pLog s (k : Int) kind p q z = syLog s ⟨k, kind, p, q, z⟩ := by unfold pLog; rw [h1]; rfl
    rw [e]
    exact log_atN A B C L a b c d s k kind p q z hk f3 w h.W h.G h.C h.L f0 f1 f2 (by omega) f4
theorem log_u (A B C L : Option Addr) (a b c d : Nat) (s : Sy) (i kind p q z : Int) (w : World) (hs : SyFew s) (h : RS w s A B C L) :
    Calls Try.prog 117 #[.agg #[.slice A s.M.W.length a, .slice B s.M.G.length b, .bool s.M.bad, .slice C s.C.length c, .slice L s.L.length d], .int .i64 i, .int .i64 kind, .int .i64 p, .int .i64 q, .int .i64 z] w (RetSys w (pLog s i kind p q z)) :=
  (log_uN A B C L a b c d s i kind p q z w hs h).mono (fun _ _ h => h.weak)
theorem rsame_u (A B C L A' B' C' L' : Option Addr) (a b c d a' b' c' d' : Nat) (s t : Sy) (w : World) (hs : SyFew s) (h : RS w s A B C L) (h' : RS w t A' B' C' L') :
    Calls Try.prog 16 #[.agg #[.slice A s.M.W.length a, .slice B s.M.G.length b, .bool s.M.bad, .slice C s.C.length c, .slice L s.L.length d], .agg #[.slice A' t.M.W.length a', .slice B' t.M.G.length b', .bool t.M.bad, .slice C' t.C.length c', .slice L' t.L.length d']] w fun e w' => e = .returned (.bool (sySame s t)) ∧ Below w.heap.size w w' := by
  obtain ⟨f0, f1, f2, f3, f4⟩ := hs
  exact rsame3_any A B C L A' B' C' L' a b c d a' b' c' d' s t w h.W h.G h.C h.L h'.W h'.G h'.C h'.L f0 f1 f2 (by omega) f4
theorem sySame_self (s : Sy) : sySame s s = true := by simp [sySame, mSame, mInts, lSame]
theorem few_with {s : Sy} (h : SyFew s) {k : Nat} {x : Co} (hx : x.ret.length ≤ 1000000 ∧ x.F.length ≤ 1000000 ∧ ∀ f ∈ x.F, f.S.length ≤ 1000000) : SyFew (syWith s k x) := by
  obtain ⟨f0, f1, f2, f3, f4⟩ := h
  refine ⟨f0, f1, by simpa [syWith] using f2, f3, fun y hy => ?_⟩
  rcases List.mem_or_eq_of_mem_set hy with q | q
  · exact f4 y q
  · rw [q]; exact hx
end Go.Proofs.Ythpflcknommpdaa

/- Contracts of the document's answers for layer 3: an event is told. -/
namespace Go.Proofs.Ythpflcknommpdaa
open Go.RowKit
set_option linter.unusedVariables false
set_option linter.unusedSimpArgs false

end Go.Proofs.Ythpflcknommpdaa

/- The document's Log over a plain function, for every core. -/
namespace Go.Proofs.Ythpflcknommpdaa
open Go.RowKit
theorem few_log {s : Sy} (h : SyFew s) (h3 : s.L.length ≤ 999998) (i kind p q z : Int) : SyFew (pLog s i kind p q z) := by
  obtain ⟨f0, f1, f2, f3, f4⟩ := h
  unfold pLog
  split
  · exact ⟨f0, f1, f2, by simp [syLog]; omega, f4⟩
  · exact ⟨f0, f1, f2, f3, f4⟩
theorem few_set {s : Sy} (h : SyFew s) {f : Fr} (hf : f.S.length ≤ 1000000) (i : Int) : SyFew (pSet s i f) := by
  unfold pSet
  split
  · exact h
  · next x hx =>
    split
    · exact h
    · have hm : x ∈ s.C := by
        unfold pAt at hx
        split at hx
        · exact List.mem_of_getElem? hx
        · cases hx
      obtain ⟨g1, g2, g3⟩ := h.2.2.2.2 x hm
      refine few_with h ⟨g1, by simpa [coSet] using g2, fun y hy => ?_⟩
      rcases List.mem_or_eq_of_mem_set hy with q | q
      · exact g3 y q
      · rw [q]; exact hf
theorem few_back {s : Sy} (h : SyFew s) (i v e : Int) : SyFew (pBack s i v e) := by
  unfold pBack
  split
  · exact h
  · next x hx =>
    split
    · exact h
    · have hm : x ∈ s.C := by
        unfold pAt at hx
        split at hx
        · exact List.mem_of_getElem? hx
        · cases hx
      obtain ⟨g1, g2, g3⟩ := h.2.2.2.2 x hm
      exact few_with h ⟨g1, by simp [coBack]; omega, fun y hy => g3 y (List.mem_of_mem_take hy)⟩
theorem few_call {s : Sy} (h : SyFew s) {f : Fr} (hf : f.S.length ≤ 1000000) (i : Int) : SyFew (pCall s i f) := by
  unfold pCall
  split
  · exact h
  · next x hx =>
    split
    · exact h
    · have hm : x ∈ s.C := by
        unfold pAt at hx
        split at hx
        · exact List.mem_of_getElem? hx
        · cases hx
      obtain ⟨g1, g2, g3⟩ := h.2.2.2.2 x hm
      refine few_with h ⟨g1, by simp [coCall]; omega, fun y hy => ?_⟩
      rcases List.mem_append.1 hy with q | q
      · exact g3 y q
      · simp at q; rw [q]; exact hf
end Go.Proofs.Ythpflcknommpdaa
