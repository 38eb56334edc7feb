/- append([]int{}, xs...), as a law for the walk. -/
import Derived.Test.YtbpkndjnohdnjaaRow
import Derived.Deep.AppendLies
import Derived.OwnWalk
namespace Go.Proofs.Ytbpkndjnohdnjaa
open Go.RowKit

theorem bcellB {B : Nat} {W w1 : World} (hb : Below B W w1) : (∀ b o, b < B → w1.cell? ⟨b, o, none⟩ = W.cell? ⟨b, o, none⟩) ∧ (∀ b o, b < B → w1.frozen? ⟨b, o, none⟩ = W.frozen? ⟨b, o, none⟩) :=
  ⟨fun b o h => hb.cell (p := ⟨b, o, none⟩) h, fun b o h => hb.frozen (p := ⟨b, o, none⟩) h⟩

/-- A number is one of the first three, or none of them. -/
theorem three (x : Int) : ((x == 0) = true ∧ (x == 1) = false ∧ (x == 2) = false) ∨ ((x == 0) = false ∧ (x == 1) = true ∧ (x == 2) = false) ∨ ((x == 0) = false ∧ (x == 1) = false ∧ (x == 2) = true) ∨ ((x == 0) = false ∧ (x == 1) = false ∧ (x == 2) = false) := by
  simp only [beq_iff_eq, beq_eq_false_iff_ne, ne_eq]
  omega

/-- A block that begins with these integers. -/
def Own (w : World) (g : Nat) (xs : List Int) : Prop :=
  ∃ cur : Array Value, w.heap[g]? = some (.cells cur 3 (0, 0)) ∧ ∀ (j : Nat) (x : Int), xs[j]? = some x → cur[j]? = some (Value.int .i64 x)

theorem Own.lt {w : World} {g : Nat} {xs : List Int} (h : Own w g xs) : g < w.heap.size := by
  obtain ⟨cur, h, _⟩ := h
  rcases Nat.lt_or_ge g w.heap.size with hl | hl
  · exact hl
  · rw [Array.getElem?_eq_none hl] at h; cases h

theorem Own.row {w : World} {g : Nat} {xs : List Int} (h : Own w g xs) : Row w (some ⟨g, 0, none⟩) xs := fun _ => by
  have hl := h.lt
  obtain ⟨cur, hh, hc⟩ := h
  exact ⟨g, 0, rfl, hl, fun j x hx => by rw [Nat.zero_add, cell_of_row w g j _ _ _ hh]; exact hc j x hx⟩

theorem Own.cellD {w : World} {g : Nat} {xs : List Int} (h : Own w g xs) (j : Nat) (hj : j < xs.length) : w.cell? ⟨g, j, none⟩ = some (.int .i64 (xs.getD j 0)) := by
  obtain ⟨cur, hh, hc⟩ := h
  rw [cell_of_row w g j _ _ _ hh, hc j _ (List.getElem?_eq_getElem hj), List.getD_eq_getElem?_getD, List.getElem?_eq_getElem hj]
  rfl

theorem Own.frozen {w : World} {g : Nat} {xs : List Int} (h : Own w g xs) (j : Nat) : w.frozen? ⟨g, j, none⟩ = false := by
  obtain ⟨cur, hh, _⟩ := h
  exact frozen_of_row w g j _ _ hh

theorem Own.step {w w' : World} {g B : Nat} {xs : List Int} (h : Own w g xs) (hb : Below B w w') (hg : g < B) : Own w' g xs := by
  obtain ⟨cur, hh, hc⟩ := h
  exact ⟨cur, (hb.block g hg).trans hh, hc⟩

theorem Own.alloc {w : World} {g : Nat} {xs : List Int} (h : Own w g xs) (o : Obj) : Own (w.alloc o) g xs := h.step (boxed w o) h.lt

theorem Own.far {w : World} {g : Nat} {xs : List Int} (h : Own w g xs) {p : Addr} (hp : g ≠ p.block) (u : Value) : Own (w.setCell p u) g xs := by
  obtain ⟨cur, hh, hc⟩ := h
  exact ⟨cur, (Below.heap_setCell w p u g hp).trans hh, hc⟩

theorem Own.set {w : World} {g : Nat} {xs : List Int} (h : Own w g xs) (k : Nat) (z : Int) : Own (w.setCell ⟨g, k, none⟩ (.int .i64 z)) g (xs.set k z) := by
  obtain ⟨cur, hh, hc⟩ := h
  refine ⟨cur.setIfInBounds k (.int .i64 z), ?_, fun j x hx => ?_⟩
  · rw [heap_setCell_same w g k _ _ _ hh]
  · rw [List.getElem?_set] at hx
    rw [Array.getElem?_setIfInBounds]
    by_cases e : k = j
    · subst e
      rw [if_pos rfl] at hx ⊢
      by_cases hl : k < xs.length
      · rw [if_pos hl] at hx
        injection hx with hx
        subst hx
        have hb : k < cur.size := by
          have := hc k _ (List.getElem?_eq_getElem hl)
          exact (Array.getElem?_eq_some_iff.1 this).1
        rw [if_pos hb]
      · rw [if_neg hl] at hx
        cases hx
    · rw [if_neg e] at hx ⊢
      exact hc j x hx

theorem wpList_append_new {P : Program} {w : World} {ops : Array Oper} {rest : List Oper} {o : Oper} {a : Act} {Q : Exit → Act → World → Prop} (hgd : o.guard = none) (s x : Operand) (t : TypeId)
    (ho : o.op = .call { callee := .builtin .append, args := #[s, x], argTypes := #[t, t] })
    (hinfo : (P.info? 3).map (fun i => (i.zero, i.size, i.bytes)) = some (some (.int .i64 0), 1, 8)) (ht : P.underlying t = some (.slice 3))
    (g0 : Nat) (hs : a.eval s = .slice (some ⟨g0, 0, none⟩) 0 0) (hg0 : w.heap[g0]? = some (.cells #[] 3 (0, 0)))
    (A : Option Addr) (xs : List Int) (c : Nat) (hx : a.eval x = .slice A xs.length c) (hr : Row w A xs) (hpos : 0 < xs.length) (hlen : xs.length ≤ 1000000)
    (h : ∀ g cap w', Own w' g xs → g0 ≤ g → Below g0 w w' → wpList P ops Q rest (a.put o.dst (.slice (some ⟨g, 0, none⟩) xs.length cap)) w') : wpList P ops Q (o :: rest) a w := by
  obtain ⟨i0, hi0, hz0, hz1, hz2⟩ := info_parts hinfo
  obtain ⟨b, off, rfl, _, hc⟩ := hr hpos
  have hlt : g0 < w.heap.size := by
    rcases Nat.lt_or_ge g0 w.heap.size with hl | hl
    · exact hl
    · rw [Array.getElem?_eq_none hl] at hg0; cases hg0
  refine wpList_append_lies w hgd s x t ho g0 3 i0 _ 1 8 ht hi0 hz0 hz1 hz2 rfl (by omega) (.slice (some ⟨g0, 0, none⟩) 0 0) 0 [] hs ⟨by simp, .inr ⟨g0, 0, #[], rfl, Nat.le_refl _, hg0, Nat.le_refl _, by simp [maxLen], rfl, rfl⟩⟩
    ⟨b, off, none⟩ xs.length c (xs.map (Value.int .i64)) hx (by simp) ?_ ?_ hpos (by simp only [maxLen]; omega) (by omega) (by omega) w.heap.size rfl ?_
  · intro j v hv
    simp only [List.getElem?_map, Option.map_eq_some_iff] at hv
    obtain ⟨y, hy, rfl⟩ := hv
    rw [Addr.add_lit]
    exact hc j y hy
  · intro v hv
    simp only [List.mem_map] at hv
    obtain ⟨y, _, rfl⟩ := hv
    rfl
  · intro g cap w' hown hgr hor _
    have hg : g0 ≤ g := by
      rcases hor with e | e
      · simp [Value.ownBlock] at e; omega
      · omega
    have key := h g cap w' ?_ hg ?_
    · simpa using key
    · obtain ⟨_, hh⟩ := hown
      rcases hh with ⟨e, _⟩ | ⟨g', cap', cur, e, _, hh, _, _, _, htk⟩
      · cases e
      · injection e with e1 e2 e3
        injection e1 with e1
        injection e1 with e1
        subst e1
        refine ⟨cur, hh, fun j y hy => ?_⟩
        have hj : j < xs.length := (List.getElem?_eq_some_iff.1 hy).1
        have : (cur.toList.take ((0 + xs.length) * 1))[j]? = some (Value.int .i64 y) := by
          rw [htk]; simp [hy]
        rw [List.getElem?_take_of_lt (by omega)] at this
        simpa using this
    · exact (Below.refl g0 w).grown hgr (by omega) (fun k hk => by simp [Value.ownBlock] at hk; omega)
end Go.Proofs.Ytbpkndjnohdnjaa
