/- append onto a row that has no room behind its end: the row itself, or a new one. No Go text but the int's type. -/
import Derived.Test.YthpflcknommpdaaKBas
import Derived.Deep.AppendSrc
import Derived.Deep.Upon
import Derived.Laws.MakeOwn
namespace Go.Proofs.Ythpflcknommpdaa
open Go.RowKit
set_option linter.unusedVariables false

theorem run_append_full {P : Program} {w : World} (t ty : TypeId)
    (hinfo : (P.info? 3).map (fun i => (i.zero, i.size, i.bytes)) = some (some (.int .i64 0), 1, 8)) (ht : P.underlying t = some (.slice 3))
    (A : Option Addr) (xs : List Int) (hp : Row w A xs) (hlen : xs.length ≤ 1000000) (A2 : Option Addr) (c2 : Nat) (ys : List Int) (hY : Row w A2 ys) (hl2 : ys.length ≤ 1000000) :
    ∃ A' c' w', (Builtin.append_ #[t, t] ty #[.slice A xs.length xs.length, .slice A2 ys.length c2]).run P w = .ok (.slice A' (xs ++ ys).length c') w' ∧ Row w' A' (xs ++ ys) ∧ (xs ++ ys).length ≤ c' ∧ Below w.heap.size w w' ∧ ((A' = A ∧ ys = []) ∨ A' = some ⟨w.heap.size, 0, none⟩) := by
  obtain ⟨i, hi, hz0, hz1, hz2⟩ := info_parts hinfo
  have hsrc : Go.Src P i.size t (.slice A2 ys.length c2) ys.length (ys.map (Value.int .i64)) w := by
    rcases Nat.eq_zero_or_pos ys.length with h0 | h0
    · have e : ys = [] := List.eq_nil_of_length_eq_zero h0
      subst e
      cases A2 with
      | none => exact Go.Src.ofNil w ht c2
      | some ad => exact Go.Src.ofSlice w ht ad 0 c2 [] (by simp) (fun j v hj => by simp at hj) (fun u hu => by cases hu)
    · obtain ⟨b, o, rfl, _, hc⟩ := hY h0
      refine Go.Src.ofSlice w ht _ ys.length c2 _ (by rw [hz1]; simp) (fun j u hj => ?_) (fun u hu => ?_)
      · simp only [List.getElem?_map, Option.map_eq_some_iff] at hj
        obtain ⟨y, hy, rfl⟩ := hj
        rw [Addr.add_lit]
        exact hc j y hy
      · simp only [List.mem_map] at hu
        obtain ⟨y, _, rfl⟩ := hu
        rfl
  have hold : (Builtin.firstCells i.size xs.length (.slice A xs.length xs.length)).run P w.drew = .ok (xs.map (Value.int .i64)).toArray w.drew := by
    rcases Nat.eq_zero_or_pos xs.length with h0 | h0
    · have e : xs = [] := List.eq_nil_of_length_eq_zero h0
      subst e
      cases A with
      | none => exact run_firstCells_none w.drew i.size 0 0 0
      | some ad => exact run_firstCells_some w.drew i.size 0 ad 0 0 [] (by simp) (fun j v hj => by simp at hj)
    · obtain ⟨b, of, rfl, _, hcell⟩ := hp h0
      refine run_firstCells_some w.drew i.size xs.length ⟨b, of, none⟩ xs.length xs.length _ (by rw [hz1]; simp) (fun j u hj => ?_)
      simp only [List.getElem?_map, Option.map_eq_some_iff] at hj
      obtain ⟨y, hy, rfl⟩ := hj
      rw [Addr.add_lit]
      simpa using hcell j y hy
  rcases Nat.eq_zero_or_pos ys.length with h0 | h0
  · have e : ys = [] := List.eq_nil_of_length_eq_zero h0
    subst e
    refine ⟨A, xs.length, w, ?_, by rw [List.append_nil]; exact hp, by simp, Below.refl _ _, .inl ⟨rfl, rfl⟩⟩
    have hr := run_append_nothing (P := P) w t t ty 3 i ht hi A xs.length xs.length (Nat.le_refl _) (.slice A2 0 c2) hsrc
    rw [List.append_nil]
    exact hr
  · have hr := run_append_grow_src (P := P) w t t ty 3 i (.int .i64 0) ht hi hz0 A xs.length xs.length (xs.map (Value.int .i64)) hold (.slice A2 ys.length c2) ys.length (ys.map (Value.int .i64)) hsrc (by omega) (by omega) (by
      rw [hz2]
      have := nextslicecap_le (need := xs.length + ys.length) (old := xs.length) (by omega)
      omega)
    obtain ⟨g, hg⟩ : ∃ g, g = grownCap w (xs.length + ys.length) xs.length 3 := ⟨_, rfl⟩
    have hgl : xs.length + ys.length ≤ g := by rw [hg]; exact grownCap_ge _ _ _ _
    rw [← hg] at hr
    refine ⟨some ⟨w.heap.size, 0, none⟩, g, w.drew.alloc (.cells ((xs.map (Value.int .i64) ++ ys.map (Value.int .i64)).toArray ++ Builtin.zeroCells (Value.cells (Value.int .i64 0)) (g - (xs.length + ys.length))) 3), by rw [List.length_append]; exact hr, fun _ => ⟨w.heap.size, 0, rfl, by simp, fun j y hj => ?_⟩, by rw [List.length_append]; exact hgl, ?_, .inr rfl⟩
    · have hb := heap_alloc_new w.drew (.cells ((xs.map (Value.int .i64) ++ ys.map (Value.int .i64)).toArray ++ Builtin.zeroCells (Value.cells (Value.int .i64 0)) (g - (xs.length + ys.length))) 3)
      rw [Nat.zero_add, cell_of_row _ w.heap.size j _ _ _ hb]
      have hjl : j < xs.length + ys.length := by
        have := (List.getElem?_eq_some_iff.1 hj).1
        simpa using this
      rw [Array.getElem?_append_left (by simpa using hjl)]
      have : ((xs ++ ys).map (Value.int .i64))[j]? = some (.int .i64 y) := by rw [List.getElem?_map, hj]; rfl
      simpa using this
    · exact ((Below.refl w.heap.size w).drew).alloc (by simp) _
theorem wpList_append_full {P : Program} {w : World} {ops : Array Oper} {rest : List Oper} {o : Oper} {a : Act} {Q : Exit → Act → World → Prop} (hgd : o.guard = none) (s x : Operand) (t : TypeId)
    (ho : o.op = .call { callee := .builtin .append, args := #[s, x], argTypes := #[t, t] })
    (hinfo : (P.info? 3).map (fun i => (i.zero, i.size, i.bytes)) = some (some (.int .i64 0), 1, 8)) (ht : P.underlying t = some (.slice 3))
    (A : Option Addr) (xs : List Int) (n c : Nat) (hs : a.eval s = .slice A n c) (hn : n = xs.length) (hc : c = xs.length) (hp : Row w A xs) (hlen : xs.length ≤ 1000000)
    (A2 : Option Addr) (c2 m : Nat) (ys : List Int) (hx : a.eval x = .slice A2 m c2) (hm : m = ys.length) (hY : Row w A2 ys) (hl2 : ys.length ≤ 1000000)
    (h : ∀ A' c' w', Row w' A' (xs ++ ys) → (xs ++ ys).length ≤ c' → Below w.heap.size w w' → ((A' = A ∧ ys = []) ∨ A' = some ⟨w.heap.size, 0, none⟩) → wpList P ops Q rest (a.put o.dst (.slice A' (xs ++ ys).length c')) w') : wpList P ops Q (o :: rest) a w := by
  subst hn; subst hc; subst hm
  obtain ⟨A', c', w', hr, h1, h1c, h2, h3⟩ := run_append_full (P := P) t o.type hinfo ht A xs hp hlen A2 c2 ys hY hl2
  refine wpList_plain hgd fun K hK => ?_
  unfold Oper.wp execOp
  simp only [ho, resolve, invoke, builtin, Sem.run_bind, Sem.run_pure, Result.andThen_ok, List.map_toArray, List.map_cons, List.map_nil, hs, hx, hr]
  exact hK _ _ (h A' c' w' h1 h1c h2 h3)
theorem step_append_full {P : Program} {w : World} {ops : Array Oper} {o : Oper} {a : Act} {K : Act → World → Prop} {Q : Exit → Act → World → Prop} {E : Prop} (hgd : o.guard = none) (s x : Operand) (t : TypeId)
    (ho : o.op = .call { callee := .builtin .append, args := #[s, x], argTypes := #[t, t] })
    (hinfo : (P.info? 3).map (fun i => (i.zero, i.size, i.bytes)) = some (some (.int .i64 0), 1, 8)) (ht : P.underlying t = some (.slice 3))
    (A : Option Addr) (xs : List Int) (n c : Nat) (hs : a.eval s = .slice A n c) (hn : n = xs.length) (hc : c = xs.length) (hp : Row w A xs) (hlen : xs.length ≤ 1000000)
    (A2 : Option Addr) (c2 m : Nat) (ys : List Int) (hx : a.eval x = .slice A2 m c2) (hm : m = ys.length) (hY : Row w A2 ys) (hl2 : ys.length ≤ 1000000)
    (h : ∀ A' c' w', Row w' A' (xs ++ ys) → (xs ++ ys).length ≤ c' → Below w.heap.size w w' → ((A' = A ∧ ys = []) ∨ A' = some ⟨w.heap.size, 0, none⟩) → K (a.put o.dst (.slice A' (xs ++ ys).length c')) w') :
    if Region.wanted o (yielded ops a.tmps) = true then Oper.wp P o a w K Q else E := by
  subst hn; subst hc; subst hm
  have hw : Region.wanted o (yielded ops a.tmps) = true := by simp [Region.wanted, hgd]
  rw [if_pos hw]
  obtain ⟨A', c', w', hr, h1, h1c, h2, h3⟩ := run_append_full (P := P) t o.type hinfo ht A xs hp hlen A2 c2 ys hY hl2
  unfold Oper.wp execOp
  simp only [ho, resolve, invoke, builtin, Sem.run_bind, Sem.run_pure, Result.andThen_ok, List.map_toArray, List.map_cons, List.map_nil, hs, hx, hr]
  exact h A' c' w' h1 h1c h2 h3
end Go.Proofs.Ythpflcknommpdaa
