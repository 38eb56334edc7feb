/- append onto a row of the call's own, of whatever row, as a law for the walk. -/
import Derived.Test.YthpflcknommpdaaScn3
import Derived.Test.YthpflcknommpdaaKWal
namespace Go.Proofs.Ythpflcknommpdaa
open Go.RowKit
set_option linter.unusedVariables false
set_option linter.unusedSimpArgs false

/-- append(l, xs...) onto a row of the call's own, of whatever row. -/
theorem wpList_append_ontoR {P : Program} {w : World} {ops : Array Oper} {rest : List Oper} {o : Oper} {a : Act} {Q : Exit → Act → World → Prop} (hgd : o.guard = none) (s x : Operand) (t : TypeId)
    (ho : o.op = .call { callee := .builtin .append, args := #[s, x], argTypes := #[t, t] })
    (base : Nat) (ht : P.underlying t = some (.slice 3)) (hinfo : (P.info? 3).map (fun i => (i.zero, i.size, i.bytes)) = some (some (.int .i64 0), 1, 8))
    (v : Value) (n : Nat) (xs : List Int) (hn : n = xs.length) (hs : a.eval s = v) (hown : w.ownsRow base 3 1 v n (xs.map inCells).flatten)
    (A2 : Option Addr) (c2 m : Nat) (ys : List Int) (hx : a.eval x = .slice A2 m c2) (hm : m = ys.length) (hY : Row w A2 ys) (hlen : xs.length + ys.length ≤ 1000000) (hbase : base ≤ w.heap.size)
    (h : ∀ v' w', w'.ownsRow base 3 1 v' (xs ++ ys).length ((xs ++ ys).map inCells).flatten → w.grownBy w' v.ownBlock → wpList P ops Q rest (a.put o.dst v') w') : wpList P ops Q (o :: rest) a w := by
  subst hn; subst hm
  have ef : ∀ zs : List Int, (zs.map inCells).flatten = zs.map (Value.int .i64) := fun zs => by
    induction zs with
    | nil => rfl
    | cons z zs ih => simp only [List.map_cons, List.flatten_cons, ih]; rfl
  rcases Nat.eq_zero_or_pos ys.length with h0 | h0
  · have e : ys = [] := List.eq_nil_of_length_eq_zero h0
    subst e
    obtain ⟨i, hi, hz0, hz1, hz2⟩ := info_parts hinfo
    obtain ⟨A1, c1, ev⟩ := own_val hown
    have hcap : xs.length ≤ c1 := by rw [ev] at hown; exact own_cap hown
    have hsrc : Go.Src P i.size t (.slice A2 0 c2) 0 [] w := by
      cases A2 with
      | none => exact Go.Src.ofNil w ht c2
      | some ad => exact Go.Src.ofSlice w ht ad 0 c2 [] (by simp) (fun j v hj => by simp at hj) (fun u hu => by cases hu)
    have hr := run_append_nothing (P := P) w t t o.type 3 i ht hi A1 xs.length c1 hcap (.slice A2 0 c2) hsrc
    refine wpList_plain hgd fun K hK => ?_
    have h9 := h v w (by rw [List.append_nil]; exact hown) (World.grownBy.refl _ _)
    unfold Oper.wp execOp
    simp only [ho, resolve, invoke, builtin, Sem.run_bind, Sem.run_pure, Result.andThen_ok, List.map_toArray, List.map_cons, List.map_nil, hs, hx, ev, hr, List.length_nil]
    rw [ev] at h9
    exact hK _ _ h9
  · obtain ⟨b, of, rfl, _, hc⟩ := hY h0
    refine wpList_append_onto hgd s x t ho base 3 (.int .i64 0) 1 8 ht hinfo rfl (by omega) v xs.length _ hs hown ⟨b, of, none⟩ ys.length c2 (ys.map (Value.int .i64)) hx (by simp) (fun j u hj => ?_) (fun u hu => ?_) hlen (by omega) hbase (fun v' w' h1 h2 h3 => ?_)
    · simp only [List.getElem?_map, Option.map_eq_some_iff] at hj
      obtain ⟨y, hy, rfl⟩ := hj
      rw [Addr.add_lit]
      exact hc j y hy
    · obtain ⟨y, _, rfl⟩ := List.mem_map.1 hu
      rfl
    · refine h v' w' ?_ h2
      rw [ef, List.map_append, List.length_append, ← ef xs]
      exact h1
end Go.Proofs.Ythpflcknommpdaa
