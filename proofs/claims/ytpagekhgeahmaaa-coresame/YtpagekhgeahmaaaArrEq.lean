/- Two arrays of integers held against each other, whatever their length. No Go text. -/
import Derived.ChangeKeysEq
import Derived.Laws.StructEq
import Derived.WalkKit
namespace Go.Proofs.Ytpagekhgeahmaaa

section
variable {P : Program} (w : World)

theorem part_int {e : TypeId} {k : IntKind} (he : P.underlying e = some (.int k)) (xs : List Int) (i : Nat) (hi : i < xs.length) : (part e (xs.map (Value.int k)).toArray i).run P w = .ok (.int k (xs.getD i 0)) w := by
  simp [part, isAgg, run_underlying he, hi]

theorem run_eqItems_ints (d : Nat) {e : TypeId} {k : IntKind} (he : P.underlying e = some (.int k)) (xs ys : List Int) : ∀ (is : List Nat), (∀ i ∈ is, i < xs.length ∧ i < ys.length) →
    (Op.eqItems (d + 1) e 1 (xs.map (Value.int k)).toArray (ys.map (Value.int k)).toArray is).run P w = .ok (is.all fun i => xs.getD i 0 == ys.getD i 0) w
  | [], _ => by simp [Op.eqItems]
  | i :: is, h => by
    have h0 := h i (by simp)
    simp only [Op.eqItems, Sem.run_bind, Nat.mul_one, part_int w he xs i h0.1, part_int w he ys i h0.2, Result.andThen_ok, run_equalIn_int w d e k k _ _ he]
    have ih := run_eqItems_ints d he xs ys is (fun j hj => h j (by simp [hj]))
    cases t : (xs.getD i 0 == ys.getD i 0)
    · simp only [Bool.not_false, if_true, Sem.run_pure, List.all_cons, t, Bool.false_and]
    · simp only [Bool.not_true, Bool.false_eq_true, if_false, List.all_cons, t, Bool.true_and]
      exact ih

theorem all_range_eq (xs ys : List Int) (n : Nat) (h1 : xs.length = n) (h2 : ys.length = n) : ((List.range n).all fun i => xs.getD i 0 == ys.getD i 0) = decide (xs = ys) := by
  rw [Bool.eq_iff_iff]
  simp only [List.all_eq_true, List.mem_range, beq_iff_eq, decide_eq_true_eq]
  constructor
  · intro h
    apply List.ext_getElem (by omega)
    intro i a b
    have := h i (by omega)
    rw [List.getD_eq_getElem?_getD, List.getD_eq_getElem?_getD, List.getElem?_eq_getElem a, List.getElem?_eq_getElem b] at this
    simpa using this
  · rintro rfl i _
    rfl

/-- '==' and '!=' of two arrays of n integers. -/
theorem run_eql_ints {t e : TypeId} {k : IntKind} {n : Nat} {i : TypeInfo} (ht : P.underlying t = some (.array n e)) (he : P.underlying e = some (.int k)) (hi : P.info? e = some i) (hc : P.cellsOf e = 1) (xs ys : List Int) (h1 : xs.length = n) (h2 : ys.length = n) :
    (binOp .eql t (.agg (xs.map (Value.int k)).toArray) (.agg (ys.map (Value.int k)).toArray)).run P w = .ok (.bool (decide (xs = ys))) w := by
  rw [run_eql_struct, run_equalIn_array w 9999 _ _ ht hi, hc, run_eqItems_ints w 9998 he xs ys _ (fun j hj => by simp at hj; omega), all_range_eq xs ys n h1 h2]
  rfl
theorem run_neq_ints {t e : TypeId} {k : IntKind} {n : Nat} {i : TypeInfo} (ht : P.underlying t = some (.array n e)) (he : P.underlying e = some (.int k)) (hi : P.info? e = some i) (hc : P.cellsOf e = 1) (xs ys : List Int) (h1 : xs.length = n) (h2 : ys.length = n) :
    (binOp .neq t (.agg (xs.map (Value.int k)).toArray) (.agg (ys.map (Value.int k)).toArray)).run P w = .ok (.bool (!decide (xs = ys))) w := by
  rw [run_neq_struct, run_equalIn_array w 9999 _ _ ht hi, hc, run_eqItems_ints w 9998 he xs ys _ (fun j hj => by simp at hj; omega), all_range_eq xs ys n h1 h2]
  rfl
end
end Go.Proofs.Ytpagekhgeahmaaa
