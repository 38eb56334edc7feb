/- Contract: is a number in a row (hazelref04.In)? What each core holds, summed up. -/
import Derived.Test.YtlknpmdmnekedaaKBas
import Derived.Test.YtlknpmdmnekedaaStkO
import Derived.Test.YtlknpmdmnekedaaChecked
namespace Go.Proofs.Ytlknpmdmnekedaa
open Go.RowKit
set_option linter.unusedVariables false

theorem contains_at {l : List Int} {p : Int} {k : Nat} (hk : k < l.length) (h : l[k] = p) : decide (p ∈ l) = true := by
  rw [decide_eq_true_iff, ← h]; exact List.getElem_mem hk
theorem contains_no {l : List Int} {p : Int} (h : ∀ j, j < l.length → l[j]? ≠ some p) : decide (p ∈ l) = false := by
  rw [decide_eq_false_iff_not]
  intro hc
  obtain ⟨i, hi⟩ := List.mem_iff_getElem?.1 hc
  exact h i (List.getElem?_eq_some_iff.1 hi).1 hi
set_option maxHeartbeats 2000000 in
theorem rin_any (A : Option Addr) (c : Nat) (l : List Int) (p : Int) (w : World) (h : Row w A l) (hl : l.length ≤ 1000000) :
    Calls Try.prog 15 #[.slice A l.length c, .int .i64 p] w fun e w' => e = .returned (.bool (decide (p ∈ l))) ∧ w = w' := by
  go_enter Try.func15, Try.ntmps15
  go_wp2
  go_loop [5] (fun i => ∃ k : Nat, k ≤ l.length ∧ i = .int .i64 k ∧ Hid (∀ j, j < k → l[j]? ≠ some p)) (fun i => l.length - (intOf i).toNat)
  case atStart => exact ⟨0, Nat.zero_le _, rfl, hid (fun j hj => by omega)⟩
  case round =>
    obtain ⟨k, hk, rfl, HT⟩ := hrel
    by_cases hlt : k < l.length
    · have kl : (k : Int) < (l.length : Int) := by omega
      obtain ⟨b1, o1, rfl, hb1, hc⟩ := h.atE k hlt
      have HE := hid (List.getElem?_eq_getElem hlt)
      obtain ⟨z, hz⟩ : ∃ z, z = l[k] := ⟨_, rfl⟩
      rw [← hz] at hc HE
      have HZ := hid hz
      clear hz
      by_cases hzp : z = p
      · have e1 : (z == p) = true := by simpa using hzp
        have HP := hid (contains_at hlt (HZ.out.symm.trans hzp))
        clear hzp
        go_wp2_with fail
        go_ret
        exact ⟨ret_bool HP.out.symm, rfl⟩
      · have e1 : (z == p) = false := by simpa using hzp
        have HN := hid (show ∀ j, j < k + 1 → l[j]? ≠ some p from fun j hj => by
          rcases Nat.lt_or_ge j k with q | q
          · exact HT.out j q
          · have : j = k := by omega
            subst this
            rw [HE.out]
            intro e
            exact hzp (Option.some.inj e))
        clear hzp HE HZ HT
        go_wp2_with fail
        go_round
        case rel => exact ⟨k + 1, by omega, by go_num, HN⟩
        case measure => simp [intOf]; omega
    · have kl : ¬ (k : Int) < (l.length : Int) := by omega
      have HP := hid (contains_no (fun j hj => HT.out j (by omega)))
      go_wp2_with fail
      go_ret
      exact ⟨ret_bool HP.out.symm, rfl⟩

theorem nodup_few {l : List Nat} {n : Nat} (h : l.Nodup) (hr : ∀ j ∈ l, 1 ≤ j ∧ j ≤ n) (hn : n ≤ 200) : l.length ≤ 1000000 := by
  have h1 : l.length ≤ (List.range (n + 1)).length := List.Nodup.length_le_of_subset h (fun j hj => by
    rw [List.mem_range]; have := (hr j hj).2; omega)
  rw [List.length_range] at h1
  omega
/-- What the first i cores hold of p. -/
def totTo (C : List Co) (own : List (List Int)) (p i : Nat) : Nat := ((List.zipWith (hold p) C own).take i).sum
def cntTo (o : List Int) (p k : Nat) : Nat := (o.take k).count (p : Int)
theorem totTo_succ {C : List Co} {own : List (List Int)} {p i : Nat} {x : Co} {o : List Int} (hx : C[i]? = some x) (ho : own[i]? = some o) : totTo C own p (i + 1) = totTo C own p i + hold p x o := by
  unfold totTo
  rw [List.take_add_one, List.getElem?_zipWith, hx, ho]
  simp
theorem totTo_end {C : List Co} {own : List (List Int)} {p c : Nat} (hC : C.length = c) (ho : own.length = c) : totTo C own p c = tot C own p := by
  unfold totTo tot
  rw [List.take_of_length_le (by simp [hC, ho])]
theorem totTo_le (C : List Co) (own : List (List Int)) (p i : Nat) : totTo C own p i ≤ tot C own p := by
  unfold totTo tot
  conv => rhs; rw [← List.take_append_drop i (List.zipWith (hold p) C own)]
  rw [List.sum_append]
  omega
theorem cntTo_succ {o : List Int} {p k : Nat} {z : Int} (h : o[k]? = some z) : cntTo o p (k + 1) = cntTo o p k + if z = (p : Int) then 1 else 0 := by
  unfold cntTo
  rw [List.take_add_one, h]
  simp only [Option.toList_some, List.count_append, List.count_cons, List.count_nil, Nat.zero_add]
  congr 1
  by_cases q : z = (p : Int) <;> simp [q]
theorem cntTo_le (o : List Int) (p k : Nat) : cntTo o p k ≤ o.count (p : Int) := (List.take_sublist k o).count_le _
theorem cntTo_end (o : List Int) (p : Nat) : cntTo o p o.length = o.count (p : Int) := by unfold cntTo; rw [List.take_length]
theorem contains_cast (l : List Nat) (p : Nat) : decide ((p : Int) ∈ l.map (fun (i : Nat) => (i : Int))) = decide (p ∈ l) := by
  rw [Bool.eq_iff_iff, decide_eq_true_iff, decide_eq_true_iff]
  constructor
  · intro h
    obtain ⟨i, hi, e⟩ := List.mem_map.1 h
    have : i = p := by omega
    rw [← this]; exact hi
  · intro h
    exact List.mem_map.2 ⟨p, h, rfl⟩
end Go.Proofs.Ytlknpmdmnekedaa
