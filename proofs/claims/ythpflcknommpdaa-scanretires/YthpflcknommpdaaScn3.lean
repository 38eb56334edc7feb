/- Contracts: lists with a number more, and without one; the first that wasn't seen, by the program. -/
import Derived.Test.YthpflcknommpdaaAppF
import Derived.Test.YthpflcknommpdaaScn1
import Derived.Deep.RegionLaw
import Derived.Deep.RegionHeld3
namespace Go.Proofs.Ythpflcknommpdaa
open Go.RowKit
set_option linter.unusedVariables false
set_option linter.unusedSimpArgs false

theorem infoI : (Try.prog.info? 3).map (fun i => (i.zero, i.size, i.bytes)) = some (some (.int .i64 0), 1, 8) := by kernel_rfl
/-- A part of a row, as a slice expression has it. -/
theorem Row.cut {w : World} {A : Option Addr} {xs : List Int} (h : Row w A xs) (i : Nat) (p : Prop) [Decidable p] (ys : List Int) (hy : ∀ j y, ys[j]? = some y → xs[i + j]? = some y) (hp : p → ys = []) : Row w (if p then A else Option.map (fun x => ({ block := x.block, off := x.off + i } : Addr)) A) ys := fun hn => by
  have q : ¬ p := fun q => by rw [hp q] at hn; simp at hn
  have hx := hy 0 _ (List.getElem?_eq_getElem hn)
  obtain ⟨b, o, e, hl, hc⟩ := h (by have := (List.getElem?_eq_some_iff.1 hx).1; omega)
  refine ⟨b, o + i, by rw [if_neg q, e]; rfl, hl, fun j y hj => ?_⟩
  have := hc (i + j) y (hy j y hj)
  rw [show o + i + j = o + (i + j) by omega]; exact this
set_option maxRecDepth 100000 in
set_option maxHeartbeats 1000000 in
theorem more_any (A : Option Addr) (c : Nat) (xs : List Int) (z : Int) (w : World) (h : Row w A xs) (hc : xs.length ≤ c) (hl : xs.length ≤ 1000000) :
    Calls Try.prog 130 #[.slice A xs.length c, .int .i64 z] w fun e w' => ∃ (A' : Option Addr) (c' : Nat), e = .returned (.slice A' (xs ++ [z]).length c') ∧ Row w' A' (xs ++ [z]) ∧ (xs ++ [z]).length ≤ c' ∧ Below w.heap.size w w' ∧ ∀ q, A' = some q → w.heap.size ≤ q.block := by
  go_enter Try.func130, Try.ntmps130
  go_wp2_with (at_builtin; refine wpList_append_full rfl _ _ _ rfl infoI Try.underlying22 _ xs _ _ rfl (by omega) (by omega) (h.alloc _) hl _ _ _ [z] rfl rfl (Blk.row (xs := [z]) (heap_alloc_new w _)) (by simp) ?_; intro A' c' w' rA hcA hk hw)
  refine bodyPost_ret (v := .slice A' (xs ++ [z]).length c') (by simp [results, Try.results130, go_sem]) rfl ?_
  refine ⟨A', c', rfl, rA, hcA, bstep (boxed _ _) hk, fun q e => ?_⟩
  rcases hw with ⟨_, h0⟩ | h0
  · simp at h0
  · rw [h0] at e; injection e with e; subst e; simp
set_option maxRecDepth 100000 in
set_option maxHeartbeats 1000000 in
theorem without_L (A : Option Addr) (c : Nat) (xs L : List Int) (k : Nat) (w : World) (h : Row w A xs) (hc : xs.length ≤ c) (hl : xs.length ≤ 1000000) (hk : k < xs.length) (hL : L = xs.take k ++ xs.drop (k + 1)) :
    Calls Try.prog 132 #[.slice A xs.length c, .int .i64 k] w fun e w' => ∃ (A' : Option Addr) (c' : Nat), e = .returned (.slice A' L.length c') ∧ Row w' A' L ∧ L.length ≤ c' ∧ Below w.heap.size w w' ∧ ∀ q, A' = some q → A = some q ∨ w.heap.size ≤ q.block := by
  have e1 : (xs.take k).length = k := by simp; omega
  have e2 : (xs.drop (k + 1)).length = xs.length - (k + 1) := by simp
  have E3 := hid (show k + (xs.length - (k + 1)) = L.length by rw [hL, List.length_append, e1, e2])
  have k1 : k ≤ c := by omega
  have k2 : k + 1 ≤ xs.length := by omega
  have k3 : k + 1 ≤ c := by omega
  have k4 : IntKind.i64.wrap ((k : Int) + 1) = (k : Int) + 1 := IntWalk.i64_in _ (by omega)
  have k5 : 0 ≤ (k : Int) + 1 := by omega
  have k6 : (k : Int) + 1 ≤ (xs.length : Int) := by omega
  have rT : Row w A (xs.take k) := fun hn => by
    obtain ⟨b, o, e, h1, h2⟩ := h (by omega)
    exact ⟨b, o, e, h1, fun j x hx => h2 j x (by rw [List.getElem?_take] at hx; split at hx; exact hx; cases hx)⟩
  have rD := h.cut (k + 1) (c = k + 1) (xs.drop (k + 1)) (fun j y hj => by simpa using hj) (fun q => List.eq_nil_of_length_eq_zero (by omega))
  have HL := hid hL
  clear hL
  go_enter Try.func132, Try.ntmps132
  go_upto_region 1 with (fail)
  go_region_held3 (fun w' => Below w.heap.size w w') (exact (by repeat (first | (with_reducible exact Below.refl _ _) | (with_reducible refine Below.drew ?_) | (with_reducible refine bstep ?_ hk9))))
    (first | (refine step_append_full rfl _ _ _ rfl infoI Try.underlying22 _ (xs.take k) _ _ rfl (by omega) (by omega) (rT.step (by repeat (first | (with_reducible exact Below.refl _ _) | (with_reducible refine Below.drew ?_)))) (by omega) _ _ _ (xs.drop (k + 1)) rfl (by omega) (rD.step (by repeat (first | (with_reducible exact Below.refl _ _) | (with_reducible refine Below.drew ?_)))) (by omega) ?_; intro A' c' w4 rA hcA hk9 hw9; rw [← HL.out] at rA hcA ⊢))
  rename_i hHeld
  clear e1 e2
  go_wp2
  all_goals refine bodyPost_ret (v := .slice A' L.length c') (by simp [results, Try.results132, go_sem]) rfl ?_
  all_goals refine ⟨A', c', rfl, rA, hcA, hHeld, fun q e => ?_⟩
  all_goals rcases hw9 with ⟨h0, _⟩ | h0
  all_goals first | (left; rw [← h0]; exact e) | (right; rw [h0] at e; injection e with e; subst e; simp)
theorem without_any (A : Option Addr) (c : Nat) (xs : List Int) (k : Nat) (w : World) (h : Row w A xs) (hc : xs.length ≤ c) (hl : xs.length ≤ 1000000) (hk : k < xs.length) :
    Calls Try.prog 132 #[.slice A xs.length c, .int .i64 k] w fun e w' => ∃ (A' : Option Addr) (c' : Nat), e = .returned (.slice A' (xs.take k ++ xs.drop (k + 1)).length c') ∧ Row w' A' (xs.take k ++ xs.drop (k + 1)) ∧ (xs.take k ++ xs.drop (k + 1)).length ≤ c' ∧ Below w.heap.size w w' ∧ ∀ q, A' = some q → A = some q ∨ w.heap.size ≤ q.block := by
  exact without_L A c xs _ k w h hc hl hk rfl

theorem contains_at6 {l : List Int} {p : Int} {k : Nat} (hk : k < l.length) (h : l[k] = p) : p ∈ l := by
  rw [← h]; exact List.getElem_mem hk
theorem contains_no6 {l : List Int} {p : Int} (h : ∀ j, j < l.length → l[j]? ≠ some p) : ¬ p ∈ l := by
  intro hc
  obtain ⟨i, hi⟩ := List.mem_iff_getElem?.1 hc
  exact h i (List.getElem?_eq_some_iff.1 hi).1 hi
set_option maxHeartbeats 2000000 in
theorem index_any (A : Option Addr) (c : Nat) (l : List Int) (p : Int) (w : World) (h : Row w A l) (hl : l.length ≤ 1000000) :
    Calls Try.prog 137 #[.slice A l.length c, .int .i64 p] w fun e w' => ∃ n : Int, e = .returned (.int .i64 n) ∧ (0 ≤ n ↔ p ∈ l) ∧ w = w' := by
  go_enter Try.func137, Try.ntmps137
  go_wp2
  go_loop [8] (fun i => ∃ k : Nat, k ≤ l.length ∧ i = .int .i64 k ∧ Hid (∀ j, j < k → l[j]? ≠ some p)) (fun i => l.length - (intOf i).toNat)
  case atStart => exact ⟨0, Nat.zero_le _, rfl, hid (fun j hj => by omega)⟩
  case round =>
    obtain ⟨k, hk, rfl, HT⟩ := hrel
    by_cases hlt : k < l.length
    · have kl : (k : Int) < (l.length : Int) := by omega
      obtain ⟨b1, o1, rfl, hb1, hc⟩ := h.atE k hlt
      have HE := hid (List.getElem?_eq_getElem hlt)
      obtain ⟨z, hz⟩ : ∃ z, z = l[k] := ⟨_, rfl⟩
      rw [← hz] at hc HE
      have HZ := hid hz
      clear hz
      by_cases hzp : p = z
      · have e1 : (p == z) = true := by simpa using hzp
        have HP := hid (contains_at6 hlt (HZ.out.symm.trans hzp.symm))
        clear hzp
        go_wp2_with fail
        go_ret
        exact ⟨(k : Int), rfl, ⟨fun _ => HP.out, fun _ => by omega⟩, rfl⟩
      · have e1 : (p == z) = false := by simpa using hzp
        have HN := hid (show ∀ j, j < k + 1 → l[j]? ≠ some p from fun j hj => by
          rcases Nat.lt_or_ge j k with q | q
          · exact HT.out j q
          · have : j = k := by omega
            subst this
            rw [HE.out]
            intro e
            exact hzp (Option.some.inj e).symm)
        clear hzp HE HZ HT
        go_wp2_with fail
        go_round
        case rel => exact ⟨k + 1, by omega, by go_num, HN⟩
        case measure => simp [intOf]; omega
    · have kl : ¬ (k : Int) < (l.length : Int) := by omega
      have HP := hid (contains_no6 (fun j hj => HT.out j (by omega)))
      go_wp2_with fail
      go_ret
      exact ⟨-1, rfl, ⟨fun h => by omega, fun h => (HP.out h).elim⟩, rfl⟩
theorem contains_any (A : Option Addr) (c : Nat) (l : List Int) (p : Int) (w : World) (h : Row w A l) (hl : l.length ≤ 1000000) :
    Calls Try.prog 136 #[.slice A l.length c, .int .i64 p] w fun e w' => e = .returned (.bool (decide (p ∈ l))) ∧ w = w' := by
  go_enter Try.func136, Try.ntmps136
  go_wp2_with (go_at_call 137; (with_reducible refine (index_any A c l p _ h hl).mono ?_); rintro e w' ⟨n, rfl, hn, rfl⟩; have HN := hid hn; clear hn)
  go_ret
  exact ⟨ret_bool (decide_eq_decide.2 HN.out), rfl⟩
theorem contains_b {l : List Int} {p : Int} {b : Bool} (hb : decide (p ∈ l) = b) (A : Option Addr) (c : Nat) (w : World) (h : Row w A l) (hl : l.length ≤ 1000000) :
    Calls Try.prog 136 #[.slice A l.length c, .int .i64 p] w fun e w' => e = .returned (.bool b) ∧ w = w' := by subst hb; exact contains_any A c l p w h hl
/-- What a search tells. -/
def UnRet (o : Option Nat) (e : Ending) : Prop := match o with
  | none => e = .returned (.tuple #[.int .i64 0, .bool false])
  | some j => e = .returned (.tuple #[.int .i64 (j : Int), .bool true])
set_option maxHeartbeats 2000000 in
theorem unnamed_any (A A2 : Option Addr) (c c2 : Nat) (l seen : List Int) (r : Int) (w : World) (h : Row w A l) (h2 : Row w A2 seen) (hl : l.length ≤ 1000000) (hl2 : seen.length ≤ 1000000) :
    Calls Try.prog 131 #[.slice A l.length c, .slice A2 seen.length c2, .int .i64 r] w fun e w' => UnRet (pUn l seen r) e ∧ w = w' := by
  by_cases hr : r < 0
  · have HP := hid (pUn_no (ret := l) (seen := seen) hr)
    go_enter Try.func131, Try.ntmps131
    go_wp2
    refine bodyPost_ret (v := .tuple #[.int .i64 0, .bool false]) (by simp [results, Try.results131, go_sem]) rfl ?_
    exact ⟨by rw [HP.out]; exact rfl, rfl⟩
  obtain ⟨r, rfl⟩ : ∃ n : Nat, r = (n : Int) := ⟨r.toNat, by omega⟩
  go_enter Try.func131, Try.ntmps131
  go_wp2
  go_loop [8] (fun i => ∃ k : Nat, r ≤ k ∧ (k ≤ l.length ∨ k = r) ∧ i = .int .i64 k ∧ Hid (∀ q, r ≤ q → q < k → l.getD q 0 ∈ seen)) (fun i => l.length - (intOf i).toNat)
  case atStart => exact ⟨r, Nat.le_refl _, .inr rfl, rfl, hid (fun j hj hj2 => by omega)⟩
  case round =>
    obtain ⟨k, hk0, hk, rfl, HT⟩ := hrel
    by_cases hlt : k < l.length
    · have kl : (k : Int) < (l.length : Int) := by omega
      obtain ⟨b1, o1, rfl, hb1, hc⟩ := h.atE k hlt
      obtain ⟨z, hz⟩ : ∃ z, z = l[k] := ⟨_, rfl⟩
      have HE := hid (show l.getD k 0 = z by rw [List.getD_eq_getElem?_getD, List.getElem?_eq_getElem hlt, hz]; rfl)
      rw [← hz] at hc
      clear hz
      by_cases hzp : z ∈ seen
      · have HN := hid (show ∀ q, r ≤ q → q < k + 1 → l.getD q 0 ∈ seen from fun j h1 hj => by
          rcases Nat.lt_or_ge j k with q | q
          · exact HT.out j h1 q
          · have : j = k := by omega
            subst this
            rw [HE.out]
            exact hzp)
        have e1 := hid (decide_eq_true hzp)
        clear hzp HE HT
        go_wp2_with (go_at_call 136; (with_reducible refine (contains_b e1.out A2 c2 _ h2 hl2).mono ?_); rintro e w' ⟨rfl, rfl⟩)
        go_round
        case rel => exact ⟨k + 1, by omega, .inl (by omega), by go_num, HN⟩
        case measure => simp [intOf]; omega
      · have e1 := hid (decide_eq_false hzp)
        have HP := hid (pUn_at hk0 hlt (by rw [HE.out]; exact hzp) HT.out)
        clear hzp
        go_wp2_with (go_at_call 136; (with_reducible refine (contains_b e1.out A2 c2 _ h2 hl2).mono ?_); rintro e w' ⟨rfl, rfl⟩)
        refine bodyPost_ret (v := .tuple #[.int .i64 k, .bool true]) (by simp [results, Try.results131, go_sem]) rfl ?_
        exact ⟨by rw [HP.out]; exact rfl, rfl⟩
    · have kl : ¬ (k : Int) < (l.length : Int) := by omega
      have HP := hid (pUn_none (fun q h1 h3 => HT.out q h1 (by omega)))
      go_wp2_with fail
      refine bodyPost_ret (v := .tuple #[.int .i64 0, .bool false]) (by simp [results, Try.results131, go_sem]) rfl ?_
      exact ⟨by rw [HP.out]; exact rfl, rfl⟩
end Go.Proofs.Ythpflcknommpdaa
