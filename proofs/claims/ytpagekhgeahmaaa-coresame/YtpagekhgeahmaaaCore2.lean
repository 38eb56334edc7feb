/- Contracts of the document's answers for layer 3: what is right. -/
import Derived.Test.YtpagekhgeahmaaaCore1
namespace Go.Proofs.Ytpagekhgeahmaaa
open Go.RowKit
set_option linter.unusedVariables false
set_option linter.unusedSimpArgs false

/-- A number from -2^61 to 2^61. -/
def near (n : Int) : Bool := decide (-2305843009213693952 ≤ n) && decide (n ≤ 2305843009213693952)
def frNear (f : Fr) : Bool := f.R.all near
def coNear (x : Co) : Bool := near x.v && near x.x0 && near x.x1 && near x.x2 && x.F.all frNear

theorem near_any (n : Int) (w : World) : Calls Try.prog 87 #[.int .i64 n] w fun e w' => e = .returned (.bool (near n)) ∧ w = w' := by
  go_enter Try.func87, Try.ntmps87
  go_wp2
  all_goals
    go_ret
    exact ⟨ret_bool (by rw [Bool.eq_iff_iff]; simp [near]; omega), rfl⟩

set_option maxHeartbeats 2000000 in
theorem rcore_any (AF AR : Option Addr) (cF cR : Nat) (x : Co) (w : World) (hF : RowF w AF x.F) (h0 : x.F.length ≤ 1000000) :
    Calls Try.prog 56 #[.agg #[.slice AF x.F.length cF, .int .i64 x.v, .int .i64 x.e, .int .i64 x.x0, .int .i64 x.x1, .int .i64 x.x2, .slice AR x.ret.length cR]] w fun e w' => e = .returned (.bool (coNear x)) ∧ Below w.heap.size w w' := by
  have HC := hid (show coNear x = (near x.v && near x.x0 && near x.x1 && near x.x2 && x.F.all frNear) from rfl)
  cases q0 : near x.v
  · go_enter Try.func56, Try.ntmps56
    go_wp2_with (go_at_call 87; refine (near_any _ _).mono ?_; rintro e w' ⟨rfl, rfl⟩)
    go_ret
    exact ⟨ret_bool (by rw [HC.out, q0]; rfl), boxed _ _⟩
  · cases q1 : near x.x0
    · go_enter Try.func56, Try.ntmps56
      go_wp2_with (go_at_call 87; refine (near_any _ _).mono ?_; rintro e w' ⟨rfl, rfl⟩)
      go_ret
      exact ⟨ret_bool (by rw [HC.out, q0, q1]; rfl), boxed _ _⟩
    · cases q2 : near x.x1
      · go_enter Try.func56, Try.ntmps56
        go_wp2_with (go_at_call 87; refine (near_any _ _).mono ?_; rintro e w' ⟨rfl, rfl⟩)
        go_ret
        exact ⟨ret_bool (by rw [HC.out, q0, q1, q2]; rfl), boxed _ _⟩
      · cases q3 : near x.x2
        · go_enter Try.func56, Try.ntmps56
          go_wp2_with (go_at_call 87; refine (near_any _ _).mono ?_; rintro e w' ⟨rfl, rfl⟩)
          go_ret
          exact ⟨ret_bool (by rw [HC.out, q0, q1, q2, q3]; rfl), boxed _ _⟩
        · have HC2 : Hid (coNear x = x.F.all frNear) := by show _ = _; rw [HC.out, q0, q1, q2, q3]; rfl
          go_enter Try.func56, Try.ntmps56
          go_wp2_with (go_at_call 87; refine (near_any _ _).mono ?_; rintro e w' ⟨rfl, rfl⟩)
          go_loop [3] (fun i => ∃ k : Nat, k ≤ x.F.length ∧ i = .int .i64 k ∧ Hid ((x.F.take k).all frNear = true)) (fun i => x.F.length - (intOf i).toNat)
          case atStart => exact ⟨0, Nat.zero_le _, rfl, hid rfl⟩
          case round =>
            obtain ⟨k, hk, rfl, HT⟩ := hrel
            by_cases hlt : k < x.F.length
            · obtain ⟨b, o, rfl, hbl, hat⟩ := hF (by omega)
              obtain ⟨f, hf⟩ : ∃ f, x.F[k]? = some f := ⟨_, List.getElem?_eq_getElem hlt⟩
              obtain ⟨r8, _, _, cr, AS, cS, c10, rS⟩ := hat k f hf
              have HF := hid hf
              have R8 := hid r8
              have CR := hid cr
              clear hat hf r8 cr
              go_wp2
              go_loop [4, 5] (fun i _ => ∃ j : Nat, j ≤ 8 ∧ i = .int .i64 j ∧ Hid ((f.R.take j).all near = true)) (fun i _ => 8 - (intOf i).toNat)
              case atStart => exact ⟨0, Nat.zero_le _, rfl, hid rfl⟩
              case round =>
                obtain ⟨j, hj, rfl, HJ⟩ := hrel
                by_cases hjt : j < 8
                · have hc := CR.out j hjt
                  obtain ⟨z, hz⟩ : ∃ z, f.R.getD j 0 = z := ⟨_, rfl⟩
                  rw [hz] at hc
                  have hz2 : f.R[j]? = some z := by rw [List.getD_eq_getElem?_getD, List.getElem?_eq_getElem (by rw [R8.out]; exact hjt)] at hz; rw [List.getElem?_eq_getElem (by rw [R8.out]; exact hjt)]; simpa using hz
                  have HZ := hid hz2
                  clear hz hz2
                  cases t : near z
                  · go_wp2_with (go_at_call 87; refine (near_any _ _).mono ?_; rintro e w' ⟨rfl, rfl⟩)
                    go_ret
                    exact ⟨ret_bool (by rw [HC2.out, all_bad HF.out (all_bad HZ.out t)]), boxed _ _⟩
                  · go_wp2_with (go_at_call 87; refine (near_any _ _).mono ?_; rintro e w' ⟨rfl, rfl⟩)
                    go_round
                    case rel => exact ⟨j + 1, by omega, by go_num, hid (all_more HZ.out HJ.out t)⟩
                    case measure => simp [intOf]; omega
                · go_wp2
                  go_round
                  case rel => exact ⟨k + 1, by omega, by go_num, hid (all_more HF.out HT.out (all_full (by rw [R8.out]; omega) HJ.out))⟩
                  case measure => simp [intOf]; omega
            · go_wp2
              go_ret
              exact ⟨ret_bool (by rw [HC2.out, all_full (by omega) HT.out]), boxed _ _⟩
end Go.Proofs.Ytpagekhgeahmaaa
