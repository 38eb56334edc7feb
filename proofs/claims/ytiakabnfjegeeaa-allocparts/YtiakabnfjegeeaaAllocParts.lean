/- For every system and every int, the law AllocParts (each node is in just one part; a step turns at most one node) returns true, and the arguments read afterwards as before. No conditions. -/
import Derived.Test.YtiakabnfjegeeaaRows
import Derived.Test.YtiakabnfjegeeaaKAlB
import Derived.Test.YtiakabnfjegeeaaOpen8
import Derived.Test.YtiakabnfjegeeaaKCoB
import Derived.Test.YtiakabnfjegeeaaKBas
namespace Go.Proofs.Ytiakabnfjegeeaa
namespace AllocParts
open Go.ChangeShapes Go.WideShapes Go.ChangeAt Go.RowKit
set_option linter.unusedVariables false
set_option linter.unusedSimpArgs false

theorem own : ownKnob Try.prog.godebug = none := by kernel_rfl
theorem top_W {s : Sy} (h : SyW s) {i : Int} {f : Fr} (ht : pTop s i = some f) : W64 (f.R.getD 0 0) := by
  obtain ⟨k, n, x, rfl, hx, _, hf⟩ := pTop_out ht
  have h1 := ((h.2 x (List.mem_of_getElem? hx)).1 f (List.mem_of_getElem? hf)).2.2.1
  cases hR : f.R with
  | nil => simp [W64]
  | cons r rs => exact h1 r (by rw [hR]; simp)
set_option maxRecDepth 100000 in
set_option maxHeartbeats 8000000 in
theorem walk_not (A0 B0 C0 L0 : Option Addr) (a0 b0 c0 d0 : Nat) (s0 : Sy) (n1 : Int) (w0 : World)
    (rW : Row w0 A0 s0.M.W) (rG : Row w0 B0 s0.M.G) (rC : RowC w0 C0 s0.C) (rL : RowE w0 L0 s0.L) (g0 : s0.M.W.length ≤ maxLen) (g1 : s0.M.G.length ≤ maxLen) (g2 : s0.C.length ≤ maxLen) (g3 : s0.L.length ≤ maxLen) (hw : SyW s0) (q0 : syMays s0 = false) :
    Calls Try.prog 6 #[.agg #[.slice A0 s0.M.W.length a0, .slice B0 s0.M.G.length b0, .bool s0.M.bad, .slice C0 s0.C.length c0, .slice L0 s0.L.length d0], .int .i64 n1] w0 fun e w' => e = .returned (.bool true) ∧ Below w0.heap.size w0 w' := by
  have S0 : RS w0 s0 A0 B0 C0 L0 := ⟨rW, rG, rC, rL⟩
  have hb : Below w0.heap.size w0 w0 := Below.refl _ _
  have HC := rmay3_any A0 B0 C0 L0 a0 b0 c0 d0 s0
  rw [q0] at HC
  replace HC := hid (show ∀ w, RS w s0 A0 B0 C0 L0 → Calls Try.prog 17 #[.agg #[.slice A0 s0.M.W.length a0, .slice B0 s0.M.G.length b0, .bool s0.M.bad, .slice C0 s0.C.length c0, .slice L0 s0.L.length d0], .int .i64 60] w fun e w' => e = .returned (.bool false) ∧ Below w.heap.size w w' from fun w h => HC w h.G h.C g1 g0 g2 g3)
  clear rW rG rC rL g0 g1 g2 g3
  have HW := hid hw
  clear hw
  go_enter Try.func6, Try.ntmps6
  go_upto_region 1 with (fail)
  have Bk0 := heap_alloc_new w0 (.cells #[.slice A0 s0.M.W.length a0, .slice B0 s0.M.G.length b0, .bool s0.M.bad, .slice C0 s0.C.length c0, .slice L0 s0.L.length d0] 30)
  have lt0 : w0.heap.size < (w0.alloc (.cells #[.slice A0 s0.M.W.length a0, .slice B0 s0.M.G.length b0, .bool s0.M.bad, .slice C0 s0.C.length c0, .slice L0 s0.L.length d0] 30)).heap.size := by simp
  have hk : Below w0.heap.size w0 (w0.alloc (.cells #[.slice A0 s0.M.W.length a0, .slice B0 s0.M.G.length b0, .bool s0.M.bad, .slice C0 s0.C.length c0, .slice L0 s0.L.length d0] 30)) := boxed _ _
  replace S0 := S0.step hk
  replace hb := bstep hb hk
  clear hk
  obtain ⟨v0, hv⟩ : ∃ v, w0.heap.size = v := ⟨_, rfl⟩
  rw [hv] at Bk0 lt0 ⊢
  clear hv
  generalize (w0.alloc (.cells #[.slice A0 s0.M.W.length a0, .slice B0 s0.M.G.length b0, .bool s0.M.bad, .slice C0 s0.C.length c0, .slice L0 s0.L.length d0] 30)) = w1 at *
  go_wp2_with fail
  refine (shown7_any _).mono ?_
  rintro e w2 ⟨rfl, hk⟩
  replace Bk0 := (hk.block v0 lt0).trans Bk0
  replace lt0 := Nat.lt_of_lt_of_le lt0 hk.size
  replace S0 := S0.step hk
  replace hb := bstep hb hk
  clear hk
  go_upto_region 2 with (fail)
  obtain ⟨m0_0, m0_1, m0_2, m0_3, m0_4⟩ := cells5 Bk0
  go_wp2_with (go_at_call 17; refine (HC.out _ S0).mono ?_; rintro e wm ⟨rfl, hk⟩)
  go_ret
  exact ⟨rfl, bstep hb hk⟩

set_option maxRecDepth 100000 in
set_option maxHeartbeats 8000000 in
theorem walk_yes (A0 B0 C0 L0 : Option Addr) (a0 b0 c0 d0 : Nat) (s0 : Sy) (n1 : Int) (w0 : World)
    (rW : Row w0 A0 s0.M.W) (rG : Row w0 B0 s0.M.G) (rC : RowC w0 C0 s0.C) (rL : RowE w0 L0 s0.L) (g0 : s0.M.W.length ≤ maxLen) (g1 : s0.M.G.length ≤ maxLen) (g2 : s0.C.length ≤ maxLen) (g3 : s0.L.length ≤ maxLen) (hw : SyW s0) (q0 : syMays s0 = true) :
    Calls Try.prog 6 #[.agg #[.slice A0 s0.M.W.length a0, .slice B0 s0.M.G.length b0, .bool s0.M.bad, .slice C0 s0.C.length c0, .slice L0 s0.L.length d0], .int .i64 n1] w0 fun e w' => e = .returned (.bool true) ∧ Below w0.heap.size w0 w' := by
  have S0 : RS w0 s0 A0 B0 C0 L0 := ⟨rW, rG, rC, rL⟩
  have hb : Below w0.heap.size w0 w0 := Below.refl _ _
  have HC := rmay3_any A0 B0 C0 L0 a0 b0 c0 d0 s0
  rw [q0] at HC
  replace HC := hid (show ∀ w, RS w s0 A0 B0 C0 L0 → Calls Try.prog 17 #[.agg #[.slice A0 s0.M.W.length a0, .slice B0 s0.M.G.length b0, .bool s0.M.bad, .slice C0 s0.C.length c0, .slice L0 s0.L.length d0], .int .i64 60] w fun e w' => e = .returned (.bool true) ∧ Below w.heap.size w w' from fun w h => HC w h.G h.C g1 g0 g2 g3)
  clear rW rG rC rL g0 g1 g2 g3
  have HW := hid hw
  clear hw
  go_enter Try.func6, Try.ntmps6
  go_upto_region 1 with (fail)
  have Bk0 := heap_alloc_new w0 (.cells #[.slice A0 s0.M.W.length a0, .slice B0 s0.M.G.length b0, .bool s0.M.bad, .slice C0 s0.C.length c0, .slice L0 s0.L.length d0] 30)
  have lt0 : w0.heap.size < (w0.alloc (.cells #[.slice A0 s0.M.W.length a0, .slice B0 s0.M.G.length b0, .bool s0.M.bad, .slice C0 s0.C.length c0, .slice L0 s0.L.length d0] 30)).heap.size := by simp
  have hk : Below w0.heap.size w0 (w0.alloc (.cells #[.slice A0 s0.M.W.length a0, .slice B0 s0.M.G.length b0, .bool s0.M.bad, .slice C0 s0.C.length c0, .slice L0 s0.L.length d0] 30)) := boxed _ _
  replace S0 := S0.step hk
  replace hb := bstep hb hk
  clear hk
  obtain ⟨v0, hv⟩ : ∃ v, w0.heap.size = v := ⟨_, rfl⟩
  rw [hv] at Bk0 lt0 ⊢
  clear hv
  generalize (w0.alloc (.cells #[.slice A0 s0.M.W.length a0, .slice B0 s0.M.G.length b0, .bool s0.M.bad, .slice C0 s0.C.length c0, .slice L0 s0.L.length d0] 30)) = w1 at *
  go_wp2_with fail
  refine (shown7_any _).mono ?_
  rintro e w2 ⟨rfl, hk⟩
  replace Bk0 := (hk.block v0 lt0).trans Bk0
  replace lt0 := Nat.lt_of_lt_of_le lt0 hk.size
  replace S0 := S0.step hk
  replace hb := bstep hb hk
  clear hk
  go_upto_region 2 with (fail)
  obtain ⟨m0_0, m0_1, m0_2, m0_3, m0_4⟩ := cells5 Bk0
  go_upto_region 4 with (go_at_call 17; refine (HC.out _ S0).mono ?_; rintro e w3 ⟨rfl, hk⟩)
  clear m0_0 m0_1 m0_2 m0_3 m0_4
  replace Bk0 := (hk.block v0 lt0).trans Bk0
  replace lt0 := Nat.lt_of_lt_of_le lt0 hk.size
  replace S0 := S0.step hk
  replace hb := bstep hb hk
  clear hk
  clear HC
  have hmay : sySmall s0 = true ∧ syRight s0 = true := by simpa [syMays] using q0
  have hf := few_of_small hmay.1
  have hsm := sySmall_few hmay.1
  have hr := hmay.2
  simp only [syRight, Bool.and_eq_true, decide_eq_true_eq] at hr
  have hR := mRight_out hr.1.1.1
  clear hmay q0 hr
  obtain ⟨gg2, gg3, _, _, hK⟩ := hR
  have hGl := hf.2.1
  obtain ⟨l0, hl0⟩ : ∃ l, l = pPart s0.M.G 0 := ⟨_, rfl⟩
  obtain ⟨l1, hl1⟩ : ∃ l, l = pPart s0.M.G 1 := ⟨_, rfl⟩
  obtain ⟨l2, hl2⟩ : ∃ l, l = pPart s0.M.G 2 := ⟨_, rfl⟩
  have hsum : l0.length + l1.length + l2.length = s0.M.G.length - 1 := by rw [hl0, hl1, hl2]; exact parts_sum (n := s0.M.G.length) (fun j hj => hK j hj) _ (Nat.le_refl _)
  have HM0 := hid (show ∀ p : Nat, 0 < p → p < s0.M.G.length → decide ((p : Int) ∈ l0) = (s0.M.G.getD p 0 == 0) from fun p hp hp2 => by rw [hl0]; have h9 := pPartTo_mem (G := s0.M.G) (z := 0) hp s0.M.G.length; rw [Bool.eq_iff_iff]; simp only [decide_eq_true_eq, beq_iff_eq]; exact h9.trans ⟨fun h => h.2, fun h => ⟨hp2, h⟩⟩)
  have HM1 := hid (show ∀ p : Nat, 0 < p → p < s0.M.G.length → decide ((p : Int) ∈ l1) = (s0.M.G.getD p 0 == 1) from fun p hp hp2 => by rw [hl1]; have h9 := pPartTo_mem (G := s0.M.G) (z := 1) hp s0.M.G.length; rw [Bool.eq_iff_iff]; simp only [decide_eq_true_eq, beq_iff_eq]; exact h9.trans ⟨fun h => h.2, fun h => ⟨hp2, h⟩⟩)
  have HM2 := hid (show ∀ p : Nat, 0 < p → p < s0.M.G.length → decide ((p : Int) ∈ l2) = (s0.M.G.getD p 0 == 2) from fun p hp hp2 => by rw [hl2]; have h9 := pPartTo_mem (G := s0.M.G) (z := 2) hp s0.M.G.length; rw [Bool.eq_iff_iff]; simp only [decide_eq_true_eq, beq_iff_eq]; exact h9.trans ⟨fun h => h.2, fun h => ⟨hp2, h⟩⟩)
  have HP := hid (show ∀ w', RS w' s0 A0 B0 C0 L0 → Calls Try.prog 25 #[.agg #[.slice A0 s0.M.W.length a0, .slice B0 s0.M.G.length b0, .bool s0.M.bad, .slice C0 s0.C.length c0, .slice L0 s0.L.length d0]] w' (RetL3 w' l0 l1 l2) from fun w' k1 => by rw [hl0, hl1, hl2]; exact parts_any A0 B0 C0 L0 a0 b0 c0 d0 s0 w' k1.G hGl)
  obtain ⟨t1, ht1⟩ : ∃ t, t = pAlc s0 n1 := ⟨_, rfl⟩
  have hone : One s0.M.G t1.M.G := by rw [ht1]; exact one_alc s0 n1
  have htl := hone.len
  have HS := hid (show ∀ (w : World), RS w s0 A0 B0 C0 L0 → Calls Try.prog 26 #[.agg #[.slice A0 s0.M.W.length a0, .slice B0 s0.M.G.length b0, .bool s0.M.bad, .slice C0 s0.C.length c0, .slice L0 s0.L.length d0], .int .i64 n1] w (RetSys w t1) from fun w k => by rw [ht1]; exact (alst_any A0 B0 C0 L0 a0 b0 c0 d0 s0 n1 w hf gg2 k (by have := hsm.2.2.2.1; omega) (fun f h => top_W HW.out h)).mono (fun _ _ h => h.weak))
  obtain ⟨n, hn⟩ : ∃ n : Nat, s0.M.G.length = n + 1 := ⟨s0.M.G.length - 1, by omega⟩
  have HN := hid hn
  have HKz := hid hK
  have HT1 := hid htl
  have HON := hid hone
  have hq0 : l0.length ≤ 300 := by omega
  have hq1 : l1.length ≤ 300 := by omega
  have hq2 : l2.length ≤ 300 := by omega
  have hs1 : IntKind.i64.wrap ((l0.length : Int) + (l1.length : Int)) = (l0.length : Int) + (l1.length : Int) := IntWalk.i64_in _ (by omega)
  have hs2 : IntKind.i64.wrap ((l0.length : Int) + (l1.length : Int) + (l2.length : Int)) = (l0.length : Int) + (l1.length : Int) + (l2.length : Int) := IntWalk.i64_in _ (by omega)
  have hs3 : ((l0.length : Int) + (l1.length : Int) + (l2.length : Int) == (n : Int)) = true := by simp; omega
  have n3 : n ≤ 300 := by omega
  clear hl0 hl1 hl2 ht1 hf hsm hsum hn hK htl hone gg2 gg3 hGl
  have hsb : (s0.M.G.length : Int) - 1 = (n : Int) := by have := HN.out; omega
  have HI0 := hid (show ∀ (A : Option Addr) (c : Nat) (p : Nat) (b : Bool) (w : World), decide ((p : Int) ∈ l0) = b → Row w A l0 → Calls Try.prog 13 #[.slice A l0.length c, .int .i64 (p : Int)] w fun e w' => e = .returned (.bool b) ∧ w = w' from fun A c p b w hb k1 => by rw [← hb]; exact rin_any A c l0 (p : Int) w k1 (by omega))
  have HI1 := hid (show ∀ (A : Option Addr) (c : Nat) (p : Nat) (b : Bool) (w : World), decide ((p : Int) ∈ l1) = b → Row w A l1 → Calls Try.prog 13 #[.slice A l1.length c, .int .i64 (p : Int)] w fun e w' => e = .returned (.bool b) ∧ w = w' from fun A c p b w hb k1 => by rw [← hb]; exact rin_any A c l1 (p : Int) w k1 (by omega))
  have HI2 := hid (show ∀ (A : Option Addr) (c : Nat) (p : Nat) (b : Bool) (w : World), decide ((p : Int) ∈ l2) = b → Row w A l2 → Calls Try.prog 13 #[.slice A l2.length c, .int .i64 (p : Int)] w fun e w' => e = .returned (.bool b) ∧ w = w' from fun A c p b w hb k1 => by rw [← hb]; exact rin_any A c l2 (p : Int) w k1 (by omega))
  obtain ⟨m0_0, m0_1, m0_2, m0_3, m0_4⟩ := cells5 Bk0
  go_upto_region 5 with (go_at_call 25; (with_reducible refine (HP.out _ S0).mono ?_); rintro e w4 ⟨A11, A12, A13, c11, c12, c13, rfl, r11, r12, r13, hk⟩)
  clear m0_0 m0_1 m0_2 m0_3 m0_4
  replace Bk0 := (hk.block v0 lt0).trans Bk0
  replace lt0 := Nat.lt_of_lt_of_le lt0 hk.size
  replace S0 := S0.step hk
  replace hb := bstep hb hk
  clear hk
  obtain ⟨m0_0, m0_1, m0_2, m0_3, m0_4⟩ := cells5 Bk0
  go_upto_region 6 with (fail)
  clear m0_0 m0_1 m0_2 m0_3 m0_4
  go_wp2_with fail
  go_loopw [10] (fun i wr => ∃ p : Nat, 1 ≤ p ∧ p ≤ n + 1 ∧ i = .int .i64 p ∧ wr = w4) (fun i _ => n + 2 - (intOf i).toNat)
  case atStart => exact ⟨1, by omega, by omega, rfl, rfl⟩
  case round =>
    obtain ⟨p, hp1, hp2, rfl, hww⟩ := hrel
    replace hww := hww.symm
    subst hww
    by_cases hlt : p ≤ n
    · have pl : (p : Int) ≤ (n : Int) := by omega
      have hpg : p < s0.M.G.length := by have := HN.out; omega
      have hz := HKz.out p hpg
      have h0 := HM0.out p hp1 hpg
      have h1 := HM1.out p hp1 hpg
      have h2 := HM2.out p hp1 hpg
      obtain ⟨g, hg⟩ : ∃ g, g = s0.M.G.getD p 0 := ⟨_, rfl⟩
      rw [← hg] at hz h0 h1 h2
      clear hg
      have hz3 : g = 0 ∨ g = 1 ∨ g = 2 := by omega
      clear hz
      rcases hz3 with rfl | rfl | rfl
      · have H0 := hid (show decide ((p : Int) ∈ l0) = true from h0)
        have H1 := hid (show decide ((p : Int) ∈ l1) = false from h1)
        have H2 := hid (show decide ((p : Int) ∈ l2) = false from h2)
        clear h0 h1 h2
        go_wp2_with (first | (go_at_call 13; (with_reducible refine (HI0.out A11 c11 p _ _ H0.out r11).mono ?_); rintro e wz ⟨rfl, rfl⟩) | (go_at_call 13; (with_reducible refine (HI1.out A12 c12 p _ _ H1.out r12).mono ?_); rintro e wz ⟨rfl, rfl⟩) | (go_at_call 13; (with_reducible refine (HI2.out A13 c13 p _ _ H2.out r13).mono ?_); rintro e wz ⟨rfl, rfl⟩))
        go_roundw
        case rel => exact ⟨p + 1, by omega, by omega, by go_num, by trivial⟩
        case measure => simp [intOf]; omega
      · have H0 := hid (show decide ((p : Int) ∈ l0) = false from h0)
        have H1 := hid (show decide ((p : Int) ∈ l1) = true from h1)
        have H2 := hid (show decide ((p : Int) ∈ l2) = false from h2)
        clear h0 h1 h2
        go_wp2_with (first | (go_at_call 13; (with_reducible refine (HI0.out A11 c11 p _ _ H0.out r11).mono ?_); rintro e wz ⟨rfl, rfl⟩) | (go_at_call 13; (with_reducible refine (HI1.out A12 c12 p _ _ H1.out r12).mono ?_); rintro e wz ⟨rfl, rfl⟩) | (go_at_call 13; (with_reducible refine (HI2.out A13 c13 p _ _ H2.out r13).mono ?_); rintro e wz ⟨rfl, rfl⟩))
        go_roundw
        case rel => exact ⟨p + 1, by omega, by omega, by go_num, by trivial⟩
        case measure => simp [intOf]; omega
      · have H0 := hid (show decide ((p : Int) ∈ l0) = false from h0)
        have H1 := hid (show decide ((p : Int) ∈ l1) = false from h1)
        have H2 := hid (show decide ((p : Int) ∈ l2) = true from h2)
        clear h0 h1 h2
        go_wp2_with (first | (go_at_call 13; (with_reducible refine (HI0.out A11 c11 p _ _ H0.out r11).mono ?_); rintro e wz ⟨rfl, rfl⟩) | (go_at_call 13; (with_reducible refine (HI1.out A12 c12 p _ _ H1.out r12).mono ?_); rintro e wz ⟨rfl, rfl⟩) | (go_at_call 13; (with_reducible refine (HI2.out A13 c13 p _ _ H2.out r13).mono ?_); rintro e wz ⟨rfl, rfl⟩))
        go_roundw
        case rel => exact ⟨p + 1, by omega, by omega, by go_num, by trivial⟩
        case measure => simp [intOf]; omega
    · have pl : ¬ (p : Int) ≤ (n : Int) := by omega
      clear HM0 HM1 HM2 HI0 HI1 HI2 HKz r11 r12 r13
      obtain ⟨m0_0, m0_1, m0_2, m0_3, m0_4⟩ := cells5 Bk0
      go_upto_region 19 with (go_at_call 26; (with_reducible refine (HS.out _ S0).mono ?_); rintro e w5 ⟨A5, B5, C5, L5, a5, b5, c5, d5, rfl, tW, tG, tC, tL, hk⟩)
      clear m0_0 m0_1 m0_2 m0_3 m0_4
      replace Bk0 := (hk.block v0 lt0).trans Bk0
      replace lt0 := Nat.lt_of_lt_of_le lt0 hk.size
      replace S0 := S0.step hk
      replace hb := bstep hb hk
      clear hk
      have S5 : RS w5 t1 A5 B5 C5 L5 := ⟨tW, tG, tC, tL⟩
      clear tW tG tC tL
      have Bk5 := heap_alloc_new w5 (.cells #[.slice A5 t1.M.W.length a5, .slice B5 t1.M.G.length b5, .bool t1.M.bad, .slice C5 t1.C.length c5, .slice L5 t1.L.length d5] 30)
      have lt5 : w5.heap.size < (w5.alloc (.cells #[.slice A5 t1.M.W.length a5, .slice B5 t1.M.G.length b5, .bool t1.M.bad, .slice C5 t1.C.length c5, .slice L5 t1.L.length d5] 30)).heap.size := by simp
      have hk : Below w5.heap.size w5 (w5.alloc (.cells #[.slice A5 t1.M.W.length a5, .slice B5 t1.M.G.length b5, .bool t1.M.bad, .slice C5 t1.C.length c5, .slice L5 t1.L.length d5] 30)) := boxed _ _
      replace Bk0 := (hk.block v0 lt0).trans Bk0
      replace lt0 := Nat.lt_of_lt_of_le lt0 hk.size
      replace S0 := S0.step hk
      replace S5 := S5.step hk
      replace hb := bstep hb hk
      clear hk
      obtain ⟨v5, hv⟩ : ∃ v, w5.heap.size = v := ⟨_, rfl⟩
      rw [hv] at Bk5 lt5 ⊢
      clear hv
      generalize (w5.alloc (.cells #[.slice A5 t1.M.W.length a5, .slice B5 t1.M.G.length b5, .bool t1.M.bad, .slice C5 t1.C.length c5, .slice L5 t1.L.length d5] 30)) = w6 at *
      obtain ⟨gG, oG, eG, hbG, hatG⟩ := S0.G (by have := HN.out; omega)
      obtain ⟨gH, oH, eH, hbH, hatH⟩ := S5.G (by have := HN.out; have := HT1.out; omega)
      subst eG eH
      rw [HT1.out] at Bk5
      obtain ⟨m0_0, m0_1, m0_2, m0_3, m0_4⟩ := cells5 Bk0
      obtain ⟨m5_0, m5_1, m5_2, m5_3, m5_4⟩ := cells5 Bk5
      have hgn : ((s0.M.G.length : Int) != (s0.M.G.length : Int)) = false := by simp
      go_upto_region 21 with (fail)
      clear m0_0 m0_1 m0_2 m0_3 m0_4 m5_0 m5_1 m5_2 m5_3 m5_4
      have hst : Below w6.heap.size w6 w6 := Below.refl _ _
      go_wp2_with fail
      go_loopw [13, 14] (fun c i wr => ∃ p : Nat, p ≤ n + 1 ∧ i = .int .i64 p ∧ c = .int .i64 (diffTo s0.M.G t1.M.G p : Nat) ∧ Below w6.heap.size w6 wr) (fun _ i _ => n + 2 - (intOf i).toNat)
      case atStart => exact ⟨0, by omega, rfl, rfl, hst⟩
      case round =>
        obtain ⟨p2, hp3, rfl, rfl, hk2⟩ := hrel
        have hd1 := HON.out.diff p2
        obtain ⟨dd, hdd⟩ : ∃ d, d = diffTo s0.M.G t1.M.G p2 := ⟨_, rfl⟩
        rw [← hdd] at hd1 ⊢
        have HDD := hid hdd
        clear hdd
        by_cases hlt2 : p2 ≤ n
        · have pl2 : (p2 : Int) ≤ (n : Int) := by omega
          have hpg : p2 < s0.M.G.length := by have := HN.out; omega
          have pg2 : (p2 : Int) < (s0.M.G.length : Int) := by omega
          have pg0 : (0 : Int) ≤ (p2 : Int) := by omega
          obtain ⟨u, hu⟩ : ∃ u, u = s0.M.G.getD p2 0 := ⟨_, rfl⟩
          obtain ⟨v, hv⟩ : ∃ v, v = t1.M.G.getD p2 0 := ⟨_, rfl⟩
          have cS : wr.cell? ⟨gG, oG + p2, none⟩ = some (.int .i64 u) := (hk2.cell hbG).trans (hatG p2 _ (by rw [hu, List.getD_eq_getElem?_getD, List.getElem?_eq_getElem hpg]; rfl))
          have cT : wr.cell? ⟨gH, oH + p2, none⟩ = some (.int .i64 v) := (hk2.cell hbH).trans (hatH p2 _ (by rw [hv, List.getD_eq_getElem?_getD, List.getElem?_eq_getElem (show p2 < t1.M.G.length by rw [HT1.out]; exact hpg)]; rfl))
          have B0r := (hk2.block v0 lt0).trans Bk0
          have B5r := (hk2.block v5 lt5).trans Bk5
          obtain ⟨z0, z1, z2, z3, z4⟩ := cells5 B0r
          obtain ⟨y0, y1, y2, y3, y4⟩ := cells5 B5r
          have HU := hid hu
          have HV := hid hv
          clear hu hv
          by_cases huv : v = u
          · have duv : (v != u) = false := by simpa using huv
            have HE9 := hid (diffTo_same (a := s0.M.G) (b := t1.M.G) (j := p2) (by rw [← HU.out, ← HV.out]; exact huv))
            clear huv
            go_upto_region 25 with (fail)
            go_quiet (fail)
            go_wp2_with fail
            go_roundw
            case rel => exact ⟨p2 + 1, by omega, by go_num, by rw [HE9.out, ← HDD.out], bdrewN hk2 _⟩
            case measure => simp [intOf]; omega
          · have duv : (v != u) = true := by simpa using huv
            have HE9 := hid (diffTo_more (a := s0.M.G) (b := t1.M.G) (j := p2) (by rw [← HU.out, ← HV.out]; exact huv))
            clear huv
            go_upto_region 25 with (fail)
            go_quiet (fail)
            go_wp2_with fail
            go_roundw
            case rel => exact ⟨p2 + 1, by omega, by go_num, by rw [HE9.out, ← HDD.out]; simp, bdrewN hk2 _⟩
            case measure => simp [intOf]; omega
        · have pl2 : ¬ (p2 : Int) ≤ (n : Int) := by omega
          have dl : decide ((dd : Int) ≤ 1) = true := by simp; omega
          go_wp2_with fail
          go_ret
          exact ⟨rfl, bstep hb hk2⟩

theorem walk (A0 B0 C0 L0 : Option Addr) (a0 b0 c0 d0 : Nat) (s0 : Sy) (n1 : Int) (w0 : World)
    (rW : Row w0 A0 s0.M.W) (rG : Row w0 B0 s0.M.G) (rC : RowC w0 C0 s0.C) (rL : RowE w0 L0 s0.L) (g0 : s0.M.W.length ≤ maxLen) (g1 : s0.M.G.length ≤ maxLen) (g2 : s0.C.length ≤ maxLen) (g3 : s0.L.length ≤ maxLen) (hw : SyW s0) :
    Calls Try.prog 6 #[.agg #[.slice A0 s0.M.W.length a0, .slice B0 s0.M.G.length b0, .bool s0.M.bad, .slice C0 s0.C.length c0, .slice L0 s0.L.length d0], .int .i64 n1] w0 fun e w' => e = .returned (.bool true) ∧ Below w0.heap.size w0 w' := by
  rcases q0 : syMays s0 with _ | _
  · exact walk_not A0 B0 C0 L0 a0 b0 c0 d0 s0 n1 w0 rW rG rC rL g0 g1 g2 g3 hw q0
  · exact walk_yes A0 B0 C0 L0 a0 b0 c0 d0 s0 n1 w0 rW rG rC rL g0 g1 g2 g3 hw q0

set_option maxRecDepth 100000 in
theorem lifted (os : Os) (started : os.Started) (H : Type) (enc : TypeId × Value → H) :
    ReturnsInHanded {} Try.checked os 6 .any (Rows.allocPartsSpec.pre6 enc Try.prog Try.f6 Rows.allocPartsRow.domain false) (Rows.allocPartsSpec.post enc Try.prog Try.f6 false true false false) := by
  refine returnsInHanded_of_change (C := Try.checked) own started (by kernel_rfl) Try.func6
    (ChangeSpec.witness6 (enc := enc) (C := Try.checked) false ⟨#[], #[.agg #[.slice none 0 0, .slice none 0 0, .bool false, .slice none 0 0, .slice none 0 0], .int .i64 0], []⟩ 8 (by kernel_rfl) (by kernel_rfl) (by kernel_rfl) (by kernel_rfl)) ?_
  intro W base args ds gs before hval0 hW hcnd _
  have hval : ∀ (j : Nat) t v, Try.f6.params[j]? = some t → args[j]? = some v → Value.okWide Try.prog W .any base t v := hval0
  have hW' := hW
  obtain ⟨p, q, hA0, hV, rfl, hfz, hnd⟩ := hW
  have hA : DataW.TrodAll enc Try.prog W 0 (fun _ => true) true Try.f6.params.toList args.toList ds p := hA0
  rw [Try.params6] at hA hval
  obtain ⟨v0, vs0, d0, ds0, p0, q0, hargs, rfl, rfl, h0, r0⟩ := trodAll_cons hA
  obtain ⟨v1, vs1, d1, ds1, p1, q1, rfl, rfl, rfl, h1, r1⟩ := trodAll_cons r0
  obtain ⟨rfl, rfl, rfl⟩ := trodAll_nil r1
  obtain rfl : args = #[v0, v1] := by cases args; simp_all
  obtain ⟨rfl, rfl⟩ := trodVars_none hV
  clear hA0 hval0
  obtain ⟨A0, B0, C0, L0, a0, b0, c0, d0, s0, rfl, rW, rG, rC, rL, l0, l1, l2, l3, hw⟩ := open_system8 (hval 0 _ v0 rfl rfl) h0
  obtain ⟨m1, hm1⟩ := h1
  obtain ⟨n1, en⟩ := open_int Try.underlying3 hm1
  obtain rfl : v1 = .int .i64 n1 := by
    obtain ⟨a', ha'⟩ := okWide_int Try.underlying3 (hval 1 3 v1 rfl rfl)
    subst ha'
    simpa [Value.cells] using en
  refine (walk A0 B0 C0 L0 a0 b0 c0 d0 s0 n1 W rW rG rC rL l0 l1 l2 l3 hw).mono fun e W' ⟨he, hb⟩ => ?_
  subst he
  exact ⟨_, rfl, law_post (tb := 4) (by kernel_rfl) (by kernel_rfl) (by kernel_rfl) Try.underlying4 rfl hW' rfl hb⟩

theorem over : Rows.allocPartsRow.holds Try.pinned (OpenSpec.ofChange Rows.allocPartsSpec) :=
  OpenClaim.holds_of_wide 6 Try.f6 rfl rfl rfl rfl rfl rfl rfl ⟨rfl, rfl, rfl, rfl, rfl⟩ rfl rfl rfl rfl rfl (by kernel_rfl) Try.func6 (by kernel_rfl)
    (of_decide_eq_true (by kernel_rfl)) (by unfold Func.isWrapper; first | (rw [if_pos (by decide +kernel)]; kernel_rfl) | (rw [if_neg (by decide +kernel)]; exact ⟨rfl, rfl⟩))
    (fun os started H enc _ => lifted os started H enc)
end AllocParts

theorem allocParts_holds : Rows.AllocPartsSaid := AllocParts.over
#print axioms allocParts_holds
end Go.Proofs.Ytiakabnfjegeeaa
