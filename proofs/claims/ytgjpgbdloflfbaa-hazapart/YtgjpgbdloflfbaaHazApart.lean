/- For every system and every byte, the law HazApart (a step of one core changes no slot of another one, no other core, and no word but its own slots) returns true, and the arguments read afterwards as before. No conditions. -/
import Derived.Test.YtgjpgbdloflfbaaRows
import Derived.Test.YtgjpgbdloflfbaaShown5
import Derived.Test.YtgjpgbdloflfbaaHaz6
import Derived.Test.YtgjpgbdloflfbaaOpen8
import Derived.Test.YtgjpgbdloflfbaaHaz10
import Derived.Test.YtgjpgbdloflfbaaStkR
import Derived.Test.YtgjpgbdloflfbaaKCoB
import Derived.Test.YtgjpgbdloflfbaaKBas
namespace Go.Proofs.Ytgjpgbdloflfbaa
namespace HazApart
open Go.ChangeShapes Go.WideShapes Go.ChangeAt Go.RowKit
set_option linter.unusedVariables false
set_option linter.unusedSimpArgs false

theorem own : ownKnob Try.prog.godebug = none := by kernel_rfl

theorem top_W {s : Sy} (h : SyW s) {i : Int} {f : Fr} (ht : pTop s i = some f) : W64 (f.R.getD 0 0) := by
  obtain ⟨k, n, x, rfl, hx, _, hf⟩ := pTop_out ht
  have h1 := ((h.2 x (List.mem_of_getElem? hx)).1 f (List.mem_of_getElem? hf)).2.2.1
  cases hR : f.R with
  | nil => simp [W64]
  | cons r rs => exact h1 r (by rw [hR]; simp)
theorem mInts_self (l : List Int) : mInts l l = true := by simp [mInts]
set_option maxRecDepth 100000 in
set_option maxHeartbeats 8000000 in
theorem walk_not (A0 B0 C0 L0 : Option Addr) (a0 b0 c0 d0 : Nat) (s0 : Sy) (n1 : Int) (w0 : World) (u0 : 0 ≤ n1) (u1 : n1 ≤ 255)
    (rW : Row w0 A0 s0.M.W) (rG : Row w0 B0 s0.M.G) (rC : RowC w0 C0 s0.C) (rL : RowE w0 L0 s0.L) (g0 : s0.M.W.length ≤ maxLen) (g1 : s0.M.G.length ≤ maxLen) (g2 : s0.C.length ≤ maxLen) (g3 : s0.L.length ≤ maxLen) (hw : SyW s0) (q0 : syMays s0 = false) :
    Calls Try.prog 11 #[.agg #[.slice A0 s0.M.W.length a0, .slice B0 s0.M.G.length b0, .bool s0.M.bad, .slice C0 s0.C.length c0, .slice L0 s0.L.length d0], .int .u8 n1] w0 fun e w' => e = .returned (.bool true) ∧ Below w0.heap.size w0 w' := by
  have S0 : RS w0 s0 A0 B0 C0 L0 := ⟨rW, rG, rC, rL⟩
  have hb : Below w0.heap.size w0 w0 := Below.refl _ _
  have HC := rmay3_any A0 B0 C0 L0 a0 b0 c0 d0 s0
  rw [q0] at HC
  replace HC := hid (show ∀ w, RS w s0 A0 B0 C0 L0 → Calls Try.prog 23 #[.agg #[.slice A0 s0.M.W.length a0, .slice B0 s0.M.G.length b0, .bool s0.M.bad, .slice C0 s0.C.length c0, .slice L0 s0.L.length d0], .int .i64 60] w fun e w' => e = .returned (.bool false) ∧ Below w.heap.size w w' from fun w h => HC w h.G h.C g1 g0 g2 g3)
  clear rW rG rC rL g0 g1 g2 g3
  have HWD0 := hid hw
  clear hw
  go_enter Try.func11, Try.ntmps11
  go_upto_region 1 with (fail)
  have Bk0 := heap_alloc_new w0 (.cells #[.slice A0 s0.M.W.length a0, .slice B0 s0.M.G.length b0, .bool s0.M.bad, .slice C0 s0.C.length c0, .slice L0 s0.L.length d0] 30)
  have lt0 : w0.heap.size < (w0.alloc (.cells #[.slice A0 s0.M.W.length a0, .slice B0 s0.M.G.length b0, .bool s0.M.bad, .slice C0 s0.C.length c0, .slice L0 s0.L.length d0] 30)).heap.size := by simp
  have hk : Below w0.heap.size w0 (w0.alloc (.cells #[.slice A0 s0.M.W.length a0, .slice B0 s0.M.G.length b0, .bool s0.M.bad, .slice C0 s0.C.length c0, .slice L0 s0.L.length d0] 30)) := boxed _ _
  replace S0 := S0.step hk
  replace hb := bstep hb hk
  clear hk
  obtain ⟨v0, hv⟩ : ∃ v, w0.heap.size = v := ⟨_, rfl⟩
  rw [hv] at Bk0 lt0 ⊢
  clear hv
  generalize (w0.alloc (.cells #[.slice A0 s0.M.W.length a0, .slice B0 s0.M.G.length b0, .bool s0.M.bad, .slice C0 s0.C.length c0, .slice L0 s0.L.length d0] 30)) = w1 at *
  go_wp2_with fail
  refine (shown5_any _).mono ?_
  rintro e w2 ⟨rfl, hk⟩
  replace Bk0 := (hk.block v0 lt0).trans Bk0
  replace lt0 := Nat.lt_of_lt_of_le lt0 hk.size
  replace S0 := S0.step hk
  replace hb := bstep hb hk
  clear hk
  go_upto_region 2 with (fail)
  have m0_0 : w2.cell? ⟨v0, 0, none⟩ = some (.slice A0 s0.M.W.length a0) := cell_of_row w2 _ 0 _ _ _ Bk0
  have m0_1 : w2.cell? ⟨v0, 1, none⟩ = some (.slice B0 s0.M.G.length b0) := cell_of_row w2 _ 1 _ _ _ Bk0
  have m0_2 : w2.cell? ⟨v0, 2, none⟩ = some (.bool s0.M.bad) := cell_of_row w2 _ 2 _ _ _ Bk0
  have m0_3 : w2.cell? ⟨v0, 3, none⟩ = some (.slice C0 s0.C.length c0) := cell_of_row w2 _ 3 _ _ _ Bk0
  have m0_4 : w2.cell? ⟨v0, 4, none⟩ = some (.slice L0 s0.L.length d0) := cell_of_row w2 _ 4 _ _ _ Bk0
  go_wp2_with (go_at_call 23; refine (HC.out _ S0).mono ?_; rintro e wm ⟨rfl, hk⟩)
  go_ret
  exact ⟨rfl, bstep hb hk⟩

set_option maxRecDepth 100000 in
set_option maxHeartbeats 8000000 in
theorem walk_none (A0 B0 C0 L0 : Option Addr) (a0 b0 c0 d0 : Nat) (s0 : Sy) (n1 : Int) (w0 : World) (u0 : 0 ≤ n1) (u1 : n1 ≤ 255)
    (rW : Row w0 A0 s0.M.W) (rG : Row w0 B0 s0.M.G) (rC : RowC w0 C0 s0.C) (rL : RowE w0 L0 s0.L) (g0 : s0.M.W.length ≤ maxLen) (g1 : s0.M.G.length ≤ maxLen) (g2 : s0.C.length ≤ maxLen) (g3 : s0.L.length ≤ maxLen) (hw : SyW s0) (q0 : syMays s0 = true) (hT : ∀ k : Nat, n1.tmod (s0.C.length : Int) = (k : Int) → pTop s0 (k : Int) = none) :
    Calls Try.prog 11 #[.agg #[.slice A0 s0.M.W.length a0, .slice B0 s0.M.G.length b0, .bool s0.M.bad, .slice C0 s0.C.length c0, .slice L0 s0.L.length d0], .int .u8 n1] w0 fun e w' => e = .returned (.bool true) ∧ Below w0.heap.size w0 w' := by
  have S0 : RS w0 s0 A0 B0 C0 L0 := ⟨rW, rG, rC, rL⟩
  have hb : Below w0.heap.size w0 w0 := Below.refl _ _
  have HC := rmay3_any A0 B0 C0 L0 a0 b0 c0 d0 s0
  rw [q0] at HC
  replace HC := hid (show ∀ w, RS w s0 A0 B0 C0 L0 → Calls Try.prog 23 #[.agg #[.slice A0 s0.M.W.length a0, .slice B0 s0.M.G.length b0, .bool s0.M.bad, .slice C0 s0.C.length c0, .slice L0 s0.L.length d0], .int .i64 60] w fun e w' => e = .returned (.bool true) ∧ Below w.heap.size w w' from fun w h => HC w h.G h.C g1 g0 g2 g3)
  clear rW rG rC rL g0 g1 g2 g3
  have HWD0 := hid hw
  clear hw
  go_enter Try.func11, Try.ntmps11
  go_upto_region 1 with (fail)
  have Bk0 := heap_alloc_new w0 (.cells #[.slice A0 s0.M.W.length a0, .slice B0 s0.M.G.length b0, .bool s0.M.bad, .slice C0 s0.C.length c0, .slice L0 s0.L.length d0] 30)
  have lt0 : w0.heap.size < (w0.alloc (.cells #[.slice A0 s0.M.W.length a0, .slice B0 s0.M.G.length b0, .bool s0.M.bad, .slice C0 s0.C.length c0, .slice L0 s0.L.length d0] 30)).heap.size := by simp
  have hk : Below w0.heap.size w0 (w0.alloc (.cells #[.slice A0 s0.M.W.length a0, .slice B0 s0.M.G.length b0, .bool s0.M.bad, .slice C0 s0.C.length c0, .slice L0 s0.L.length d0] 30)) := boxed _ _
  replace S0 := S0.step hk
  replace hb := bstep hb hk
  clear hk
  obtain ⟨v0, hv⟩ : ∃ v, w0.heap.size = v := ⟨_, rfl⟩
  rw [hv] at Bk0 lt0 ⊢
  clear hv
  generalize (w0.alloc (.cells #[.slice A0 s0.M.W.length a0, .slice B0 s0.M.G.length b0, .bool s0.M.bad, .slice C0 s0.C.length c0, .slice L0 s0.L.length d0] 30)) = w1 at *
  go_wp2_with fail
  refine (shown5_any _).mono ?_
  rintro e w2 ⟨rfl, hk⟩
  replace Bk0 := (hk.block v0 lt0).trans Bk0
  replace lt0 := Nat.lt_of_lt_of_le lt0 hk.size
  replace S0 := S0.step hk
  replace hb := bstep hb hk
  clear hk
  go_upto_region 2 with (fail)
  have m0_0 : w2.cell? ⟨v0, 0, none⟩ = some (.slice A0 s0.M.W.length a0) := cell_of_row w2 _ 0 _ _ _ Bk0
  have m0_1 : w2.cell? ⟨v0, 1, none⟩ = some (.slice B0 s0.M.G.length b0) := cell_of_row w2 _ 1 _ _ _ Bk0
  have m0_2 : w2.cell? ⟨v0, 2, none⟩ = some (.bool s0.M.bad) := cell_of_row w2 _ 2 _ _ _ Bk0
  have m0_3 : w2.cell? ⟨v0, 3, none⟩ = some (.slice C0 s0.C.length c0) := cell_of_row w2 _ 3 _ _ _ Bk0
  have m0_4 : w2.cell? ⟨v0, 4, none⟩ = some (.slice L0 s0.L.length d0) := cell_of_row w2 _ 4 _ _ _ Bk0
  go_upto_region 4 with (go_at_call 23; refine (HC.out _ S0).mono ?_; rintro e w3 ⟨rfl, hk⟩)
  clear m0_0 m0_1 m0_2 m0_3 m0_4
  replace Bk0 := (hk.block v0 lt0).trans Bk0
  replace lt0 := Nat.lt_of_lt_of_le lt0 hk.size
  replace S0 := S0.step hk
  replace hb := bstep hb hk
  clear hk
  clear HC
  have hmay : sySmall s0 = true ∧ syRight s0 = true := by simpa [syMays] using q0
  have HF := hid (few_of_small hmay.1)
  have hsm := sySmall_few hmay.1
  have hr := hmay.2
  simp only [syRight, Bool.and_eq_true, decide_eq_true_eq] at hr
  have HR := hid (Rt.of hr.1.1.1)
  obtain ⟨⟨⟨_, hc1⟩, hc8⟩, _⟩ := hr
  have HOK := hid (show Ok4 200 s0 from ⟨HF.out, HR.out.g2, hsm.2.2.2.1⟩)
  clear hmay q0 hsm
  obtain ⟨k, hk⟩ : ∃ k : Nat, n1.tmod (s0.C.length : Int) = (k : Int) := ⟨(n1.tmod (s0.C.length : Int)).toNat, by rw [Int.tmod_eq_emod_of_nonneg u0, Int.toNat_of_nonneg (Int.emod_nonneg _ (by omega))]⟩
  have hkl : k < s0.C.length := by have h9 := hk; rw [Int.tmod_eq_emod_of_nonneg u0] at h9; have := Int.emod_lt_of_pos n1 (show (0 : Int) < (s0.C.length : Int) by omega); omega
  obtain ⟨x, hx⟩ : ∃ x, s0.C[k]? = some x := ⟨_, List.getElem?_eq_getElem hkl⟩
  obtain ⟨gC, oC, eC, hbl, hat⟩ := S0.C (by omega)
  subst eC
  obtain ⟨AF, AR, cFq, cR, hcs, rF, rR, hcF⟩ := (hat k x hx).cs4
  clear hat
  have y0 : w3.cell? ⟨gC, oC + k * 7, none⟩ = some (.slice AF x.F.length cFq) := hcs 0 _ rfl
  have kl : (k : Int) < (s0.C.length : Int) := by omega
  have hne : ((s0.C.length : Int) == 0) = false := by rw [beq_eq_false_iff_ne]; omega
  have HX := hid hx
  clear hx hcs rF rR hcF
  have m0_0 : w3.cell? ⟨v0, 0, none⟩ = some (.slice A0 s0.M.W.length a0) := cell_of_row w3 _ 0 _ _ _ Bk0
  have m0_1 : w3.cell? ⟨v0, 1, none⟩ = some (.slice B0 s0.M.G.length b0) := cell_of_row w3 _ 1 _ _ _ Bk0
  have m0_2 : w3.cell? ⟨v0, 2, none⟩ = some (.bool s0.M.bad) := cell_of_row w3 _ 2 _ _ _ Bk0
  have m0_3 : w3.cell? ⟨v0, 3, none⟩ = some (.slice (some ⟨gC, oC, none⟩) s0.C.length c0) := cell_of_row w3 _ 3 _ _ _ Bk0
  have m0_4 : w3.cell? ⟨v0, 4, none⟩ = some (.slice L0 s0.L.length d0) := cell_of_row w3 _ 4 _ _ _ Bk0
  have hp : pTop s0 (k : Int) = none := hT k hk
  have hSh : Shape5 s0 k (pHaz s0 (k : Int)) := haz_shape HX.out (by omega) (by have h1 := HR.out.w; have h2 := HR.out.g2; omega) (fun f hf ho => by rw [hp] at hf; exact absurd hf (by simp))
  obtain ⟨W', bad', x', hT1, hWl, hWs⟩ := hSh
  have HS := hid (show ∀ (w : World), RS w s0 A0 B0 (some ⟨gC, oC, none⟩) L0 → Calls Try.prog 31 #[.agg #[.slice A0 s0.M.W.length a0, .slice B0 s0.M.G.length b0, .bool s0.M.bad, .slice (some ⟨gC, oC, none⟩) s0.C.length c0, .slice L0 s0.L.length d0], .int .i64 (k : Int)] w (fun e w' => ∃ (A B C L : Option Addr) (a b c d : Nat), e = .returned (.agg #[.slice A s0.M.W.length a, .slice B s0.M.G.length b, .bool bad', .slice C s0.C.length c, .slice L s0.L.length d]) ∧ RS w' (⟨⟨W', s0.M.G, bad'⟩, s0.C.set k x', s0.L⟩ : Sy) A B C L ∧ Below w.heap.size w w') from fun w h => by have h9 := hstep_any A0 B0 (some ⟨gC, oC, none⟩) L0 a0 b0 c0 d0 s0 (k : Int) w HF.out HR.out.g2 h (fun f hf => top_W HWD0.out hf); rw [hT1] at h9; exact h9.mono (fun e w' hN => by obtain ⟨A, B, C, L, a, b, c, d, he, q1, q2, q3, q4, q5⟩ := hN.weak; refine ⟨A, B, C, L, a, b, c, d, ?_, ⟨q1, q2, q3, q4⟩, q5⟩; rw [he]; simp only [List.length_set, hWl]))
  have HWS := hid hWs
  have HWL := hid hWl
  clear hT1 hWs hWl
  go_upto_region 6 with (go_at_call 15; (with_reducible refine (rtop_no A0 B0 (some ⟨gC, oC, none⟩) L0 a0 b0 c0 d0 s0 (k : Int) _ HF.out S0 hp).mono ?_); rintro e w4 ⟨rfl, hk5⟩)
  clear hp y0
  clear m0_0 m0_1 m0_2 m0_3 m0_4
  replace Bk0 := (hk5.block v0 lt0).trans Bk0
  replace lt0 := Nat.lt_of_lt_of_le lt0 hk5.size
  replace S0 := S0.step hk5
  replace hb := bstep hb hk5
  clear hk5
  have Bk7 := heap_alloc_new w4 (.cells #[.int .i64 0, .int .i64 0, .int .i64 0, .int .i64 0, .int .i64 0, .int .i64 0, .int .i64 0, .int .i64 0, .int .i64 0, .int .i64 0, .slice none 0 0] 38)
  have lt7 : w4.heap.size < (w4.alloc (.cells #[.int .i64 0, .int .i64 0, .int .i64 0, .int .i64 0, .int .i64 0, .int .i64 0, .int .i64 0, .int .i64 0, .int .i64 0, .int .i64 0, .slice none 0 0] 38)).heap.size := by simp
  have hk : Below w4.heap.size w4 (w4.alloc (.cells #[.int .i64 0, .int .i64 0, .int .i64 0, .int .i64 0, .int .i64 0, .int .i64 0, .int .i64 0, .int .i64 0, .int .i64 0, .int .i64 0, .slice none 0 0] 38)) := boxed _ _
  replace Bk0 := (hk.block v0 lt0).trans Bk0
  replace lt0 := Nat.lt_of_lt_of_le lt0 hk.size
  replace S0 := S0.step hk
  replace hb := bstep hb hk
  clear hk
  obtain ⟨v7, hv⟩ : ∃ v, w4.heap.size = v := ⟨_, rfl⟩
  rw [hv] at Bk7 lt7 ⊢
  clear hv
  generalize (w4.alloc (.cells #[.int .i64 0, .int .i64 0, .int .i64 0, .int .i64 0, .int .i64 0, .int .i64 0, .int .i64 0, .int .i64 0, .int .i64 0, .int .i64 0, .slice none 0 0] 38)) = w5 at *
  have m7_0 : w5.cell? ⟨v7, 0, none⟩ = some (.int .i64 0) := cell_of_row w5 _ 0 _ _ _ Bk7
  have m7_1 : w5.cell? ⟨v7, 1, none⟩ = some (.int .i64 0) := cell_of_row w5 _ 1 _ _ _ Bk7
  have m7_2 : w5.cell? ⟨v7, 2, none⟩ = some (.int .i64 0) := cell_of_row w5 _ 2 _ _ _ Bk7
  have m7_3 : w5.cell? ⟨v7, 3, none⟩ = some (.int .i64 0) := cell_of_row w5 _ 3 _ _ _ Bk7
  have m7_4 : w5.cell? ⟨v7, 4, none⟩ = some (.int .i64 0) := cell_of_row w5 _ 4 _ _ _ Bk7
  have m7_5 : w5.cell? ⟨v7, 5, none⟩ = some (.int .i64 0) := cell_of_row w5 _ 5 _ _ _ Bk7
  have m7_6 : w5.cell? ⟨v7, 6, none⟩ = some (.int .i64 0) := cell_of_row w5 _ 6 _ _ _ Bk7
  have m7_7 : w5.cell? ⟨v7, 7, none⟩ = some (.int .i64 0) := cell_of_row w5 _ 7 _ _ _ Bk7
  have m7_8 : w5.cell? ⟨v7, 8, none⟩ = some (.int .i64 0) := cell_of_row w5 _ 8 _ _ _ Bk7
  have m7_9 : w5.cell? ⟨v7, 9, none⟩ = some (.int .i64 0) := cell_of_row w5 _ 9 _ _ _ Bk7
  have m7_10 : w5.cell? ⟨v7, 10, none⟩ = some (.slice none 0 0) := cell_of_row w5 _ 10 _ _ _ Bk7
  clear m7_0 m7_1 m7_2 m7_3 m7_4 m7_5 m7_6 m7_7 m7_8 m7_9 m7_10
  have m7_0 : w5.cell? ⟨v7, 0, none⟩ = some (.int .i64 0) := cell_of_row w5 _ 0 _ _ _ Bk7
  have m7_1 : w5.cell? ⟨v7, 1, none⟩ = some (.int .i64 0) := cell_of_row w5 _ 1 _ _ _ Bk7
  have m7_2 : w5.cell? ⟨v7, 2, none⟩ = some (.int .i64 0) := cell_of_row w5 _ 2 _ _ _ Bk7
  have m7_3 : w5.cell? ⟨v7, 3, none⟩ = some (.int .i64 0) := cell_of_row w5 _ 3 _ _ _ Bk7
  have m7_4 : w5.cell? ⟨v7, 4, none⟩ = some (.int .i64 0) := cell_of_row w5 _ 4 _ _ _ Bk7
  have m7_5 : w5.cell? ⟨v7, 5, none⟩ = some (.int .i64 0) := cell_of_row w5 _ 5 _ _ _ Bk7
  have m7_6 : w5.cell? ⟨v7, 6, none⟩ = some (.int .i64 0) := cell_of_row w5 _ 6 _ _ _ Bk7
  have m7_7 : w5.cell? ⟨v7, 7, none⟩ = some (.int .i64 0) := cell_of_row w5 _ 7 _ _ _ Bk7
  have m7_8 : w5.cell? ⟨v7, 8, none⟩ = some (.int .i64 0) := cell_of_row w5 _ 8 _ _ _ Bk7
  have m7_9 : w5.cell? ⟨v7, 9, none⟩ = some (.int .i64 0) := cell_of_row w5 _ 9 _ _ _ Bk7
  have m7_10 : w5.cell? ⟨v7, 10, none⟩ = some (.slice none 0 0) := cell_of_row w5 _ 10 _ _ _ Bk7
  have m0_0 : w5.cell? ⟨v0, 0, none⟩ = some (.slice A0 s0.M.W.length a0) := cell_of_row w5 _ 0 _ _ _ Bk0
  have m0_1 : w5.cell? ⟨v0, 1, none⟩ = some (.slice B0 s0.M.G.length b0) := cell_of_row w5 _ 1 _ _ _ Bk0
  have m0_2 : w5.cell? ⟨v0, 2, none⟩ = some (.bool s0.M.bad) := cell_of_row w5 _ 2 _ _ _ Bk0
  have m0_3 : w5.cell? ⟨v0, 3, none⟩ = some (.slice (some ⟨gC, oC, none⟩) s0.C.length c0) := cell_of_row w5 _ 3 _ _ _ Bk0
  have m0_4 : w5.cell? ⟨v0, 4, none⟩ = some (.slice L0 s0.L.length d0) := cell_of_row w5 _ 4 _ _ _ Bk0
  go_upto_region 8 with (fail)
  clear m7_0 m7_1 m7_2 m7_3 m7_4 m7_5 m7_6 m7_7 m7_8 m7_9 m7_10 m0_0 m0_1 m0_2 m0_3 m0_4
  clear Bk7 lt7
  have m0_0 : w5.cell? ⟨v0, 0, none⟩ = some (.slice A0 s0.M.W.length a0) := cell_of_row w5 _ 0 _ _ _ Bk0
  have m0_1 : w5.cell? ⟨v0, 1, none⟩ = some (.slice B0 s0.M.G.length b0) := cell_of_row w5 _ 1 _ _ _ Bk0
  have m0_2 : w5.cell? ⟨v0, 2, none⟩ = some (.bool s0.M.bad) := cell_of_row w5 _ 2 _ _ _ Bk0
  have m0_3 : w5.cell? ⟨v0, 3, none⟩ = some (.slice (some ⟨gC, oC, none⟩) s0.C.length c0) := cell_of_row w5 _ 3 _ _ _ Bk0
  have m0_4 : w5.cell? ⟨v0, 4, none⟩ = some (.slice L0 s0.L.length d0) := cell_of_row w5 _ 4 _ _ _ Bk0
  go_upto_region 9 with (go_at_call 31; (with_reducible refine (HS.out _ S0).mono ?_); rintro e w6 ⟨A9, B9, C9, L9, a9, b9, c9, d9, rfl, S9, hk9⟩)
  clear m0_0 m0_1 m0_2 m0_3 m0_4
  replace Bk0 := (hk9.block v0 lt0).trans Bk0
  replace lt0 := Nat.lt_of_lt_of_le lt0 hk9.size
  replace S0 := S0.step hk9
  replace hb := bstep hb hk9
  clear hk9
  have Bk9 := heap_alloc_new w6 (.cells #[.slice A9 s0.M.W.length a9, .slice B9 s0.M.G.length b9, .bool bad', .slice C9 s0.C.length c9, .slice L9 s0.L.length d9] 30)
  have lt9 : w6.heap.size < (w6.alloc (.cells #[.slice A9 s0.M.W.length a9, .slice B9 s0.M.G.length b9, .bool bad', .slice C9 s0.C.length c9, .slice L9 s0.L.length d9] 30)).heap.size := by simp
  have hk : Below w6.heap.size w6 (w6.alloc (.cells #[.slice A9 s0.M.W.length a9, .slice B9 s0.M.G.length b9, .bool bad', .slice C9 s0.C.length c9, .slice L9 s0.L.length d9] 30)) := boxed _ _
  replace Bk0 := (hk.block v0 lt0).trans Bk0
  replace lt0 := Nat.lt_of_lt_of_le lt0 hk.size
  replace S0 := S0.step hk
  replace S9 := S9.step hk
  replace hb := bstep hb hk
  clear hk
  obtain ⟨v9, hv⟩ : ∃ v, w6.heap.size = v := ⟨_, rfl⟩
  rw [hv] at Bk9 lt9 ⊢
  clear hv
  generalize (w6.alloc (.cells #[.slice A9 s0.M.W.length a9, .slice B9 s0.M.G.length b9, .bool bad', .slice C9 s0.C.length c9, .slice L9 s0.L.length d9] 30)) = w7 at *
  have HI := hid (show ∀ (w : World), Row w B9 s0.M.G → Row w B0 s0.M.G → Calls Try.prog 33 #[.slice B9 s0.M.G.length b9, .slice B0 s0.M.G.length b0] w fun e w' => e = .returned (.bool true) ∧ Below w.heap.size w w' from fun w k1 k2 => by have h9 := rints_any B9 B0 b9 b0 s0.M.G s0.M.G w k1 k2 (by have := HF.out.2.1; omega); rw [mInts_self] at h9; exact h9)
  have m0_0 : w7.cell? ⟨v0, 0, none⟩ = some (.slice A0 s0.M.W.length a0) := cell_of_row w7 _ 0 _ _ _ Bk0
  have m0_1 : w7.cell? ⟨v0, 1, none⟩ = some (.slice B0 s0.M.G.length b0) := cell_of_row w7 _ 1 _ _ _ Bk0
  have m0_2 : w7.cell? ⟨v0, 2, none⟩ = some (.bool s0.M.bad) := cell_of_row w7 _ 2 _ _ _ Bk0
  have m0_3 : w7.cell? ⟨v0, 3, none⟩ = some (.slice (some ⟨gC, oC, none⟩) s0.C.length c0) := cell_of_row w7 _ 3 _ _ _ Bk0
  have m0_4 : w7.cell? ⟨v0, 4, none⟩ = some (.slice L0 s0.L.length d0) := cell_of_row w7 _ 4 _ _ _ Bk0
  have m9_0 : w7.cell? ⟨v9, 0, none⟩ = some (.slice A9 s0.M.W.length a9) := cell_of_row w7 _ 0 _ _ _ Bk9
  have m9_1 : w7.cell? ⟨v9, 1, none⟩ = some (.slice B9 s0.M.G.length b9) := cell_of_row w7 _ 1 _ _ _ Bk9
  have m9_2 : w7.cell? ⟨v9, 2, none⟩ = some (.bool bad') := cell_of_row w7 _ 2 _ _ _ Bk9
  have m9_3 : w7.cell? ⟨v9, 3, none⟩ = some (.slice C9 s0.C.length c9) := cell_of_row w7 _ 3 _ _ _ Bk9
  have m9_4 : w7.cell? ⟨v9, 4, none⟩ = some (.slice L9 s0.L.length d9) := cell_of_row w7 _ 4 _ _ _ Bk9
  go_upto_region 11 with (go_at_call 33; (with_reducible refine (HI.out _ S9.G S0.G).mono ?_); rintro e w8 ⟨rfl, hk6⟩)
  clear m0_0 m0_1 m0_2 m0_3 m0_4 m9_0 m9_1 m9_2 m9_3 m9_4
  replace Bk0 := (hk6.block v0 lt0).trans Bk0
  replace lt0 := Nat.lt_of_lt_of_le lt0 hk6.size
  replace Bk9 := (hk6.block v9 lt9).trans Bk9
  replace lt9 := Nat.lt_of_lt_of_le lt9 hk6.size
  replace S0 := S0.step hk6
  replace S9 := S9.step hk6
  replace hb := bstep hb hk6
  clear hk6
  go_wp2_with fail
  have P0 := hid (show pPlace (k : Int) 0 = ((8 + 3 * k : Nat) : Int) by rw [pPlace_in (by omega) (by omega) (by omega) (by omega)]; omega)
  have P2 := hid (show pPlace (k : Int) 2 = ((8 + 3 * k + 2 : Nat) : Int) by rw [pPlace_in (by omega) (by omega) (by omega) (by omega)]; omega)
  have hwl : s0.M.W.length ≤ 1000000 := HF.out.1
  have HL1 := hid (show 1 ≤ s0.M.W.length by have h1 := HR.out.w; have h2 := HR.out.g2; omega)
  obtain ⟨bW, pW, rfl, hbW, hatW⟩ := S9.W (by have h1 := HWL.out; have h2 := HL1.out; show 0 < W'.length; omega)
  obtain ⟨bV, pV, rfl, hbV, hatV⟩ := S0.W (by have := HL1.out; omega)
  have m0_0 : w8.cell? ⟨v0, 0, none⟩ = some (.slice (some ⟨bV, pV, none⟩) s0.M.W.length a0) := cell_of_row w8 _ 0 _ _ _ Bk0
  have m0_1 : w8.cell? ⟨v0, 1, none⟩ = some (.slice B0 s0.M.G.length b0) := cell_of_row w8 _ 1 _ _ _ Bk0
  have m0_2 : w8.cell? ⟨v0, 2, none⟩ = some (.bool s0.M.bad) := cell_of_row w8 _ 2 _ _ _ Bk0
  have m0_3 : w8.cell? ⟨v0, 3, none⟩ = some (.slice (some ⟨gC, oC, none⟩) s0.C.length c0) := cell_of_row w8 _ 3 _ _ _ Bk0
  have m0_4 : w8.cell? ⟨v0, 4, none⟩ = some (.slice L0 s0.L.length d0) := cell_of_row w8 _ 4 _ _ _ Bk0
  have m9_0 : w8.cell? ⟨v9, 0, none⟩ = some (.slice (some ⟨bW, pW, none⟩) s0.M.W.length a9) := cell_of_row w8 _ 0 _ _ _ Bk9
  have m9_1 : w8.cell? ⟨v9, 1, none⟩ = some (.slice B9 s0.M.G.length b9) := cell_of_row w8 _ 1 _ _ _ Bk9
  have m9_2 : w8.cell? ⟨v9, 2, none⟩ = some (.bool bad') := cell_of_row w8 _ 2 _ _ _ Bk9
  have m9_3 : w8.cell? ⟨v9, 3, none⟩ = some (.slice C9 s0.C.length c9) := cell_of_row w8 _ 3 _ _ _ Bk9
  have m9_4 : w8.cell? ⟨v9, 4, none⟩ = some (.slice L9 s0.L.length d9) := cell_of_row w8 _ 4 _ _ _ Bk9
  go_loopw [10] (fun i wq => ∃ j : Nat, j ≤ s0.M.W.length ∧ i = .int .i64 j ∧ Below w8.heap.size w8 wq) (fun i _ => s0.M.W.length - (intOf i).toNat)
  case atStart => exact ⟨0, by omega, rfl, Below.refl _ _⟩
  case round =>
    obtain ⟨j, hj, rfl, hq2⟩ := hrel
    have m0_0q := (hq2.cell lt0).trans m0_0
    have m0_1q := (hq2.cell lt0).trans m0_1
    have m0_2q := (hq2.cell lt0).trans m0_2
    have m0_3q := (hq2.cell lt0).trans m0_3
    have m0_4q := (hq2.cell lt0).trans m0_4
    have m9_0q := (hq2.cell lt9).trans m9_0
    have m9_1q := (hq2.cell lt9).trans m9_1
    have m9_2q := (hq2.cell lt9).trans m9_2
    have m9_3q := (hq2.cell lt9).trans m9_3
    have m9_4q := (hq2.cell lt9).trans m9_4
    by_cases hjl : j < s0.M.W.length
    · have jl : (j : Int) < (s0.M.W.length : Int) := by omega
      have hjw : j < W'.length := by have := HWL.out; omega
      have cV := (hq2.cell hbV).trans (hatV j (s0.M.W.getD j 0) (by simp [List.getD, List.getElem?_eq_getElem hjl]))
      by_cases q : 8 + 3 * k ≤ j ∧ j ≤ 8 + 3 * k + 2
      · have cW := (hq2.cell hbW).trans (hatW j (W'.getD j 0) (by show W'[j]? = _; simp [List.getD, List.getElem?_eq_getElem hjw]))
        have dd0 : decide (pPlace (k : Int) 0 ≤ (j : Int)) = true := by rw [P0.out]; simp; omega
        have dd2 : decide ((j : Int) ≤ pPlace (k : Int) 2) = true := by rw [P2.out]; simp; omega
        go_wp2_with (go_at_call 25; (with_reducible refine (rplace_w _ _ _).mono ?_); rintro e wK ⟨rfl, rfl⟩)
        go_quiet (fail)
        go_wp2_with fail
        go_roundw
        case rel => exact ⟨j + 1, by omega, by go_num, bdrewN hq2 _⟩
        case measure => simp [intOf]; omega
      · by_cases q3 : 8 + 3 * k ≤ j
        · have cW := (hq2.cell hbW).trans (hatW j (s0.M.W.getD j 0) (by show W'[j]? = _; rw [HWS.out j q]; simp [List.getD, List.getElem?_eq_getElem hjl]))
          have dd0 : decide (pPlace (k : Int) 0 ≤ (j : Int)) = true := by rw [P0.out]; simp; omega
          have dd2 : decide ((j : Int) ≤ pPlace (k : Int) 2) = false := by rw [P2.out]; simp; omega
          go_wp2_with (go_at_call 25; (with_reducible refine (rplace_w _ _ _).mono ?_); rintro e wK ⟨rfl, rfl⟩)
          go_quiet (fail)
          go_wp2_with fail
          go_roundw
          case rel => exact ⟨j + 1, by omega, by go_num, bdrewN hq2 _⟩
          case measure => simp [intOf]; omega
        · have cW := (hq2.cell hbW).trans (hatW j (s0.M.W.getD j 0) (by show W'[j]? = _; rw [HWS.out j q]; simp [List.getD, List.getElem?_eq_getElem hjl]))
          have dd0 : decide (pPlace (k : Int) 0 ≤ (j : Int)) = false := by rw [P0.out]; simp; omega
          go_wp2_with (go_at_call 25; (with_reducible refine (rplace_w _ _ _).mono ?_); rintro e wK ⟨rfl, rfl⟩)
          go_quiet (fail)
          go_wp2_with fail
          go_roundw
          case rel => exact ⟨j + 1, by omega, by go_num, bdrewN hq2 _⟩
          case measure => simp [intOf]; omega
    · have jl : ¬ (j : Int) < (s0.M.W.length : Int) := by omega
      clear m0_0 m0_1 m0_2 m0_3 m0_4 m9_0 m9_1 m9_2 m9_3 m9_4
      replace Bk0 := (hq2.block v0 lt0).trans Bk0
      replace Bk9 := (hq2.block v9 lt9).trans Bk9
      replace lt0 := Nat.lt_of_lt_of_le lt0 hq2.size
      replace lt9 := Nat.lt_of_lt_of_le lt9 hq2.size
      replace S0 := S0.step hq2
      replace S9 := S9.step hq2
      replace hb := bstep hb hq2
      clear hq2 hatW hatV hbW hbV
      go_upto_region 17 with (fail)
      obtain ⟨gC2, oC2, eC2, hbl2, hat2⟩ := S0.C (by omega)
      injection eC2 with eC2
      injection eC2 with eC3 eC4
      subst eC3 eC4
      obtain ⟨AF, AR, cFq, cR, hcs, rF, rR, hcF⟩ := (hat2 k x HX.out).cs4
      clear hat2
      have y0 : wr.cell? ⟨gC, oC + k * 7, none⟩ = some (.slice AF x.F.length cFq) := hcs 0 _ rfl
      have y1 : wr.cell? ⟨gC, oC + k * 7 + 1, none⟩ = some (.int .i64 x.v) := hcs 1 _ rfl
      have y2 : wr.cell? ⟨gC, oC + k * 7 + 2, none⟩ = some (.int .i64 x.e) := hcs 2 _ rfl
      have y3 : wr.cell? ⟨gC, oC + k * 7 + 3, none⟩ = some (.int .i64 x.x0) := hcs 3 _ rfl
      have y4 : wr.cell? ⟨gC, oC + k * 7 + 4, none⟩ = some (.int .i64 x.x1) := hcs 4 _ rfl
      have y5 : wr.cell? ⟨gC, oC + k * 7 + 5, none⟩ = some (.int .i64 x.x2) := hcs 5 _ rfl
      have y6 : wr.cell? ⟨gC, oC + k * 7 + 6, none⟩ = some (.slice AR x.ret.length cR) := hcs 6 _ rfl
      clear hcs
      have p0 : wr.cell? ⟨v0, 0, none⟩ = some (.slice (some ⟨bV, pV, none⟩) s0.M.W.length a0) := cell_of_row wr _ 0 _ _ _ Bk0
      have p1 : wr.cell? ⟨v0, 1, none⟩ = some (.slice B0 s0.M.G.length b0) := cell_of_row wr _ 1 _ _ _ Bk0
      have p2 : wr.cell? ⟨v0, 2, none⟩ = some (.bool s0.M.bad) := cell_of_row wr _ 2 _ _ _ Bk0
      have p3 : wr.cell? ⟨v0, 3, none⟩ = some (.slice (some ⟨gC, oC, none⟩) s0.C.length c0) := cell_of_row wr _ 3 _ _ _ Bk0
      have p4 : wr.cell? ⟨v0, 4, none⟩ = some (.slice L0 s0.L.length d0) := cell_of_row wr _ 4 _ _ _ Bk0
      have q0 : wr.cell? ⟨v9, 0, none⟩ = some (.slice (some ⟨bW, pW, none⟩) s0.M.W.length a9) := cell_of_row wr _ 0 _ _ _ Bk9
      have q1 : wr.cell? ⟨v9, 1, none⟩ = some (.slice B9 s0.M.G.length b9) := cell_of_row wr _ 1 _ _ _ Bk9
      have q2 : wr.cell? ⟨v9, 2, none⟩ = some (.bool bad') := cell_of_row wr _ 2 _ _ _ Bk9
      have q3 : wr.cell? ⟨v9, 3, none⟩ = some (.slice C9 s0.C.length c9) := cell_of_row wr _ 3 _ _ _ Bk9
      have q4 : wr.cell? ⟨v9, 4, none⟩ = some (.slice L9 s0.L.length d9) := cell_of_row wr _ 4 _ _ _ Bk9
      have HM := hid (show ∀ (w : World), RS w (⟨⟨W', s0.M.G, bad'⟩, s0.C.set k x', s0.L⟩ : Sy) (some ⟨bW, pW, none⟩) B9 C9 L9 → RS w s0 (some ⟨bV, pV, none⟩) B0 (some ⟨gC, oC, none⟩) L0 → Calls Try.prog 35 #[.agg #[.slice (some ⟨bW, pW, none⟩) s0.M.W.length a9, .slice B9 s0.M.G.length b9, .bool bad', .slice C9 s0.C.length c9, .slice L9 s0.L.length d9], .agg #[.slice (some ⟨bV, pV, none⟩) s0.M.W.length a0, .slice B0 s0.M.G.length b0, .bool s0.M.bad]] w (fun e w' => e = .returned (.agg #[.slice (some ⟨bV, pV, none⟩) s0.M.W.length a0, .slice B0 s0.M.G.length b0, .bool s0.M.bad, .slice C9 s0.C.length c9, .slice L9 s0.L.length d9]) ∧ RS w' (⟨s0.M, s0.C.set k x', s0.L⟩ : Sy) (some ⟨bV, pV, none⟩) B0 C9 L9 ∧ Below w.heap.size w w') from fun w k1 k2 => by have h9 := rmem3_any (some ⟨bW, pW, none⟩) B9 C9 L9 (some ⟨bV, pV, none⟩) B0 a9 b9 c9 d9 a0 b0 (⟨⟨W', s0.M.G, bad'⟩, s0.C.set k x', s0.L⟩ : Sy) s0.M w k1 k2.W k2.G; simp only [List.length_set, HWL.out] at h9; exact h9)
      have HWI := hid (show ∀ (w : World), RS w (⟨s0.M, s0.C.set k x', s0.L⟩ : Sy) (some ⟨bV, pV, none⟩) B0 C9 L9 → RowF w AF x.F → Row w AR x.ret → Calls Try.prog 34 #[.agg #[.slice (some ⟨bV, pV, none⟩) s0.M.W.length a0, .slice B0 s0.M.G.length b0, .bool s0.M.bad, .slice C9 s0.C.length c9, .slice L9 s0.L.length d9], .int .i64 (k : Int), .agg #[.slice AF x.F.length cFq, .int .i64 x.v, .int .i64 x.e, .int .i64 x.x0, .int .i64 x.x1, .int .i64 x.x2, .slice AR x.ret.length cR]] w (RetSys w s0) from fun w k1 k2 k3 => by have h9 := rwith_any (some ⟨bV, pV, none⟩) B0 C9 L9 a0 b0 c9 d9 (⟨s0.M, s0.C.set k x', s0.L⟩ : Sy) k AF AR cFq cR x w k1.W k1.G k1.C k1.L (by simp only [List.length_set]; exact HF.out.2.2.1) k2 k3 (by simp only [List.length_set]; omega) hcF; simp only [List.length_set, syWith, List.set_set, set_self HX.out] at h9; exact h9)
      have HSS := hid (show ∀ (A1 B1 C1 L1 : Option Addr) (a1 b1 c1 d1 : Nat) (w : World), RS w s0 A1 B1 C1 L1 → RS w s0 (some ⟨bV, pV, none⟩) B0 (some ⟨gC, oC, none⟩) L0 → Calls Try.prog 20 #[.agg #[.slice A1 s0.M.W.length a1, .slice B1 s0.M.G.length b1, .bool s0.M.bad, .slice C1 s0.C.length c1, .slice L1 s0.L.length d1], .agg #[.slice (some ⟨bV, pV, none⟩) s0.M.W.length a0, .slice B0 s0.M.G.length b0, .bool s0.M.bad, .slice (some ⟨gC, oC, none⟩) s0.C.length c0, .slice L0 s0.L.length d0]] w fun e w' => e = .returned (.bool true) ∧ Below w.heap.size w w' from fun A1 B1 C1 L1 a1 b1 c1 d1 w k1 k2 => by have h9 := rsame_u A1 B1 C1 L1 (some ⟨bV, pV, none⟩) B0 (some ⟨gC, oC, none⟩) L0 a1 b1 c1 d1 a0 b0 c0 d0 s0 s0 w HF.out k1 k2; rw [sySame_self] at h9; exact h9)
      have KS := hid (show ∀ w', Below wr.heap.size wr w' → (w'.cell? ⟨v0, 0, none⟩ = some (.slice (some ⟨bV, pV, none⟩) s0.M.W.length a0) ∧ w'.cell? ⟨v0, 1, none⟩ = some (.slice B0 s0.M.G.length b0) ∧ w'.cell? ⟨v0, 2, none⟩ = some (.bool s0.M.bad) ∧ w'.cell? ⟨v0, 3, none⟩ = some (.slice (some ⟨gC, oC, none⟩) s0.C.length c0) ∧ w'.cell? ⟨v0, 4, none⟩ = some (.slice L0 s0.L.length d0) ∧ w'.cell? ⟨v9, 0, none⟩ = some (.slice (some ⟨bW, pW, none⟩) s0.M.W.length a9) ∧ w'.cell? ⟨v9, 1, none⟩ = some (.slice B9 s0.M.G.length b9) ∧ w'.cell? ⟨v9, 2, none⟩ = some (.bool bad') ∧ w'.cell? ⟨v9, 3, none⟩ = some (.slice C9 s0.C.length c9) ∧ w'.cell? ⟨v9, 4, none⟩ = some (.slice L9 s0.L.length d9) ∧ w'.cell? ⟨gC, oC + k * 7, none⟩ = some (.slice AF x.F.length cFq) ∧ w'.cell? ⟨gC, oC + k * 7 + 1, none⟩ = some (.int .i64 x.v) ∧ w'.cell? ⟨gC, oC + k * 7 + 2, none⟩ = some (.int .i64 x.e) ∧ w'.cell? ⟨gC, oC + k * 7 + 3, none⟩ = some (.int .i64 x.x0) ∧ w'.cell? ⟨gC, oC + k * 7 + 4, none⟩ = some (.int .i64 x.x1) ∧ w'.cell? ⟨gC, oC + k * 7 + 5, none⟩ = some (.int .i64 x.x2) ∧ w'.cell? ⟨gC, oC + k * 7 + 6, none⟩ = some (.slice AR x.ret.length cR)) from fun w' h => ⟨(h.cell lt0).trans p0, (h.cell lt0).trans p1, (h.cell lt0).trans p2, (h.cell lt0).trans p3, (h.cell lt0).trans p4, (h.cell lt9).trans q0, (h.cell lt9).trans q1, (h.cell lt9).trans q2, (h.cell lt9).trans q3, (h.cell lt9).trans q4, (h.cell hbl2).trans y0, (h.cell hbl2).trans y1, (h.cell hbl2).trans y2, (h.cell hbl2).trans y3, (h.cell hbl2).trans y4, (h.cell hbl2).trans y5, (h.cell hbl2).trans y6⟩)
      go_region_held3 (fun w' => w'.cell? ⟨v0, 0, none⟩ = some (.slice (some ⟨bV, pV, none⟩) s0.M.W.length a0) ∧ w'.cell? ⟨v0, 1, none⟩ = some (.slice B0 s0.M.G.length b0) ∧ w'.cell? ⟨v0, 2, none⟩ = some (.bool s0.M.bad) ∧ w'.cell? ⟨v0, 3, none⟩ = some (.slice (some ⟨gC, oC, none⟩) s0.C.length c0) ∧ w'.cell? ⟨v0, 4, none⟩ = some (.slice L0 s0.L.length d0) ∧ w'.cell? ⟨v9, 0, none⟩ = some (.slice (some ⟨bW, pW, none⟩) s0.M.W.length a9) ∧ w'.cell? ⟨v9, 1, none⟩ = some (.slice B9 s0.M.G.length b9) ∧ w'.cell? ⟨v9, 2, none⟩ = some (.bool bad') ∧ w'.cell? ⟨v9, 3, none⟩ = some (.slice C9 s0.C.length c9) ∧ w'.cell? ⟨v9, 4, none⟩ = some (.slice L9 s0.L.length d9) ∧ w'.cell? ⟨gC, oC + k * 7, none⟩ = some (.slice AF x.F.length cFq) ∧ w'.cell? ⟨gC, oC + k * 7 + 1, none⟩ = some (.int .i64 x.v) ∧ w'.cell? ⟨gC, oC + k * 7 + 2, none⟩ = some (.int .i64 x.e) ∧ w'.cell? ⟨gC, oC + k * 7 + 3, none⟩ = some (.int .i64 x.x0) ∧ w'.cell? ⟨gC, oC + k * 7 + 4, none⟩ = some (.int .i64 x.x1) ∧ w'.cell? ⟨gC, oC + k * 7 + 5, none⟩ = some (.int .i64 x.x2) ∧ w'.cell? ⟨gC, oC + k * 7 + 6, none⟩ = some (.slice AR x.ret.length cR)) (exact KS.out _ (by repeat (first | (with_reducible exact Below.refl _ _) | (with_reducible refine Below.drew ?_) | (with_reducible refine bstep ?_ (boxed _ _)) | (with_reducible refine bstep ?_ hk3) | (with_reducible refine bstep ?_ hk2) | (with_reducible refine bstep ?_ hk1))))
        (first | (go_at_call 35; (with_reducible refine (HM.out _ (S9.step (by repeat (first | (with_reducible exact Below.refl _ _) | (with_reducible refine Below.drew ?_) | (with_reducible refine bstep ?_ (boxed _ _)) | (with_reducible refine bstep ?_ hk3) | (with_reducible refine bstep ?_ hk2) | (with_reducible refine bstep ?_ hk1)))) (S0.step (by repeat (first | (with_reducible exact Below.refl _ _) | (with_reducible refine Below.drew ?_) | (with_reducible refine bstep ?_ (boxed _ _)) | (with_reducible refine bstep ?_ hk3) | (with_reducible refine bstep ?_ hk2) | (with_reducible refine bstep ?_ hk1))))).mono ?_); rintro e wk1 ⟨rfl, X1, hk1⟩) | (go_at_call 34; (with_reducible refine (HWI.out _ (X1.step (by repeat (first | (with_reducible exact Below.refl _ _) | (with_reducible refine Below.drew ?_) | (with_reducible refine bstep ?_ (boxed _ _)) | (with_reducible refine bstep ?_ hk3) | (with_reducible refine bstep ?_ hk2) | (with_reducible refine bstep ?_ hk1)))) (rF.step (by repeat (first | (with_reducible exact Below.refl _ _) | (with_reducible refine Below.drew ?_) | (with_reducible refine bstep ?_ (boxed _ _)) | (with_reducible refine bstep ?_ hk3) | (with_reducible refine bstep ?_ hk2) | (with_reducible refine bstep ?_ hk1)))) (rR.step (by repeat (first | (with_reducible exact Below.refl _ _) | (with_reducible refine Below.drew ?_) | (with_reducible refine bstep ?_ (boxed _ _)) | (with_reducible refine bstep ?_ hk3) | (with_reducible refine bstep ?_ hk2) | (with_reducible refine bstep ?_ hk1))))).mono ?_); rintro e wk2 ⟨A2, B2, C2, L2, a2, b2, c2, d2, rfl, x1, x2, x3, x4, hk2⟩; have X2 : RS wk2 s0 A2 B2 C2 L2 := ⟨x1, x2, x3, x4⟩; clear x1 x2 x3 x4) | (go_at_call 20; (with_reducible refine (HSS.out _ _ _ _ _ _ _ _ _ (X2.step (by repeat (first | (with_reducible exact Below.refl _ _) | (with_reducible refine Below.drew ?_) | (with_reducible refine bstep ?_ (boxed _ _)) | (with_reducible refine bstep ?_ hk3) | (with_reducible refine bstep ?_ hk2) | (with_reducible refine bstep ?_ hk1)))) (S0.step (by repeat (first | (with_reducible exact Below.refl _ _) | (with_reducible refine Below.drew ?_) | (with_reducible refine bstep ?_ (boxed _ _)) | (with_reducible refine bstep ?_ hk3) | (with_reducible refine bstep ?_ hk2) | (with_reducible refine bstep ?_ hk1))))).mono ?_); rintro e wk3 ⟨rfl, hk3⟩))
      have hbw : Below wr.heap.size wr wk3 := (by repeat (first | (with_reducible exact Below.refl _ _) | (with_reducible refine Below.drew ?_) | (with_reducible refine bstep ?_ (boxed _ _)) | (with_reducible refine bstep ?_ hk3) | (with_reducible refine bstep ?_ hk2) | (with_reducible refine bstep ?_ hk1)))
      go_wp2_with fail
      go_ret
      exact ⟨rfl, bstep hb hbw⟩

set_option maxRecDepth 100000 in
set_option maxHeartbeats 8000000 in
theorem walk_x (A0 B0 C0 L0 : Option Addr) (a0 b0 c0 d0 : Nat) (s0 : Sy) (n1 : Int) (w0 : World) (u0 : 0 ≤ n1) (u1 : n1 ≤ 255)
    (rW : Row w0 A0 s0.M.W) (rG : Row w0 B0 s0.M.G) (rC : RowC w0 C0 s0.C) (rL : RowE w0 L0 s0.L) (g0 : s0.M.W.length ≤ maxLen) (g1 : s0.M.G.length ≤ maxLen) (g2 : s0.C.length ≤ maxLen) (g3 : s0.L.length ≤ maxLen) (hw : SyW s0) (q0 : syMays s0 = true) (hT : ∀ k : Nat, n1.tmod (s0.C.length : Int) = (k : Int) → ∃ (op pc r0 r1 r2 r3 r4 r5 r6 r7 : Int) (xs : List Int), pTop s0 (k : Int) = some ⟨op, pc, [r0, r1, r2, r3, r4, r5, r6, r7], xs⟩ ∧ xs.length ≤ 1000000 ∧ op ≠ 3) :
    Calls Try.prog 11 #[.agg #[.slice A0 s0.M.W.length a0, .slice B0 s0.M.G.length b0, .bool s0.M.bad, .slice C0 s0.C.length c0, .slice L0 s0.L.length d0], .int .u8 n1] w0 fun e w' => e = .returned (.bool true) ∧ Below w0.heap.size w0 w' := by
  have S0 : RS w0 s0 A0 B0 C0 L0 := ⟨rW, rG, rC, rL⟩
  have hb : Below w0.heap.size w0 w0 := Below.refl _ _
  have HC := rmay3_any A0 B0 C0 L0 a0 b0 c0 d0 s0
  rw [q0] at HC
  replace HC := hid (show ∀ w, RS w s0 A0 B0 C0 L0 → Calls Try.prog 23 #[.agg #[.slice A0 s0.M.W.length a0, .slice B0 s0.M.G.length b0, .bool s0.M.bad, .slice C0 s0.C.length c0, .slice L0 s0.L.length d0], .int .i64 60] w fun e w' => e = .returned (.bool true) ∧ Below w.heap.size w w' from fun w h => HC w h.G h.C g1 g0 g2 g3)
  clear rW rG rC rL g0 g1 g2 g3
  have HWD0 := hid hw
  clear hw
  go_enter Try.func11, Try.ntmps11
  go_upto_region 1 with (fail)
  have Bk0 := heap_alloc_new w0 (.cells #[.slice A0 s0.M.W.length a0, .slice B0 s0.M.G.length b0, .bool s0.M.bad, .slice C0 s0.C.length c0, .slice L0 s0.L.length d0] 30)
  have lt0 : w0.heap.size < (w0.alloc (.cells #[.slice A0 s0.M.W.length a0, .slice B0 s0.M.G.length b0, .bool s0.M.bad, .slice C0 s0.C.length c0, .slice L0 s0.L.length d0] 30)).heap.size := by simp
  have hk : Below w0.heap.size w0 (w0.alloc (.cells #[.slice A0 s0.M.W.length a0, .slice B0 s0.M.G.length b0, .bool s0.M.bad, .slice C0 s0.C.length c0, .slice L0 s0.L.length d0] 30)) := boxed _ _
  replace S0 := S0.step hk
  replace hb := bstep hb hk
  clear hk
  obtain ⟨v0, hv⟩ : ∃ v, w0.heap.size = v := ⟨_, rfl⟩
  rw [hv] at Bk0 lt0 ⊢
  clear hv
  generalize (w0.alloc (.cells #[.slice A0 s0.M.W.length a0, .slice B0 s0.M.G.length b0, .bool s0.M.bad, .slice C0 s0.C.length c0, .slice L0 s0.L.length d0] 30)) = w1 at *
  go_wp2_with fail
  refine (shown5_any _).mono ?_
  rintro e w2 ⟨rfl, hk⟩
  replace Bk0 := (hk.block v0 lt0).trans Bk0
  replace lt0 := Nat.lt_of_lt_of_le lt0 hk.size
  replace S0 := S0.step hk
  replace hb := bstep hb hk
  clear hk
  go_upto_region 2 with (fail)
  have m0_0 : w2.cell? ⟨v0, 0, none⟩ = some (.slice A0 s0.M.W.length a0) := cell_of_row w2 _ 0 _ _ _ Bk0
  have m0_1 : w2.cell? ⟨v0, 1, none⟩ = some (.slice B0 s0.M.G.length b0) := cell_of_row w2 _ 1 _ _ _ Bk0
  have m0_2 : w2.cell? ⟨v0, 2, none⟩ = some (.bool s0.M.bad) := cell_of_row w2 _ 2 _ _ _ Bk0
  have m0_3 : w2.cell? ⟨v0, 3, none⟩ = some (.slice C0 s0.C.length c0) := cell_of_row w2 _ 3 _ _ _ Bk0
  have m0_4 : w2.cell? ⟨v0, 4, none⟩ = some (.slice L0 s0.L.length d0) := cell_of_row w2 _ 4 _ _ _ Bk0
  go_upto_region 4 with (go_at_call 23; refine (HC.out _ S0).mono ?_; rintro e w3 ⟨rfl, hk⟩)
  clear m0_0 m0_1 m0_2 m0_3 m0_4
  replace Bk0 := (hk.block v0 lt0).trans Bk0
  replace lt0 := Nat.lt_of_lt_of_le lt0 hk.size
  replace S0 := S0.step hk
  replace hb := bstep hb hk
  clear hk
  clear HC
  have hmay : sySmall s0 = true ∧ syRight s0 = true := by simpa [syMays] using q0
  have HF := hid (few_of_small hmay.1)
  have hsm := sySmall_few hmay.1
  have hr := hmay.2
  simp only [syRight, Bool.and_eq_true, decide_eq_true_eq] at hr
  have HR := hid (Rt.of hr.1.1.1)
  obtain ⟨⟨⟨_, hc1⟩, hc8⟩, _⟩ := hr
  have HOK := hid (show Ok4 200 s0 from ⟨HF.out, HR.out.g2, hsm.2.2.2.1⟩)
  clear hmay q0 hsm
  obtain ⟨k, hk⟩ : ∃ k : Nat, n1.tmod (s0.C.length : Int) = (k : Int) := ⟨(n1.tmod (s0.C.length : Int)).toNat, by rw [Int.tmod_eq_emod_of_nonneg u0, Int.toNat_of_nonneg (Int.emod_nonneg _ (by omega))]⟩
  have hkl : k < s0.C.length := by have h9 := hk; rw [Int.tmod_eq_emod_of_nonneg u0] at h9; have := Int.emod_lt_of_pos n1 (show (0 : Int) < (s0.C.length : Int) by omega); omega
  obtain ⟨x, hx⟩ : ∃ x, s0.C[k]? = some x := ⟨_, List.getElem?_eq_getElem hkl⟩
  obtain ⟨gC, oC, eC, hbl, hat⟩ := S0.C (by omega)
  subst eC
  obtain ⟨AF, AR, cFq, cR, hcs, rF, rR, hcF⟩ := (hat k x hx).cs4
  clear hat
  have y0 : w3.cell? ⟨gC, oC + k * 7, none⟩ = some (.slice AF x.F.length cFq) := hcs 0 _ rfl
  have kl : (k : Int) < (s0.C.length : Int) := by omega
  have hne : ((s0.C.length : Int) == 0) = false := by rw [beq_eq_false_iff_ne]; omega
  have HX := hid hx
  clear hx hcs rF rR hcF
  have m0_0 : w3.cell? ⟨v0, 0, none⟩ = some (.slice A0 s0.M.W.length a0) := cell_of_row w3 _ 0 _ _ _ Bk0
  have m0_1 : w3.cell? ⟨v0, 1, none⟩ = some (.slice B0 s0.M.G.length b0) := cell_of_row w3 _ 1 _ _ _ Bk0
  have m0_2 : w3.cell? ⟨v0, 2, none⟩ = some (.bool s0.M.bad) := cell_of_row w3 _ 2 _ _ _ Bk0
  have m0_3 : w3.cell? ⟨v0, 3, none⟩ = some (.slice (some ⟨gC, oC, none⟩) s0.C.length c0) := cell_of_row w3 _ 3 _ _ _ Bk0
  have m0_4 : w3.cell? ⟨v0, 4, none⟩ = some (.slice L0 s0.L.length d0) := cell_of_row w3 _ 4 _ _ _ Bk0
  obtain ⟨op, pc, r0, r1, r2, r3, r4, r5, r6, r7, xs, hp, h6, hx9⟩ := hT k hk
  have o1 : (op == 3) = false := by simpa using hx9
  have hSh : Shape5 s0 k (pHaz s0 (k : Int)) := haz_shape HX.out (by omega) (by have h1 := HR.out.w; have h2 := HR.out.g2; omega) (fun f hf ho => by rw [hp] at hf; obtain rfl := Option.some.inj hf; simp at o1; exact absurd ho o1)
  obtain ⟨W', bad', x', hT1, hWl, hWs⟩ := hSh
  have HS := hid (show ∀ (w : World), RS w s0 A0 B0 (some ⟨gC, oC, none⟩) L0 → Calls Try.prog 31 #[.agg #[.slice A0 s0.M.W.length a0, .slice B0 s0.M.G.length b0, .bool s0.M.bad, .slice (some ⟨gC, oC, none⟩) s0.C.length c0, .slice L0 s0.L.length d0], .int .i64 (k : Int)] w (fun e w' => ∃ (A B C L : Option Addr) (a b c d : Nat), e = .returned (.agg #[.slice A s0.M.W.length a, .slice B s0.M.G.length b, .bool bad', .slice C s0.C.length c, .slice L s0.L.length d]) ∧ RS w' (⟨⟨W', s0.M.G, bad'⟩, s0.C.set k x', s0.L⟩ : Sy) A B C L ∧ Below w.heap.size w w') from fun w h => by have h9 := hstep_any A0 B0 (some ⟨gC, oC, none⟩) L0 a0 b0 c0 d0 s0 (k : Int) w HF.out HR.out.g2 h (fun f hf => top_W HWD0.out hf); rw [hT1] at h9; exact h9.mono (fun e w' hN => by obtain ⟨A, B, C, L, a, b, c, d, he, q1, q2, q3, q4, q5⟩ := hN.weak; refine ⟨A, B, C, L, a, b, c, d, ?_, ⟨q1, q2, q3, q4⟩, q5⟩; rw [he]; simp only [List.length_set, hWl]))
  have HWS := hid hWs
  have HWL := hid hWl
  clear hT1 hWs hWl
  go_upto_region 6 with (go_at_call 15; (with_reducible refine (rtop_is A0 B0 (some ⟨gC, oC, none⟩) L0 a0 b0 c0 d0 s0 (k : Int) op pc r0 r1 r2 r3 r4 r5 r6 r7 xs _ HF.out S0 hp h6).mono ?_); rintro e w4 ⟨AT, cT, rfl, rT, hk5⟩)
  clear hp rT y0
  clear m0_0 m0_1 m0_2 m0_3 m0_4
  replace Bk0 := (hk5.block v0 lt0).trans Bk0
  replace lt0 := Nat.lt_of_lt_of_le lt0 hk5.size
  replace S0 := S0.step hk5
  replace hb := bstep hb hk5
  clear hk5
  have Bk7 := heap_alloc_new w4 (.cells #[.int .i64 op, .int .i64 pc, .int .i64 r0, .int .i64 r1, .int .i64 r2, .int .i64 r3, .int .i64 r4, .int .i64 r5, .int .i64 r6, .int .i64 r7, .slice AT xs.length cT] 38)
  have lt7 : w4.heap.size < (w4.alloc (.cells #[.int .i64 op, .int .i64 pc, .int .i64 r0, .int .i64 r1, .int .i64 r2, .int .i64 r3, .int .i64 r4, .int .i64 r5, .int .i64 r6, .int .i64 r7, .slice AT xs.length cT] 38)).heap.size := by simp
  have hk : Below w4.heap.size w4 (w4.alloc (.cells #[.int .i64 op, .int .i64 pc, .int .i64 r0, .int .i64 r1, .int .i64 r2, .int .i64 r3, .int .i64 r4, .int .i64 r5, .int .i64 r6, .int .i64 r7, .slice AT xs.length cT] 38)) := boxed _ _
  replace Bk0 := (hk.block v0 lt0).trans Bk0
  replace lt0 := Nat.lt_of_lt_of_le lt0 hk.size
  replace S0 := S0.step hk
  replace hb := bstep hb hk
  clear hk
  obtain ⟨v7, hv⟩ : ∃ v, w4.heap.size = v := ⟨_, rfl⟩
  rw [hv] at Bk7 lt7 ⊢
  clear hv
  generalize (w4.alloc (.cells #[.int .i64 op, .int .i64 pc, .int .i64 r0, .int .i64 r1, .int .i64 r2, .int .i64 r3, .int .i64 r4, .int .i64 r5, .int .i64 r6, .int .i64 r7, .slice AT xs.length cT] 38)) = w5 at *
  have m7_0 : w5.cell? ⟨v7, 0, none⟩ = some (.int .i64 op) := cell_of_row w5 _ 0 _ _ _ Bk7
  have m7_1 : w5.cell? ⟨v7, 1, none⟩ = some (.int .i64 pc) := cell_of_row w5 _ 1 _ _ _ Bk7
  have m7_2 : w5.cell? ⟨v7, 2, none⟩ = some (.int .i64 r0) := cell_of_row w5 _ 2 _ _ _ Bk7
  have m7_3 : w5.cell? ⟨v7, 3, none⟩ = some (.int .i64 r1) := cell_of_row w5 _ 3 _ _ _ Bk7
  have m7_4 : w5.cell? ⟨v7, 4, none⟩ = some (.int .i64 r2) := cell_of_row w5 _ 4 _ _ _ Bk7
  have m7_5 : w5.cell? ⟨v7, 5, none⟩ = some (.int .i64 r3) := cell_of_row w5 _ 5 _ _ _ Bk7
  have m7_6 : w5.cell? ⟨v7, 6, none⟩ = some (.int .i64 r4) := cell_of_row w5 _ 6 _ _ _ Bk7
  have m7_7 : w5.cell? ⟨v7, 7, none⟩ = some (.int .i64 r5) := cell_of_row w5 _ 7 _ _ _ Bk7
  have m7_8 : w5.cell? ⟨v7, 8, none⟩ = some (.int .i64 r6) := cell_of_row w5 _ 8 _ _ _ Bk7
  have m7_9 : w5.cell? ⟨v7, 9, none⟩ = some (.int .i64 r7) := cell_of_row w5 _ 9 _ _ _ Bk7
  have m7_10 : w5.cell? ⟨v7, 10, none⟩ = some (.slice AT xs.length cT) := cell_of_row w5 _ 10 _ _ _ Bk7
  clear m7_0 m7_1 m7_2 m7_3 m7_4 m7_5 m7_6 m7_7 m7_8 m7_9 m7_10
  have m7_0 : w5.cell? ⟨v7, 0, none⟩ = some (.int .i64 op) := cell_of_row w5 _ 0 _ _ _ Bk7
  have m7_1 : w5.cell? ⟨v7, 1, none⟩ = some (.int .i64 pc) := cell_of_row w5 _ 1 _ _ _ Bk7
  have m7_2 : w5.cell? ⟨v7, 2, none⟩ = some (.int .i64 r0) := cell_of_row w5 _ 2 _ _ _ Bk7
  have m7_3 : w5.cell? ⟨v7, 3, none⟩ = some (.int .i64 r1) := cell_of_row w5 _ 3 _ _ _ Bk7
  have m7_4 : w5.cell? ⟨v7, 4, none⟩ = some (.int .i64 r2) := cell_of_row w5 _ 4 _ _ _ Bk7
  have m7_5 : w5.cell? ⟨v7, 5, none⟩ = some (.int .i64 r3) := cell_of_row w5 _ 5 _ _ _ Bk7
  have m7_6 : w5.cell? ⟨v7, 6, none⟩ = some (.int .i64 r4) := cell_of_row w5 _ 6 _ _ _ Bk7
  have m7_7 : w5.cell? ⟨v7, 7, none⟩ = some (.int .i64 r5) := cell_of_row w5 _ 7 _ _ _ Bk7
  have m7_8 : w5.cell? ⟨v7, 8, none⟩ = some (.int .i64 r6) := cell_of_row w5 _ 8 _ _ _ Bk7
  have m7_9 : w5.cell? ⟨v7, 9, none⟩ = some (.int .i64 r7) := cell_of_row w5 _ 9 _ _ _ Bk7
  have m7_10 : w5.cell? ⟨v7, 10, none⟩ = some (.slice AT xs.length cT) := cell_of_row w5 _ 10 _ _ _ Bk7
  have m0_0 : w5.cell? ⟨v0, 0, none⟩ = some (.slice A0 s0.M.W.length a0) := cell_of_row w5 _ 0 _ _ _ Bk0
  have m0_1 : w5.cell? ⟨v0, 1, none⟩ = some (.slice B0 s0.M.G.length b0) := cell_of_row w5 _ 1 _ _ _ Bk0
  have m0_2 : w5.cell? ⟨v0, 2, none⟩ = some (.bool s0.M.bad) := cell_of_row w5 _ 2 _ _ _ Bk0
  have m0_3 : w5.cell? ⟨v0, 3, none⟩ = some (.slice (some ⟨gC, oC, none⟩) s0.C.length c0) := cell_of_row w5 _ 3 _ _ _ Bk0
  have m0_4 : w5.cell? ⟨v0, 4, none⟩ = some (.slice L0 s0.L.length d0) := cell_of_row w5 _ 4 _ _ _ Bk0
  go_upto_region 8 with (fail)
  clear m7_0 m7_1 m7_2 m7_3 m7_4 m7_5 m7_6 m7_7 m7_8 m7_9 m7_10 m0_0 m0_1 m0_2 m0_3 m0_4
  clear Bk7 lt7
  have m0_0 : w5.cell? ⟨v0, 0, none⟩ = some (.slice A0 s0.M.W.length a0) := cell_of_row w5 _ 0 _ _ _ Bk0
  have m0_1 : w5.cell? ⟨v0, 1, none⟩ = some (.slice B0 s0.M.G.length b0) := cell_of_row w5 _ 1 _ _ _ Bk0
  have m0_2 : w5.cell? ⟨v0, 2, none⟩ = some (.bool s0.M.bad) := cell_of_row w5 _ 2 _ _ _ Bk0
  have m0_3 : w5.cell? ⟨v0, 3, none⟩ = some (.slice (some ⟨gC, oC, none⟩) s0.C.length c0) := cell_of_row w5 _ 3 _ _ _ Bk0
  have m0_4 : w5.cell? ⟨v0, 4, none⟩ = some (.slice L0 s0.L.length d0) := cell_of_row w5 _ 4 _ _ _ Bk0
  go_upto_region 9 with (go_at_call 31; (with_reducible refine (HS.out _ S0).mono ?_); rintro e w6 ⟨A9, B9, C9, L9, a9, b9, c9, d9, rfl, S9, hk9⟩)
  clear m0_0 m0_1 m0_2 m0_3 m0_4
  replace Bk0 := (hk9.block v0 lt0).trans Bk0
  replace lt0 := Nat.lt_of_lt_of_le lt0 hk9.size
  replace S0 := S0.step hk9
  replace hb := bstep hb hk9
  clear hk9
  have Bk9 := heap_alloc_new w6 (.cells #[.slice A9 s0.M.W.length a9, .slice B9 s0.M.G.length b9, .bool bad', .slice C9 s0.C.length c9, .slice L9 s0.L.length d9] 30)
  have lt9 : w6.heap.size < (w6.alloc (.cells #[.slice A9 s0.M.W.length a9, .slice B9 s0.M.G.length b9, .bool bad', .slice C9 s0.C.length c9, .slice L9 s0.L.length d9] 30)).heap.size := by simp
  have hk : Below w6.heap.size w6 (w6.alloc (.cells #[.slice A9 s0.M.W.length a9, .slice B9 s0.M.G.length b9, .bool bad', .slice C9 s0.C.length c9, .slice L9 s0.L.length d9] 30)) := boxed _ _
  replace Bk0 := (hk.block v0 lt0).trans Bk0
  replace lt0 := Nat.lt_of_lt_of_le lt0 hk.size
  replace S0 := S0.step hk
  replace S9 := S9.step hk
  replace hb := bstep hb hk
  clear hk
  obtain ⟨v9, hv⟩ : ∃ v, w6.heap.size = v := ⟨_, rfl⟩
  rw [hv] at Bk9 lt9 ⊢
  clear hv
  generalize (w6.alloc (.cells #[.slice A9 s0.M.W.length a9, .slice B9 s0.M.G.length b9, .bool bad', .slice C9 s0.C.length c9, .slice L9 s0.L.length d9] 30)) = w7 at *
  have HI := hid (show ∀ (w : World), Row w B9 s0.M.G → Row w B0 s0.M.G → Calls Try.prog 33 #[.slice B9 s0.M.G.length b9, .slice B0 s0.M.G.length b0] w fun e w' => e = .returned (.bool true) ∧ Below w.heap.size w w' from fun w k1 k2 => by have h9 := rints_any B9 B0 b9 b0 s0.M.G s0.M.G w k1 k2 (by have := HF.out.2.1; omega); rw [mInts_self] at h9; exact h9)
  have m0_0 : w7.cell? ⟨v0, 0, none⟩ = some (.slice A0 s0.M.W.length a0) := cell_of_row w7 _ 0 _ _ _ Bk0
  have m0_1 : w7.cell? ⟨v0, 1, none⟩ = some (.slice B0 s0.M.G.length b0) := cell_of_row w7 _ 1 _ _ _ Bk0
  have m0_2 : w7.cell? ⟨v0, 2, none⟩ = some (.bool s0.M.bad) := cell_of_row w7 _ 2 _ _ _ Bk0
  have m0_3 : w7.cell? ⟨v0, 3, none⟩ = some (.slice (some ⟨gC, oC, none⟩) s0.C.length c0) := cell_of_row w7 _ 3 _ _ _ Bk0
  have m0_4 : w7.cell? ⟨v0, 4, none⟩ = some (.slice L0 s0.L.length d0) := cell_of_row w7 _ 4 _ _ _ Bk0
  have m9_0 : w7.cell? ⟨v9, 0, none⟩ = some (.slice A9 s0.M.W.length a9) := cell_of_row w7 _ 0 _ _ _ Bk9
  have m9_1 : w7.cell? ⟨v9, 1, none⟩ = some (.slice B9 s0.M.G.length b9) := cell_of_row w7 _ 1 _ _ _ Bk9
  have m9_2 : w7.cell? ⟨v9, 2, none⟩ = some (.bool bad') := cell_of_row w7 _ 2 _ _ _ Bk9
  have m9_3 : w7.cell? ⟨v9, 3, none⟩ = some (.slice C9 s0.C.length c9) := cell_of_row w7 _ 3 _ _ _ Bk9
  have m9_4 : w7.cell? ⟨v9, 4, none⟩ = some (.slice L9 s0.L.length d9) := cell_of_row w7 _ 4 _ _ _ Bk9
  go_upto_region 11 with (go_at_call 33; (with_reducible refine (HI.out _ S9.G S0.G).mono ?_); rintro e w8 ⟨rfl, hk6⟩)
  clear m0_0 m0_1 m0_2 m0_3 m0_4 m9_0 m9_1 m9_2 m9_3 m9_4
  replace Bk0 := (hk6.block v0 lt0).trans Bk0
  replace lt0 := Nat.lt_of_lt_of_le lt0 hk6.size
  replace Bk9 := (hk6.block v9 lt9).trans Bk9
  replace lt9 := Nat.lt_of_lt_of_le lt9 hk6.size
  replace S0 := S0.step hk6
  replace S9 := S9.step hk6
  replace hb := bstep hb hk6
  clear hk6
  go_wp2_with fail
  have P0 := hid (show pPlace (k : Int) 0 = ((8 + 3 * k : Nat) : Int) by rw [pPlace_in (by omega) (by omega) (by omega) (by omega)]; omega)
  have P2 := hid (show pPlace (k : Int) 2 = ((8 + 3 * k + 2 : Nat) : Int) by rw [pPlace_in (by omega) (by omega) (by omega) (by omega)]; omega)
  have hwl : s0.M.W.length ≤ 1000000 := HF.out.1
  have HL1 := hid (show 1 ≤ s0.M.W.length by have h1 := HR.out.w; have h2 := HR.out.g2; omega)
  obtain ⟨bW, pW, rfl, hbW, hatW⟩ := S9.W (by have h1 := HWL.out; have h2 := HL1.out; show 0 < W'.length; omega)
  obtain ⟨bV, pV, rfl, hbV, hatV⟩ := S0.W (by have := HL1.out; omega)
  have m0_0 : w8.cell? ⟨v0, 0, none⟩ = some (.slice (some ⟨bV, pV, none⟩) s0.M.W.length a0) := cell_of_row w8 _ 0 _ _ _ Bk0
  have m0_1 : w8.cell? ⟨v0, 1, none⟩ = some (.slice B0 s0.M.G.length b0) := cell_of_row w8 _ 1 _ _ _ Bk0
  have m0_2 : w8.cell? ⟨v0, 2, none⟩ = some (.bool s0.M.bad) := cell_of_row w8 _ 2 _ _ _ Bk0
  have m0_3 : w8.cell? ⟨v0, 3, none⟩ = some (.slice (some ⟨gC, oC, none⟩) s0.C.length c0) := cell_of_row w8 _ 3 _ _ _ Bk0
  have m0_4 : w8.cell? ⟨v0, 4, none⟩ = some (.slice L0 s0.L.length d0) := cell_of_row w8 _ 4 _ _ _ Bk0
  have m9_0 : w8.cell? ⟨v9, 0, none⟩ = some (.slice (some ⟨bW, pW, none⟩) s0.M.W.length a9) := cell_of_row w8 _ 0 _ _ _ Bk9
  have m9_1 : w8.cell? ⟨v9, 1, none⟩ = some (.slice B9 s0.M.G.length b9) := cell_of_row w8 _ 1 _ _ _ Bk9
  have m9_2 : w8.cell? ⟨v9, 2, none⟩ = some (.bool bad') := cell_of_row w8 _ 2 _ _ _ Bk9
  have m9_3 : w8.cell? ⟨v9, 3, none⟩ = some (.slice C9 s0.C.length c9) := cell_of_row w8 _ 3 _ _ _ Bk9
  have m9_4 : w8.cell? ⟨v9, 4, none⟩ = some (.slice L9 s0.L.length d9) := cell_of_row w8 _ 4 _ _ _ Bk9
  go_loopw [10] (fun i wq => ∃ j : Nat, j ≤ s0.M.W.length ∧ i = .int .i64 j ∧ Below w8.heap.size w8 wq) (fun i _ => s0.M.W.length - (intOf i).toNat)
  case atStart => exact ⟨0, by omega, rfl, Below.refl _ _⟩
  case round =>
    obtain ⟨j, hj, rfl, hq2⟩ := hrel
    have m0_0q := (hq2.cell lt0).trans m0_0
    have m0_1q := (hq2.cell lt0).trans m0_1
    have m0_2q := (hq2.cell lt0).trans m0_2
    have m0_3q := (hq2.cell lt0).trans m0_3
    have m0_4q := (hq2.cell lt0).trans m0_4
    have m9_0q := (hq2.cell lt9).trans m9_0
    have m9_1q := (hq2.cell lt9).trans m9_1
    have m9_2q := (hq2.cell lt9).trans m9_2
    have m9_3q := (hq2.cell lt9).trans m9_3
    have m9_4q := (hq2.cell lt9).trans m9_4
    by_cases hjl : j < s0.M.W.length
    · have jl : (j : Int) < (s0.M.W.length : Int) := by omega
      have hjw : j < W'.length := by have := HWL.out; omega
      have cV := (hq2.cell hbV).trans (hatV j (s0.M.W.getD j 0) (by simp [List.getD, List.getElem?_eq_getElem hjl]))
      by_cases q : 8 + 3 * k ≤ j ∧ j ≤ 8 + 3 * k + 2
      · have cW := (hq2.cell hbW).trans (hatW j (W'.getD j 0) (by show W'[j]? = _; simp [List.getD, List.getElem?_eq_getElem hjw]))
        have dd0 : decide (pPlace (k : Int) 0 ≤ (j : Int)) = true := by rw [P0.out]; simp; omega
        have dd2 : decide ((j : Int) ≤ pPlace (k : Int) 2) = true := by rw [P2.out]; simp; omega
        go_wp2_with (go_at_call 25; (with_reducible refine (rplace_w _ _ _).mono ?_); rintro e wK ⟨rfl, rfl⟩)
        go_quiet (fail)
        go_wp2_with fail
        go_roundw
        case rel => exact ⟨j + 1, by omega, by go_num, bdrewN hq2 _⟩
        case measure => simp [intOf]; omega
      · by_cases q3 : 8 + 3 * k ≤ j
        · have cW := (hq2.cell hbW).trans (hatW j (s0.M.W.getD j 0) (by show W'[j]? = _; rw [HWS.out j q]; simp [List.getD, List.getElem?_eq_getElem hjl]))
          have dd0 : decide (pPlace (k : Int) 0 ≤ (j : Int)) = true := by rw [P0.out]; simp; omega
          have dd2 : decide ((j : Int) ≤ pPlace (k : Int) 2) = false := by rw [P2.out]; simp; omega
          go_wp2_with (go_at_call 25; (with_reducible refine (rplace_w _ _ _).mono ?_); rintro e wK ⟨rfl, rfl⟩)
          go_quiet (fail)
          go_wp2_with fail
          go_roundw
          case rel => exact ⟨j + 1, by omega, by go_num, bdrewN hq2 _⟩
          case measure => simp [intOf]; omega
        · have cW := (hq2.cell hbW).trans (hatW j (s0.M.W.getD j 0) (by show W'[j]? = _; rw [HWS.out j q]; simp [List.getD, List.getElem?_eq_getElem hjl]))
          have dd0 : decide (pPlace (k : Int) 0 ≤ (j : Int)) = false := by rw [P0.out]; simp; omega
          go_wp2_with (go_at_call 25; (with_reducible refine (rplace_w _ _ _).mono ?_); rintro e wK ⟨rfl, rfl⟩)
          go_quiet (fail)
          go_wp2_with fail
          go_roundw
          case rel => exact ⟨j + 1, by omega, by go_num, bdrewN hq2 _⟩
          case measure => simp [intOf]; omega
    · have jl : ¬ (j : Int) < (s0.M.W.length : Int) := by omega
      clear m0_0 m0_1 m0_2 m0_3 m0_4 m9_0 m9_1 m9_2 m9_3 m9_4
      replace Bk0 := (hq2.block v0 lt0).trans Bk0
      replace Bk9 := (hq2.block v9 lt9).trans Bk9
      replace lt0 := Nat.lt_of_lt_of_le lt0 hq2.size
      replace lt9 := Nat.lt_of_lt_of_le lt9 hq2.size
      replace S0 := S0.step hq2
      replace S9 := S9.step hq2
      replace hb := bstep hb hq2
      clear hq2 hatW hatV hbW hbV
      go_upto_region 17 with (fail)
      obtain ⟨gC2, oC2, eC2, hbl2, hat2⟩ := S0.C (by omega)
      injection eC2 with eC2
      injection eC2 with eC3 eC4
      subst eC3 eC4
      obtain ⟨AF, AR, cFq, cR, hcs, rF, rR, hcF⟩ := (hat2 k x HX.out).cs4
      clear hat2
      have y0 : wr.cell? ⟨gC, oC + k * 7, none⟩ = some (.slice AF x.F.length cFq) := hcs 0 _ rfl
      have y1 : wr.cell? ⟨gC, oC + k * 7 + 1, none⟩ = some (.int .i64 x.v) := hcs 1 _ rfl
      have y2 : wr.cell? ⟨gC, oC + k * 7 + 2, none⟩ = some (.int .i64 x.e) := hcs 2 _ rfl
      have y3 : wr.cell? ⟨gC, oC + k * 7 + 3, none⟩ = some (.int .i64 x.x0) := hcs 3 _ rfl
      have y4 : wr.cell? ⟨gC, oC + k * 7 + 4, none⟩ = some (.int .i64 x.x1) := hcs 4 _ rfl
      have y5 : wr.cell? ⟨gC, oC + k * 7 + 5, none⟩ = some (.int .i64 x.x2) := hcs 5 _ rfl
      have y6 : wr.cell? ⟨gC, oC + k * 7 + 6, none⟩ = some (.slice AR x.ret.length cR) := hcs 6 _ rfl
      clear hcs
      have p0 : wr.cell? ⟨v0, 0, none⟩ = some (.slice (some ⟨bV, pV, none⟩) s0.M.W.length a0) := cell_of_row wr _ 0 _ _ _ Bk0
      have p1 : wr.cell? ⟨v0, 1, none⟩ = some (.slice B0 s0.M.G.length b0) := cell_of_row wr _ 1 _ _ _ Bk0
      have p2 : wr.cell? ⟨v0, 2, none⟩ = some (.bool s0.M.bad) := cell_of_row wr _ 2 _ _ _ Bk0
      have p3 : wr.cell? ⟨v0, 3, none⟩ = some (.slice (some ⟨gC, oC, none⟩) s0.C.length c0) := cell_of_row wr _ 3 _ _ _ Bk0
      have p4 : wr.cell? ⟨v0, 4, none⟩ = some (.slice L0 s0.L.length d0) := cell_of_row wr _ 4 _ _ _ Bk0
      have q0 : wr.cell? ⟨v9, 0, none⟩ = some (.slice (some ⟨bW, pW, none⟩) s0.M.W.length a9) := cell_of_row wr _ 0 _ _ _ Bk9
      have q1 : wr.cell? ⟨v9, 1, none⟩ = some (.slice B9 s0.M.G.length b9) := cell_of_row wr _ 1 _ _ _ Bk9
      have q2 : wr.cell? ⟨v9, 2, none⟩ = some (.bool bad') := cell_of_row wr _ 2 _ _ _ Bk9
      have q3 : wr.cell? ⟨v9, 3, none⟩ = some (.slice C9 s0.C.length c9) := cell_of_row wr _ 3 _ _ _ Bk9
      have q4 : wr.cell? ⟨v9, 4, none⟩ = some (.slice L9 s0.L.length d9) := cell_of_row wr _ 4 _ _ _ Bk9
      have HM := hid (show ∀ (w : World), RS w (⟨⟨W', s0.M.G, bad'⟩, s0.C.set k x', s0.L⟩ : Sy) (some ⟨bW, pW, none⟩) B9 C9 L9 → RS w s0 (some ⟨bV, pV, none⟩) B0 (some ⟨gC, oC, none⟩) L0 → Calls Try.prog 35 #[.agg #[.slice (some ⟨bW, pW, none⟩) s0.M.W.length a9, .slice B9 s0.M.G.length b9, .bool bad', .slice C9 s0.C.length c9, .slice L9 s0.L.length d9], .agg #[.slice (some ⟨bV, pV, none⟩) s0.M.W.length a0, .slice B0 s0.M.G.length b0, .bool s0.M.bad]] w (fun e w' => e = .returned (.agg #[.slice (some ⟨bV, pV, none⟩) s0.M.W.length a0, .slice B0 s0.M.G.length b0, .bool s0.M.bad, .slice C9 s0.C.length c9, .slice L9 s0.L.length d9]) ∧ RS w' (⟨s0.M, s0.C.set k x', s0.L⟩ : Sy) (some ⟨bV, pV, none⟩) B0 C9 L9 ∧ Below w.heap.size w w') from fun w k1 k2 => by have h9 := rmem3_any (some ⟨bW, pW, none⟩) B9 C9 L9 (some ⟨bV, pV, none⟩) B0 a9 b9 c9 d9 a0 b0 (⟨⟨W', s0.M.G, bad'⟩, s0.C.set k x', s0.L⟩ : Sy) s0.M w k1 k2.W k2.G; simp only [List.length_set, HWL.out] at h9; exact h9)
      have HWI := hid (show ∀ (w : World), RS w (⟨s0.M, s0.C.set k x', s0.L⟩ : Sy) (some ⟨bV, pV, none⟩) B0 C9 L9 → RowF w AF x.F → Row w AR x.ret → Calls Try.prog 34 #[.agg #[.slice (some ⟨bV, pV, none⟩) s0.M.W.length a0, .slice B0 s0.M.G.length b0, .bool s0.M.bad, .slice C9 s0.C.length c9, .slice L9 s0.L.length d9], .int .i64 (k : Int), .agg #[.slice AF x.F.length cFq, .int .i64 x.v, .int .i64 x.e, .int .i64 x.x0, .int .i64 x.x1, .int .i64 x.x2, .slice AR x.ret.length cR]] w (RetSys w s0) from fun w k1 k2 k3 => by have h9 := rwith_any (some ⟨bV, pV, none⟩) B0 C9 L9 a0 b0 c9 d9 (⟨s0.M, s0.C.set k x', s0.L⟩ : Sy) k AF AR cFq cR x w k1.W k1.G k1.C k1.L (by simp only [List.length_set]; exact HF.out.2.2.1) k2 k3 (by simp only [List.length_set]; omega) hcF; simp only [List.length_set, syWith, List.set_set, set_self HX.out] at h9; exact h9)
      have HSS := hid (show ∀ (A1 B1 C1 L1 : Option Addr) (a1 b1 c1 d1 : Nat) (w : World), RS w s0 A1 B1 C1 L1 → RS w s0 (some ⟨bV, pV, none⟩) B0 (some ⟨gC, oC, none⟩) L0 → Calls Try.prog 20 #[.agg #[.slice A1 s0.M.W.length a1, .slice B1 s0.M.G.length b1, .bool s0.M.bad, .slice C1 s0.C.length c1, .slice L1 s0.L.length d1], .agg #[.slice (some ⟨bV, pV, none⟩) s0.M.W.length a0, .slice B0 s0.M.G.length b0, .bool s0.M.bad, .slice (some ⟨gC, oC, none⟩) s0.C.length c0, .slice L0 s0.L.length d0]] w fun e w' => e = .returned (.bool true) ∧ Below w.heap.size w w' from fun A1 B1 C1 L1 a1 b1 c1 d1 w k1 k2 => by have h9 := rsame_u A1 B1 C1 L1 (some ⟨bV, pV, none⟩) B0 (some ⟨gC, oC, none⟩) L0 a1 b1 c1 d1 a0 b0 c0 d0 s0 s0 w HF.out k1 k2; rw [sySame_self] at h9; exact h9)
      have KS := hid (show ∀ w', Below wr.heap.size wr w' → (w'.cell? ⟨v0, 0, none⟩ = some (.slice (some ⟨bV, pV, none⟩) s0.M.W.length a0) ∧ w'.cell? ⟨v0, 1, none⟩ = some (.slice B0 s0.M.G.length b0) ∧ w'.cell? ⟨v0, 2, none⟩ = some (.bool s0.M.bad) ∧ w'.cell? ⟨v0, 3, none⟩ = some (.slice (some ⟨gC, oC, none⟩) s0.C.length c0) ∧ w'.cell? ⟨v0, 4, none⟩ = some (.slice L0 s0.L.length d0) ∧ w'.cell? ⟨v9, 0, none⟩ = some (.slice (some ⟨bW, pW, none⟩) s0.M.W.length a9) ∧ w'.cell? ⟨v9, 1, none⟩ = some (.slice B9 s0.M.G.length b9) ∧ w'.cell? ⟨v9, 2, none⟩ = some (.bool bad') ∧ w'.cell? ⟨v9, 3, none⟩ = some (.slice C9 s0.C.length c9) ∧ w'.cell? ⟨v9, 4, none⟩ = some (.slice L9 s0.L.length d9) ∧ w'.cell? ⟨gC, oC + k * 7, none⟩ = some (.slice AF x.F.length cFq) ∧ w'.cell? ⟨gC, oC + k * 7 + 1, none⟩ = some (.int .i64 x.v) ∧ w'.cell? ⟨gC, oC + k * 7 + 2, none⟩ = some (.int .i64 x.e) ∧ w'.cell? ⟨gC, oC + k * 7 + 3, none⟩ = some (.int .i64 x.x0) ∧ w'.cell? ⟨gC, oC + k * 7 + 4, none⟩ = some (.int .i64 x.x1) ∧ w'.cell? ⟨gC, oC + k * 7 + 5, none⟩ = some (.int .i64 x.x2) ∧ w'.cell? ⟨gC, oC + k * 7 + 6, none⟩ = some (.slice AR x.ret.length cR)) from fun w' h => ⟨(h.cell lt0).trans p0, (h.cell lt0).trans p1, (h.cell lt0).trans p2, (h.cell lt0).trans p3, (h.cell lt0).trans p4, (h.cell lt9).trans q0, (h.cell lt9).trans q1, (h.cell lt9).trans q2, (h.cell lt9).trans q3, (h.cell lt9).trans q4, (h.cell hbl2).trans y0, (h.cell hbl2).trans y1, (h.cell hbl2).trans y2, (h.cell hbl2).trans y3, (h.cell hbl2).trans y4, (h.cell hbl2).trans y5, (h.cell hbl2).trans y6⟩)
      go_region_held3 (fun w' => w'.cell? ⟨v0, 0, none⟩ = some (.slice (some ⟨bV, pV, none⟩) s0.M.W.length a0) ∧ w'.cell? ⟨v0, 1, none⟩ = some (.slice B0 s0.M.G.length b0) ∧ w'.cell? ⟨v0, 2, none⟩ = some (.bool s0.M.bad) ∧ w'.cell? ⟨v0, 3, none⟩ = some (.slice (some ⟨gC, oC, none⟩) s0.C.length c0) ∧ w'.cell? ⟨v0, 4, none⟩ = some (.slice L0 s0.L.length d0) ∧ w'.cell? ⟨v9, 0, none⟩ = some (.slice (some ⟨bW, pW, none⟩) s0.M.W.length a9) ∧ w'.cell? ⟨v9, 1, none⟩ = some (.slice B9 s0.M.G.length b9) ∧ w'.cell? ⟨v9, 2, none⟩ = some (.bool bad') ∧ w'.cell? ⟨v9, 3, none⟩ = some (.slice C9 s0.C.length c9) ∧ w'.cell? ⟨v9, 4, none⟩ = some (.slice L9 s0.L.length d9) ∧ w'.cell? ⟨gC, oC + k * 7, none⟩ = some (.slice AF x.F.length cFq) ∧ w'.cell? ⟨gC, oC + k * 7 + 1, none⟩ = some (.int .i64 x.v) ∧ w'.cell? ⟨gC, oC + k * 7 + 2, none⟩ = some (.int .i64 x.e) ∧ w'.cell? ⟨gC, oC + k * 7 + 3, none⟩ = some (.int .i64 x.x0) ∧ w'.cell? ⟨gC, oC + k * 7 + 4, none⟩ = some (.int .i64 x.x1) ∧ w'.cell? ⟨gC, oC + k * 7 + 5, none⟩ = some (.int .i64 x.x2) ∧ w'.cell? ⟨gC, oC + k * 7 + 6, none⟩ = some (.slice AR x.ret.length cR)) (exact KS.out _ (by repeat (first | (with_reducible exact Below.refl _ _) | (with_reducible refine Below.drew ?_) | (with_reducible refine bstep ?_ (boxed _ _)) | (with_reducible refine bstep ?_ hk3) | (with_reducible refine bstep ?_ hk2) | (with_reducible refine bstep ?_ hk1))))
        (first | (go_at_call 35; (with_reducible refine (HM.out _ (S9.step (by repeat (first | (with_reducible exact Below.refl _ _) | (with_reducible refine Below.drew ?_) | (with_reducible refine bstep ?_ (boxed _ _)) | (with_reducible refine bstep ?_ hk3) | (with_reducible refine bstep ?_ hk2) | (with_reducible refine bstep ?_ hk1)))) (S0.step (by repeat (first | (with_reducible exact Below.refl _ _) | (with_reducible refine Below.drew ?_) | (with_reducible refine bstep ?_ (boxed _ _)) | (with_reducible refine bstep ?_ hk3) | (with_reducible refine bstep ?_ hk2) | (with_reducible refine bstep ?_ hk1))))).mono ?_); rintro e wk1 ⟨rfl, X1, hk1⟩) | (go_at_call 34; (with_reducible refine (HWI.out _ (X1.step (by repeat (first | (with_reducible exact Below.refl _ _) | (with_reducible refine Below.drew ?_) | (with_reducible refine bstep ?_ (boxed _ _)) | (with_reducible refine bstep ?_ hk3) | (with_reducible refine bstep ?_ hk2) | (with_reducible refine bstep ?_ hk1)))) (rF.step (by repeat (first | (with_reducible exact Below.refl _ _) | (with_reducible refine Below.drew ?_) | (with_reducible refine bstep ?_ (boxed _ _)) | (with_reducible refine bstep ?_ hk3) | (with_reducible refine bstep ?_ hk2) | (with_reducible refine bstep ?_ hk1)))) (rR.step (by repeat (first | (with_reducible exact Below.refl _ _) | (with_reducible refine Below.drew ?_) | (with_reducible refine bstep ?_ (boxed _ _)) | (with_reducible refine bstep ?_ hk3) | (with_reducible refine bstep ?_ hk2) | (with_reducible refine bstep ?_ hk1))))).mono ?_); rintro e wk2 ⟨A2, B2, C2, L2, a2, b2, c2, d2, rfl, x1, x2, x3, x4, hk2⟩; have X2 : RS wk2 s0 A2 B2 C2 L2 := ⟨x1, x2, x3, x4⟩; clear x1 x2 x3 x4) | (go_at_call 20; (with_reducible refine (HSS.out _ _ _ _ _ _ _ _ _ (X2.step (by repeat (first | (with_reducible exact Below.refl _ _) | (with_reducible refine Below.drew ?_) | (with_reducible refine bstep ?_ (boxed _ _)) | (with_reducible refine bstep ?_ hk3) | (with_reducible refine bstep ?_ hk2) | (with_reducible refine bstep ?_ hk1)))) (S0.step (by repeat (first | (with_reducible exact Below.refl _ _) | (with_reducible refine Below.drew ?_) | (with_reducible refine bstep ?_ (boxed _ _)) | (with_reducible refine bstep ?_ hk3) | (with_reducible refine bstep ?_ hk2) | (with_reducible refine bstep ?_ hk1))))).mono ?_); rintro e wk3 ⟨rfl, hk3⟩))
      have hbw : Below wr.heap.size wr wk3 := (by repeat (first | (with_reducible exact Below.refl _ _) | (with_reducible refine Below.drew ?_) | (with_reducible refine bstep ?_ (boxed _ _)) | (with_reducible refine bstep ?_ hk3) | (with_reducible refine bstep ?_ hk2) | (with_reducible refine bstep ?_ hk1)))
      go_wp2_with fail
      go_ret
      exact ⟨rfl, bstep hb hbw⟩

set_option maxRecDepth 100000 in
set_option maxHeartbeats 8000000 in
theorem walk_lo (A0 B0 C0 L0 : Option Addr) (a0 b0 c0 d0 : Nat) (s0 : Sy) (n1 : Int) (w0 : World) (u0 : 0 ≤ n1) (u1 : n1 ≤ 255)
    (rW : Row w0 A0 s0.M.W) (rG : Row w0 B0 s0.M.G) (rC : RowC w0 C0 s0.C) (rL : RowE w0 L0 s0.L) (g0 : s0.M.W.length ≤ maxLen) (g1 : s0.M.G.length ≤ maxLen) (g2 : s0.C.length ≤ maxLen) (g3 : s0.L.length ≤ maxLen) (hw : SyW s0) (q0 : syMays s0 = true) (hT : ∀ k : Nat, n1.tmod (s0.C.length : Int) = (k : Int) → ∃ (op pc r0 r1 r2 r3 r4 r5 r6 r7 : Int) (xs : List Int), pTop s0 (k : Int) = some ⟨op, pc, [r0, r1, r2, r3, r4, r5, r6, r7], xs⟩ ∧ xs.length ≤ 1000000 ∧ op = 3 ∧ r1 < 0) :
    Calls Try.prog 11 #[.agg #[.slice A0 s0.M.W.length a0, .slice B0 s0.M.G.length b0, .bool s0.M.bad, .slice C0 s0.C.length c0, .slice L0 s0.L.length d0], .int .u8 n1] w0 fun e w' => e = .returned (.bool true) ∧ Below w0.heap.size w0 w' := by
  have S0 : RS w0 s0 A0 B0 C0 L0 := ⟨rW, rG, rC, rL⟩
  have hb : Below w0.heap.size w0 w0 := Below.refl _ _
  have HC := rmay3_any A0 B0 C0 L0 a0 b0 c0 d0 s0
  rw [q0] at HC
  replace HC := hid (show ∀ w, RS w s0 A0 B0 C0 L0 → Calls Try.prog 23 #[.agg #[.slice A0 s0.M.W.length a0, .slice B0 s0.M.G.length b0, .bool s0.M.bad, .slice C0 s0.C.length c0, .slice L0 s0.L.length d0], .int .i64 60] w fun e w' => e = .returned (.bool true) ∧ Below w.heap.size w w' from fun w h => HC w h.G h.C g1 g0 g2 g3)
  clear rW rG rC rL g0 g1 g2 g3
  have HWD0 := hid hw
  clear hw
  go_enter Try.func11, Try.ntmps11
  go_upto_region 1 with (fail)
  have Bk0 := heap_alloc_new w0 (.cells #[.slice A0 s0.M.W.length a0, .slice B0 s0.M.G.length b0, .bool s0.M.bad, .slice C0 s0.C.length c0, .slice L0 s0.L.length d0] 30)
  have lt0 : w0.heap.size < (w0.alloc (.cells #[.slice A0 s0.M.W.length a0, .slice B0 s0.M.G.length b0, .bool s0.M.bad, .slice C0 s0.C.length c0, .slice L0 s0.L.length d0] 30)).heap.size := by simp
  have hk : Below w0.heap.size w0 (w0.alloc (.cells #[.slice A0 s0.M.W.length a0, .slice B0 s0.M.G.length b0, .bool s0.M.bad, .slice C0 s0.C.length c0, .slice L0 s0.L.length d0] 30)) := boxed _ _
  replace S0 := S0.step hk
  replace hb := bstep hb hk
  clear hk
  obtain ⟨v0, hv⟩ : ∃ v, w0.heap.size = v := ⟨_, rfl⟩
  rw [hv] at Bk0 lt0 ⊢
  clear hv
  generalize (w0.alloc (.cells #[.slice A0 s0.M.W.length a0, .slice B0 s0.M.G.length b0, .bool s0.M.bad, .slice C0 s0.C.length c0, .slice L0 s0.L.length d0] 30)) = w1 at *
  go_wp2_with fail
  refine (shown5_any _).mono ?_
  rintro e w2 ⟨rfl, hk⟩
  replace Bk0 := (hk.block v0 lt0).trans Bk0
  replace lt0 := Nat.lt_of_lt_of_le lt0 hk.size
  replace S0 := S0.step hk
  replace hb := bstep hb hk
  clear hk
  go_upto_region 2 with (fail)
  have m0_0 : w2.cell? ⟨v0, 0, none⟩ = some (.slice A0 s0.M.W.length a0) := cell_of_row w2 _ 0 _ _ _ Bk0
  have m0_1 : w2.cell? ⟨v0, 1, none⟩ = some (.slice B0 s0.M.G.length b0) := cell_of_row w2 _ 1 _ _ _ Bk0
  have m0_2 : w2.cell? ⟨v0, 2, none⟩ = some (.bool s0.M.bad) := cell_of_row w2 _ 2 _ _ _ Bk0
  have m0_3 : w2.cell? ⟨v0, 3, none⟩ = some (.slice C0 s0.C.length c0) := cell_of_row w2 _ 3 _ _ _ Bk0
  have m0_4 : w2.cell? ⟨v0, 4, none⟩ = some (.slice L0 s0.L.length d0) := cell_of_row w2 _ 4 _ _ _ Bk0
  go_upto_region 4 with (go_at_call 23; refine (HC.out _ S0).mono ?_; rintro e w3 ⟨rfl, hk⟩)
  clear m0_0 m0_1 m0_2 m0_3 m0_4
  replace Bk0 := (hk.block v0 lt0).trans Bk0
  replace lt0 := Nat.lt_of_lt_of_le lt0 hk.size
  replace S0 := S0.step hk
  replace hb := bstep hb hk
  clear hk
  clear HC
  have hmay : sySmall s0 = true ∧ syRight s0 = true := by simpa [syMays] using q0
  have HF := hid (few_of_small hmay.1)
  have hsm := sySmall_few hmay.1
  have hr := hmay.2
  simp only [syRight, Bool.and_eq_true, decide_eq_true_eq] at hr
  have HR := hid (Rt.of hr.1.1.1)
  obtain ⟨⟨⟨_, hc1⟩, hc8⟩, _⟩ := hr
  have HOK := hid (show Ok4 200 s0 from ⟨HF.out, HR.out.g2, hsm.2.2.2.1⟩)
  clear hmay q0 hsm
  obtain ⟨k, hk⟩ : ∃ k : Nat, n1.tmod (s0.C.length : Int) = (k : Int) := ⟨(n1.tmod (s0.C.length : Int)).toNat, by rw [Int.tmod_eq_emod_of_nonneg u0, Int.toNat_of_nonneg (Int.emod_nonneg _ (by omega))]⟩
  have hkl : k < s0.C.length := by have h9 := hk; rw [Int.tmod_eq_emod_of_nonneg u0] at h9; have := Int.emod_lt_of_pos n1 (show (0 : Int) < (s0.C.length : Int) by omega); omega
  obtain ⟨x, hx⟩ : ∃ x, s0.C[k]? = some x := ⟨_, List.getElem?_eq_getElem hkl⟩
  obtain ⟨gC, oC, eC, hbl, hat⟩ := S0.C (by omega)
  subst eC
  obtain ⟨AF, AR, cFq, cR, hcs, rF, rR, hcF⟩ := (hat k x hx).cs4
  clear hat
  have y0 : w3.cell? ⟨gC, oC + k * 7, none⟩ = some (.slice AF x.F.length cFq) := hcs 0 _ rfl
  have kl : (k : Int) < (s0.C.length : Int) := by omega
  have hne : ((s0.C.length : Int) == 0) = false := by rw [beq_eq_false_iff_ne]; omega
  have HX := hid hx
  clear hx hcs rF rR hcF
  have m0_0 : w3.cell? ⟨v0, 0, none⟩ = some (.slice A0 s0.M.W.length a0) := cell_of_row w3 _ 0 _ _ _ Bk0
  have m0_1 : w3.cell? ⟨v0, 1, none⟩ = some (.slice B0 s0.M.G.length b0) := cell_of_row w3 _ 1 _ _ _ Bk0
  have m0_2 : w3.cell? ⟨v0, 2, none⟩ = some (.bool s0.M.bad) := cell_of_row w3 _ 2 _ _ _ Bk0
  have m0_3 : w3.cell? ⟨v0, 3, none⟩ = some (.slice (some ⟨gC, oC, none⟩) s0.C.length c0) := cell_of_row w3 _ 3 _ _ _ Bk0
  have m0_4 : w3.cell? ⟨v0, 4, none⟩ = some (.slice L0 s0.L.length d0) := cell_of_row w3 _ 4 _ _ _ Bk0
  obtain ⟨op, pc, r0, r1, r2, r3, r4, r5, r6, r7, xs, hp, h6, hx9⟩ := hT k hk
  obtain ⟨rfl, hr1⟩ := hx9
  have o1 : decide (r1 < 0) = true := by simpa using hr1
  go_upto_region 6 with (go_at_call 15; (with_reducible refine (rtop_is A0 B0 (some ⟨gC, oC, none⟩) L0 a0 b0 c0 d0 s0 (k : Int) 3 pc r0 r1 r2 r3 r4 r5 r6 r7 xs _ HF.out S0 hp h6).mono ?_); rintro e w4 ⟨AT, cT, rfl, rT, hk5⟩)
  clear hp rT y0
  clear m0_0 m0_1 m0_2 m0_3 m0_4
  replace Bk0 := (hk5.block v0 lt0).trans Bk0
  replace lt0 := Nat.lt_of_lt_of_le lt0 hk5.size
  replace S0 := S0.step hk5
  replace hb := bstep hb hk5
  clear hk5
  have Bk7 := heap_alloc_new w4 (.cells #[.int .i64 3, .int .i64 pc, .int .i64 r0, .int .i64 r1, .int .i64 r2, .int .i64 r3, .int .i64 r4, .int .i64 r5, .int .i64 r6, .int .i64 r7, .slice AT xs.length cT] 38)
  have lt7 : w4.heap.size < (w4.alloc (.cells #[.int .i64 3, .int .i64 pc, .int .i64 r0, .int .i64 r1, .int .i64 r2, .int .i64 r3, .int .i64 r4, .int .i64 r5, .int .i64 r6, .int .i64 r7, .slice AT xs.length cT] 38)).heap.size := by simp
  have hk : Below w4.heap.size w4 (w4.alloc (.cells #[.int .i64 3, .int .i64 pc, .int .i64 r0, .int .i64 r1, .int .i64 r2, .int .i64 r3, .int .i64 r4, .int .i64 r5, .int .i64 r6, .int .i64 r7, .slice AT xs.length cT] 38)) := boxed _ _
  replace Bk0 := (hk.block v0 lt0).trans Bk0
  replace lt0 := Nat.lt_of_lt_of_le lt0 hk.size
  replace S0 := S0.step hk
  replace hb := bstep hb hk
  clear hk
  obtain ⟨v7, hv⟩ : ∃ v, w4.heap.size = v := ⟨_, rfl⟩
  rw [hv] at Bk7 lt7 ⊢
  clear hv
  generalize (w4.alloc (.cells #[.int .i64 3, .int .i64 pc, .int .i64 r0, .int .i64 r1, .int .i64 r2, .int .i64 r3, .int .i64 r4, .int .i64 r5, .int .i64 r6, .int .i64 r7, .slice AT xs.length cT] 38)) = w5 at *
  have m7_0 : w5.cell? ⟨v7, 0, none⟩ = some (.int .i64 3) := cell_of_row w5 _ 0 _ _ _ Bk7
  have m7_1 : w5.cell? ⟨v7, 1, none⟩ = some (.int .i64 pc) := cell_of_row w5 _ 1 _ _ _ Bk7
  have m7_2 : w5.cell? ⟨v7, 2, none⟩ = some (.int .i64 r0) := cell_of_row w5 _ 2 _ _ _ Bk7
  have m7_3 : w5.cell? ⟨v7, 3, none⟩ = some (.int .i64 r1) := cell_of_row w5 _ 3 _ _ _ Bk7
  have m7_4 : w5.cell? ⟨v7, 4, none⟩ = some (.int .i64 r2) := cell_of_row w5 _ 4 _ _ _ Bk7
  have m7_5 : w5.cell? ⟨v7, 5, none⟩ = some (.int .i64 r3) := cell_of_row w5 _ 5 _ _ _ Bk7
  have m7_6 : w5.cell? ⟨v7, 6, none⟩ = some (.int .i64 r4) := cell_of_row w5 _ 6 _ _ _ Bk7
  have m7_7 : w5.cell? ⟨v7, 7, none⟩ = some (.int .i64 r5) := cell_of_row w5 _ 7 _ _ _ Bk7
  have m7_8 : w5.cell? ⟨v7, 8, none⟩ = some (.int .i64 r6) := cell_of_row w5 _ 8 _ _ _ Bk7
  have m7_9 : w5.cell? ⟨v7, 9, none⟩ = some (.int .i64 r7) := cell_of_row w5 _ 9 _ _ _ Bk7
  have m7_10 : w5.cell? ⟨v7, 10, none⟩ = some (.slice AT xs.length cT) := cell_of_row w5 _ 10 _ _ _ Bk7
  go_wp2_with fail
  go_ret
  exact ⟨rfl, hb⟩

set_option maxRecDepth 100000 in
set_option maxHeartbeats 8000000 in
theorem walk_hi (A0 B0 C0 L0 : Option Addr) (a0 b0 c0 d0 : Nat) (s0 : Sy) (n1 : Int) (w0 : World) (u0 : 0 ≤ n1) (u1 : n1 ≤ 255)
    (rW : Row w0 A0 s0.M.W) (rG : Row w0 B0 s0.M.G) (rC : RowC w0 C0 s0.C) (rL : RowE w0 L0 s0.L) (g0 : s0.M.W.length ≤ maxLen) (g1 : s0.M.G.length ≤ maxLen) (g2 : s0.C.length ≤ maxLen) (g3 : s0.L.length ≤ maxLen) (hw : SyW s0) (q0 : syMays s0 = true) (hT : ∀ k : Nat, n1.tmod (s0.C.length : Int) = (k : Int) → ∃ (op pc r0 r1 r2 r3 r4 r5 r6 r7 : Int) (xs : List Int), pTop s0 (k : Int) = some ⟨op, pc, [r0, r1, r2, r3, r4, r5, r6, r7], xs⟩ ∧ xs.length ≤ 1000000 ∧ op = 3 ∧ 2 < r1) :
    Calls Try.prog 11 #[.agg #[.slice A0 s0.M.W.length a0, .slice B0 s0.M.G.length b0, .bool s0.M.bad, .slice C0 s0.C.length c0, .slice L0 s0.L.length d0], .int .u8 n1] w0 fun e w' => e = .returned (.bool true) ∧ Below w0.heap.size w0 w' := by
  have S0 : RS w0 s0 A0 B0 C0 L0 := ⟨rW, rG, rC, rL⟩
  have hb : Below w0.heap.size w0 w0 := Below.refl _ _
  have HC := rmay3_any A0 B0 C0 L0 a0 b0 c0 d0 s0
  rw [q0] at HC
  replace HC := hid (show ∀ w, RS w s0 A0 B0 C0 L0 → Calls Try.prog 23 #[.agg #[.slice A0 s0.M.W.length a0, .slice B0 s0.M.G.length b0, .bool s0.M.bad, .slice C0 s0.C.length c0, .slice L0 s0.L.length d0], .int .i64 60] w fun e w' => e = .returned (.bool true) ∧ Below w.heap.size w w' from fun w h => HC w h.G h.C g1 g0 g2 g3)
  clear rW rG rC rL g0 g1 g2 g3
  have HWD0 := hid hw
  clear hw
  go_enter Try.func11, Try.ntmps11
  go_upto_region 1 with (fail)
  have Bk0 := heap_alloc_new w0 (.cells #[.slice A0 s0.M.W.length a0, .slice B0 s0.M.G.length b0, .bool s0.M.bad, .slice C0 s0.C.length c0, .slice L0 s0.L.length d0] 30)
  have lt0 : w0.heap.size < (w0.alloc (.cells #[.slice A0 s0.M.W.length a0, .slice B0 s0.M.G.length b0, .bool s0.M.bad, .slice C0 s0.C.length c0, .slice L0 s0.L.length d0] 30)).heap.size := by simp
  have hk : Below w0.heap.size w0 (w0.alloc (.cells #[.slice A0 s0.M.W.length a0, .slice B0 s0.M.G.length b0, .bool s0.M.bad, .slice C0 s0.C.length c0, .slice L0 s0.L.length d0] 30)) := boxed _ _
  replace S0 := S0.step hk
  replace hb := bstep hb hk
  clear hk
  obtain ⟨v0, hv⟩ : ∃ v, w0.heap.size = v := ⟨_, rfl⟩
  rw [hv] at Bk0 lt0 ⊢
  clear hv
  generalize (w0.alloc (.cells #[.slice A0 s0.M.W.length a0, .slice B0 s0.M.G.length b0, .bool s0.M.bad, .slice C0 s0.C.length c0, .slice L0 s0.L.length d0] 30)) = w1 at *
  go_wp2_with fail
  refine (shown5_any _).mono ?_
  rintro e w2 ⟨rfl, hk⟩
  replace Bk0 := (hk.block v0 lt0).trans Bk0
  replace lt0 := Nat.lt_of_lt_of_le lt0 hk.size
  replace S0 := S0.step hk
  replace hb := bstep hb hk
  clear hk
  go_upto_region 2 with (fail)
  have m0_0 : w2.cell? ⟨v0, 0, none⟩ = some (.slice A0 s0.M.W.length a0) := cell_of_row w2 _ 0 _ _ _ Bk0
  have m0_1 : w2.cell? ⟨v0, 1, none⟩ = some (.slice B0 s0.M.G.length b0) := cell_of_row w2 _ 1 _ _ _ Bk0
  have m0_2 : w2.cell? ⟨v0, 2, none⟩ = some (.bool s0.M.bad) := cell_of_row w2 _ 2 _ _ _ Bk0
  have m0_3 : w2.cell? ⟨v0, 3, none⟩ = some (.slice C0 s0.C.length c0) := cell_of_row w2 _ 3 _ _ _ Bk0
  have m0_4 : w2.cell? ⟨v0, 4, none⟩ = some (.slice L0 s0.L.length d0) := cell_of_row w2 _ 4 _ _ _ Bk0
  go_upto_region 4 with (go_at_call 23; refine (HC.out _ S0).mono ?_; rintro e w3 ⟨rfl, hk⟩)
  clear m0_0 m0_1 m0_2 m0_3 m0_4
  replace Bk0 := (hk.block v0 lt0).trans Bk0
  replace lt0 := Nat.lt_of_lt_of_le lt0 hk.size
  replace S0 := S0.step hk
  replace hb := bstep hb hk
  clear hk
  clear HC
  have hmay : sySmall s0 = true ∧ syRight s0 = true := by simpa [syMays] using q0
  have HF := hid (few_of_small hmay.1)
  have hsm := sySmall_few hmay.1
  have hr := hmay.2
  simp only [syRight, Bool.and_eq_true, decide_eq_true_eq] at hr
  have HR := hid (Rt.of hr.1.1.1)
  obtain ⟨⟨⟨_, hc1⟩, hc8⟩, _⟩ := hr
  have HOK := hid (show Ok4 200 s0 from ⟨HF.out, HR.out.g2, hsm.2.2.2.1⟩)
  clear hmay q0 hsm
  obtain ⟨k, hk⟩ : ∃ k : Nat, n1.tmod (s0.C.length : Int) = (k : Int) := ⟨(n1.tmod (s0.C.length : Int)).toNat, by rw [Int.tmod_eq_emod_of_nonneg u0, Int.toNat_of_nonneg (Int.emod_nonneg _ (by omega))]⟩
  have hkl : k < s0.C.length := by have h9 := hk; rw [Int.tmod_eq_emod_of_nonneg u0] at h9; have := Int.emod_lt_of_pos n1 (show (0 : Int) < (s0.C.length : Int) by omega); omega
  obtain ⟨x, hx⟩ : ∃ x, s0.C[k]? = some x := ⟨_, List.getElem?_eq_getElem hkl⟩
  obtain ⟨gC, oC, eC, hbl, hat⟩ := S0.C (by omega)
  subst eC
  obtain ⟨AF, AR, cFq, cR, hcs, rF, rR, hcF⟩ := (hat k x hx).cs4
  clear hat
  have y0 : w3.cell? ⟨gC, oC + k * 7, none⟩ = some (.slice AF x.F.length cFq) := hcs 0 _ rfl
  have kl : (k : Int) < (s0.C.length : Int) := by omega
  have hne : ((s0.C.length : Int) == 0) = false := by rw [beq_eq_false_iff_ne]; omega
  have HX := hid hx
  clear hx hcs rF rR hcF
  have m0_0 : w3.cell? ⟨v0, 0, none⟩ = some (.slice A0 s0.M.W.length a0) := cell_of_row w3 _ 0 _ _ _ Bk0
  have m0_1 : w3.cell? ⟨v0, 1, none⟩ = some (.slice B0 s0.M.G.length b0) := cell_of_row w3 _ 1 _ _ _ Bk0
  have m0_2 : w3.cell? ⟨v0, 2, none⟩ = some (.bool s0.M.bad) := cell_of_row w3 _ 2 _ _ _ Bk0
  have m0_3 : w3.cell? ⟨v0, 3, none⟩ = some (.slice (some ⟨gC, oC, none⟩) s0.C.length c0) := cell_of_row w3 _ 3 _ _ _ Bk0
  have m0_4 : w3.cell? ⟨v0, 4, none⟩ = some (.slice L0 s0.L.length d0) := cell_of_row w3 _ 4 _ _ _ Bk0
  obtain ⟨op, pc, r0, r1, r2, r3, r4, r5, r6, r7, xs, hp, h6, hx9⟩ := hT k hk
  obtain ⟨rfl, hr1⟩ := hx9
  have o1 : decide (r1 < 0) = false := by simp; omega
  have o2 : decide (2 < r1) = true := by simpa using hr1
  go_upto_region 6 with (go_at_call 15; (with_reducible refine (rtop_is A0 B0 (some ⟨gC, oC, none⟩) L0 a0 b0 c0 d0 s0 (k : Int) 3 pc r0 r1 r2 r3 r4 r5 r6 r7 xs _ HF.out S0 hp h6).mono ?_); rintro e w4 ⟨AT, cT, rfl, rT, hk5⟩)
  clear hp rT y0
  clear m0_0 m0_1 m0_2 m0_3 m0_4
  replace Bk0 := (hk5.block v0 lt0).trans Bk0
  replace lt0 := Nat.lt_of_lt_of_le lt0 hk5.size
  replace S0 := S0.step hk5
  replace hb := bstep hb hk5
  clear hk5
  have Bk7 := heap_alloc_new w4 (.cells #[.int .i64 3, .int .i64 pc, .int .i64 r0, .int .i64 r1, .int .i64 r2, .int .i64 r3, .int .i64 r4, .int .i64 r5, .int .i64 r6, .int .i64 r7, .slice AT xs.length cT] 38)
  have lt7 : w4.heap.size < (w4.alloc (.cells #[.int .i64 3, .int .i64 pc, .int .i64 r0, .int .i64 r1, .int .i64 r2, .int .i64 r3, .int .i64 r4, .int .i64 r5, .int .i64 r6, .int .i64 r7, .slice AT xs.length cT] 38)).heap.size := by simp
  have hk : Below w4.heap.size w4 (w4.alloc (.cells #[.int .i64 3, .int .i64 pc, .int .i64 r0, .int .i64 r1, .int .i64 r2, .int .i64 r3, .int .i64 r4, .int .i64 r5, .int .i64 r6, .int .i64 r7, .slice AT xs.length cT] 38)) := boxed _ _
  replace Bk0 := (hk.block v0 lt0).trans Bk0
  replace lt0 := Nat.lt_of_lt_of_le lt0 hk.size
  replace S0 := S0.step hk
  replace hb := bstep hb hk
  clear hk
  obtain ⟨v7, hv⟩ : ∃ v, w4.heap.size = v := ⟨_, rfl⟩
  rw [hv] at Bk7 lt7 ⊢
  clear hv
  generalize (w4.alloc (.cells #[.int .i64 3, .int .i64 pc, .int .i64 r0, .int .i64 r1, .int .i64 r2, .int .i64 r3, .int .i64 r4, .int .i64 r5, .int .i64 r6, .int .i64 r7, .slice AT xs.length cT] 38)) = w5 at *
  have m7_0 : w5.cell? ⟨v7, 0, none⟩ = some (.int .i64 3) := cell_of_row w5 _ 0 _ _ _ Bk7
  have m7_1 : w5.cell? ⟨v7, 1, none⟩ = some (.int .i64 pc) := cell_of_row w5 _ 1 _ _ _ Bk7
  have m7_2 : w5.cell? ⟨v7, 2, none⟩ = some (.int .i64 r0) := cell_of_row w5 _ 2 _ _ _ Bk7
  have m7_3 : w5.cell? ⟨v7, 3, none⟩ = some (.int .i64 r1) := cell_of_row w5 _ 3 _ _ _ Bk7
  have m7_4 : w5.cell? ⟨v7, 4, none⟩ = some (.int .i64 r2) := cell_of_row w5 _ 4 _ _ _ Bk7
  have m7_5 : w5.cell? ⟨v7, 5, none⟩ = some (.int .i64 r3) := cell_of_row w5 _ 5 _ _ _ Bk7
  have m7_6 : w5.cell? ⟨v7, 6, none⟩ = some (.int .i64 r4) := cell_of_row w5 _ 6 _ _ _ Bk7
  have m7_7 : w5.cell? ⟨v7, 7, none⟩ = some (.int .i64 r5) := cell_of_row w5 _ 7 _ _ _ Bk7
  have m7_8 : w5.cell? ⟨v7, 8, none⟩ = some (.int .i64 r6) := cell_of_row w5 _ 8 _ _ _ Bk7
  have m7_9 : w5.cell? ⟨v7, 9, none⟩ = some (.int .i64 r7) := cell_of_row w5 _ 9 _ _ _ Bk7
  have m7_10 : w5.cell? ⟨v7, 10, none⟩ = some (.slice AT xs.length cT) := cell_of_row w5 _ 10 _ _ _ Bk7
  go_wp2_with fail
  go_ret
  exact ⟨rfl, hb⟩

set_option maxRecDepth 100000 in
set_option maxHeartbeats 8000000 in
theorem walk_in (A0 B0 C0 L0 : Option Addr) (a0 b0 c0 d0 : Nat) (s0 : Sy) (n1 : Int) (w0 : World) (u0 : 0 ≤ n1) (u1 : n1 ≤ 255)
    (rW : Row w0 A0 s0.M.W) (rG : Row w0 B0 s0.M.G) (rC : RowC w0 C0 s0.C) (rL : RowE w0 L0 s0.L) (g0 : s0.M.W.length ≤ maxLen) (g1 : s0.M.G.length ≤ maxLen) (g2 : s0.C.length ≤ maxLen) (g3 : s0.L.length ≤ maxLen) (hw : SyW s0) (q0 : syMays s0 = true) (hT : ∀ k : Nat, n1.tmod (s0.C.length : Int) = (k : Int) → ∃ (op pc r0 r1 r2 r3 r4 r5 r6 r7 : Int) (xs : List Int), pTop s0 (k : Int) = some ⟨op, pc, [r0, r1, r2, r3, r4, r5, r6, r7], xs⟩ ∧ xs.length ≤ 1000000 ∧ op = 3 ∧ 0 ≤ r1 ∧ r1 ≤ 2) :
    Calls Try.prog 11 #[.agg #[.slice A0 s0.M.W.length a0, .slice B0 s0.M.G.length b0, .bool s0.M.bad, .slice C0 s0.C.length c0, .slice L0 s0.L.length d0], .int .u8 n1] w0 fun e w' => e = .returned (.bool true) ∧ Below w0.heap.size w0 w' := by
  have S0 : RS w0 s0 A0 B0 C0 L0 := ⟨rW, rG, rC, rL⟩
  have hb : Below w0.heap.size w0 w0 := Below.refl _ _
  have HC := rmay3_any A0 B0 C0 L0 a0 b0 c0 d0 s0
  rw [q0] at HC
  replace HC := hid (show ∀ w, RS w s0 A0 B0 C0 L0 → Calls Try.prog 23 #[.agg #[.slice A0 s0.M.W.length a0, .slice B0 s0.M.G.length b0, .bool s0.M.bad, .slice C0 s0.C.length c0, .slice L0 s0.L.length d0], .int .i64 60] w fun e w' => e = .returned (.bool true) ∧ Below w.heap.size w w' from fun w h => HC w h.G h.C g1 g0 g2 g3)
  clear rW rG rC rL g0 g1 g2 g3
  have HWD0 := hid hw
  clear hw
  go_enter Try.func11, Try.ntmps11
  go_upto_region 1 with (fail)
  have Bk0 := heap_alloc_new w0 (.cells #[.slice A0 s0.M.W.length a0, .slice B0 s0.M.G.length b0, .bool s0.M.bad, .slice C0 s0.C.length c0, .slice L0 s0.L.length d0] 30)
  have lt0 : w0.heap.size < (w0.alloc (.cells #[.slice A0 s0.M.W.length a0, .slice B0 s0.M.G.length b0, .bool s0.M.bad, .slice C0 s0.C.length c0, .slice L0 s0.L.length d0] 30)).heap.size := by simp
  have hk : Below w0.heap.size w0 (w0.alloc (.cells #[.slice A0 s0.M.W.length a0, .slice B0 s0.M.G.length b0, .bool s0.M.bad, .slice C0 s0.C.length c0, .slice L0 s0.L.length d0] 30)) := boxed _ _
  replace S0 := S0.step hk
  replace hb := bstep hb hk
  clear hk
  obtain ⟨v0, hv⟩ : ∃ v, w0.heap.size = v := ⟨_, rfl⟩
  rw [hv] at Bk0 lt0 ⊢
  clear hv
  generalize (w0.alloc (.cells #[.slice A0 s0.M.W.length a0, .slice B0 s0.M.G.length b0, .bool s0.M.bad, .slice C0 s0.C.length c0, .slice L0 s0.L.length d0] 30)) = w1 at *
  go_wp2_with fail
  refine (shown5_any _).mono ?_
  rintro e w2 ⟨rfl, hk⟩
  replace Bk0 := (hk.block v0 lt0).trans Bk0
  replace lt0 := Nat.lt_of_lt_of_le lt0 hk.size
  replace S0 := S0.step hk
  replace hb := bstep hb hk
  clear hk
  go_upto_region 2 with (fail)
  have m0_0 : w2.cell? ⟨v0, 0, none⟩ = some (.slice A0 s0.M.W.length a0) := cell_of_row w2 _ 0 _ _ _ Bk0
  have m0_1 : w2.cell? ⟨v0, 1, none⟩ = some (.slice B0 s0.M.G.length b0) := cell_of_row w2 _ 1 _ _ _ Bk0
  have m0_2 : w2.cell? ⟨v0, 2, none⟩ = some (.bool s0.M.bad) := cell_of_row w2 _ 2 _ _ _ Bk0
  have m0_3 : w2.cell? ⟨v0, 3, none⟩ = some (.slice C0 s0.C.length c0) := cell_of_row w2 _ 3 _ _ _ Bk0
  have m0_4 : w2.cell? ⟨v0, 4, none⟩ = some (.slice L0 s0.L.length d0) := cell_of_row w2 _ 4 _ _ _ Bk0
  go_upto_region 4 with (go_at_call 23; refine (HC.out _ S0).mono ?_; rintro e w3 ⟨rfl, hk⟩)
  clear m0_0 m0_1 m0_2 m0_3 m0_4
  replace Bk0 := (hk.block v0 lt0).trans Bk0
  replace lt0 := Nat.lt_of_lt_of_le lt0 hk.size
  replace S0 := S0.step hk
  replace hb := bstep hb hk
  clear hk
  clear HC
  have hmay : sySmall s0 = true ∧ syRight s0 = true := by simpa [syMays] using q0
  have HF := hid (few_of_small hmay.1)
  have hsm := sySmall_few hmay.1
  have hr := hmay.2
  simp only [syRight, Bool.and_eq_true, decide_eq_true_eq] at hr
  have HR := hid (Rt.of hr.1.1.1)
  obtain ⟨⟨⟨_, hc1⟩, hc8⟩, _⟩ := hr
  have HOK := hid (show Ok4 200 s0 from ⟨HF.out, HR.out.g2, hsm.2.2.2.1⟩)
  clear hmay q0 hsm
  obtain ⟨k, hk⟩ : ∃ k : Nat, n1.tmod (s0.C.length : Int) = (k : Int) := ⟨(n1.tmod (s0.C.length : Int)).toNat, by rw [Int.tmod_eq_emod_of_nonneg u0, Int.toNat_of_nonneg (Int.emod_nonneg _ (by omega))]⟩
  have hkl : k < s0.C.length := by have h9 := hk; rw [Int.tmod_eq_emod_of_nonneg u0] at h9; have := Int.emod_lt_of_pos n1 (show (0 : Int) < (s0.C.length : Int) by omega); omega
  obtain ⟨x, hx⟩ : ∃ x, s0.C[k]? = some x := ⟨_, List.getElem?_eq_getElem hkl⟩
  obtain ⟨gC, oC, eC, hbl, hat⟩ := S0.C (by omega)
  subst eC
  obtain ⟨AF, AR, cFq, cR, hcs, rF, rR, hcF⟩ := (hat k x hx).cs4
  clear hat
  have y0 : w3.cell? ⟨gC, oC + k * 7, none⟩ = some (.slice AF x.F.length cFq) := hcs 0 _ rfl
  have kl : (k : Int) < (s0.C.length : Int) := by omega
  have hne : ((s0.C.length : Int) == 0) = false := by rw [beq_eq_false_iff_ne]; omega
  have HX := hid hx
  clear hx hcs rF rR hcF
  have m0_0 : w3.cell? ⟨v0, 0, none⟩ = some (.slice A0 s0.M.W.length a0) := cell_of_row w3 _ 0 _ _ _ Bk0
  have m0_1 : w3.cell? ⟨v0, 1, none⟩ = some (.slice B0 s0.M.G.length b0) := cell_of_row w3 _ 1 _ _ _ Bk0
  have m0_2 : w3.cell? ⟨v0, 2, none⟩ = some (.bool s0.M.bad) := cell_of_row w3 _ 2 _ _ _ Bk0
  have m0_3 : w3.cell? ⟨v0, 3, none⟩ = some (.slice (some ⟨gC, oC, none⟩) s0.C.length c0) := cell_of_row w3 _ 3 _ _ _ Bk0
  have m0_4 : w3.cell? ⟨v0, 4, none⟩ = some (.slice L0 s0.L.length d0) := cell_of_row w3 _ 4 _ _ _ Bk0
  obtain ⟨op, pc, r0, r1, r2, r3, r4, r5, r6, r7, xs, hp, h6, hx9⟩ := hT k hk
  obtain ⟨rfl, hr1, hr2⟩ := hx9
  have o1 : decide (r1 < 0) = false := by simp; omega
  have o2 : decide (2 < r1) = false := by simp; omega
  have hSh : Shape5 s0 k (pHaz s0 (k : Int)) := haz_shape HX.out (by omega) (by have h1 := HR.out.w; have h2 := HR.out.g2; omega) (fun f hf ho => by rw [hp] at hf; obtain rfl := Option.some.inj hf; exact ⟨by simpa using hr1, by simpa using hr2⟩)
  obtain ⟨W', bad', x', hT1, hWl, hWs⟩ := hSh
  have HS := hid (show ∀ (w : World), RS w s0 A0 B0 (some ⟨gC, oC, none⟩) L0 → Calls Try.prog 31 #[.agg #[.slice A0 s0.M.W.length a0, .slice B0 s0.M.G.length b0, .bool s0.M.bad, .slice (some ⟨gC, oC, none⟩) s0.C.length c0, .slice L0 s0.L.length d0], .int .i64 (k : Int)] w (fun e w' => ∃ (A B C L : Option Addr) (a b c d : Nat), e = .returned (.agg #[.slice A s0.M.W.length a, .slice B s0.M.G.length b, .bool bad', .slice C s0.C.length c, .slice L s0.L.length d]) ∧ RS w' (⟨⟨W', s0.M.G, bad'⟩, s0.C.set k x', s0.L⟩ : Sy) A B C L ∧ Below w.heap.size w w') from fun w h => by have h9 := hstep_any A0 B0 (some ⟨gC, oC, none⟩) L0 a0 b0 c0 d0 s0 (k : Int) w HF.out HR.out.g2 h (fun f hf => top_W HWD0.out hf); rw [hT1] at h9; exact h9.mono (fun e w' hN => by obtain ⟨A, B, C, L, a, b, c, d, he, q1, q2, q3, q4, q5⟩ := hN.weak; refine ⟨A, B, C, L, a, b, c, d, ?_, ⟨q1, q2, q3, q4⟩, q5⟩; rw [he]; simp only [List.length_set, hWl]))
  have HWS := hid hWs
  have HWL := hid hWl
  clear hT1 hWs hWl
  go_upto_region 6 with (go_at_call 15; (with_reducible refine (rtop_is A0 B0 (some ⟨gC, oC, none⟩) L0 a0 b0 c0 d0 s0 (k : Int) 3 pc r0 r1 r2 r3 r4 r5 r6 r7 xs _ HF.out S0 hp h6).mono ?_); rintro e w4 ⟨AT, cT, rfl, rT, hk5⟩)
  clear hp rT y0
  clear m0_0 m0_1 m0_2 m0_3 m0_4
  replace Bk0 := (hk5.block v0 lt0).trans Bk0
  replace lt0 := Nat.lt_of_lt_of_le lt0 hk5.size
  replace S0 := S0.step hk5
  replace hb := bstep hb hk5
  clear hk5
  have Bk7 := heap_alloc_new w4 (.cells #[.int .i64 3, .int .i64 pc, .int .i64 r0, .int .i64 r1, .int .i64 r2, .int .i64 r3, .int .i64 r4, .int .i64 r5, .int .i64 r6, .int .i64 r7, .slice AT xs.length cT] 38)
  have lt7 : w4.heap.size < (w4.alloc (.cells #[.int .i64 3, .int .i64 pc, .int .i64 r0, .int .i64 r1, .int .i64 r2, .int .i64 r3, .int .i64 r4, .int .i64 r5, .int .i64 r6, .int .i64 r7, .slice AT xs.length cT] 38)).heap.size := by simp
  have hk : Below w4.heap.size w4 (w4.alloc (.cells #[.int .i64 3, .int .i64 pc, .int .i64 r0, .int .i64 r1, .int .i64 r2, .int .i64 r3, .int .i64 r4, .int .i64 r5, .int .i64 r6, .int .i64 r7, .slice AT xs.length cT] 38)) := boxed _ _
  replace Bk0 := (hk.block v0 lt0).trans Bk0
  replace lt0 := Nat.lt_of_lt_of_le lt0 hk.size
  replace S0 := S0.step hk
  replace hb := bstep hb hk
  clear hk
  obtain ⟨v7, hv⟩ : ∃ v, w4.heap.size = v := ⟨_, rfl⟩
  rw [hv] at Bk7 lt7 ⊢
  clear hv
  generalize (w4.alloc (.cells #[.int .i64 3, .int .i64 pc, .int .i64 r0, .int .i64 r1, .int .i64 r2, .int .i64 r3, .int .i64 r4, .int .i64 r5, .int .i64 r6, .int .i64 r7, .slice AT xs.length cT] 38)) = w5 at *
  have m7_0 : w5.cell? ⟨v7, 0, none⟩ = some (.int .i64 3) := cell_of_row w5 _ 0 _ _ _ Bk7
  have m7_1 : w5.cell? ⟨v7, 1, none⟩ = some (.int .i64 pc) := cell_of_row w5 _ 1 _ _ _ Bk7
  have m7_2 : w5.cell? ⟨v7, 2, none⟩ = some (.int .i64 r0) := cell_of_row w5 _ 2 _ _ _ Bk7
  have m7_3 : w5.cell? ⟨v7, 3, none⟩ = some (.int .i64 r1) := cell_of_row w5 _ 3 _ _ _ Bk7
  have m7_4 : w5.cell? ⟨v7, 4, none⟩ = some (.int .i64 r2) := cell_of_row w5 _ 4 _ _ _ Bk7
  have m7_5 : w5.cell? ⟨v7, 5, none⟩ = some (.int .i64 r3) := cell_of_row w5 _ 5 _ _ _ Bk7
  have m7_6 : w5.cell? ⟨v7, 6, none⟩ = some (.int .i64 r4) := cell_of_row w5 _ 6 _ _ _ Bk7
  have m7_7 : w5.cell? ⟨v7, 7, none⟩ = some (.int .i64 r5) := cell_of_row w5 _ 7 _ _ _ Bk7
  have m7_8 : w5.cell? ⟨v7, 8, none⟩ = some (.int .i64 r6) := cell_of_row w5 _ 8 _ _ _ Bk7
  have m7_9 : w5.cell? ⟨v7, 9, none⟩ = some (.int .i64 r7) := cell_of_row w5 _ 9 _ _ _ Bk7
  have m7_10 : w5.cell? ⟨v7, 10, none⟩ = some (.slice AT xs.length cT) := cell_of_row w5 _ 10 _ _ _ Bk7
  clear m7_0 m7_1 m7_2 m7_3 m7_4 m7_5 m7_6 m7_7 m7_8 m7_9 m7_10
  have m7_0 : w5.cell? ⟨v7, 0, none⟩ = some (.int .i64 3) := cell_of_row w5 _ 0 _ _ _ Bk7
  have m7_1 : w5.cell? ⟨v7, 1, none⟩ = some (.int .i64 pc) := cell_of_row w5 _ 1 _ _ _ Bk7
  have m7_2 : w5.cell? ⟨v7, 2, none⟩ = some (.int .i64 r0) := cell_of_row w5 _ 2 _ _ _ Bk7
  have m7_3 : w5.cell? ⟨v7, 3, none⟩ = some (.int .i64 r1) := cell_of_row w5 _ 3 _ _ _ Bk7
  have m7_4 : w5.cell? ⟨v7, 4, none⟩ = some (.int .i64 r2) := cell_of_row w5 _ 4 _ _ _ Bk7
  have m7_5 : w5.cell? ⟨v7, 5, none⟩ = some (.int .i64 r3) := cell_of_row w5 _ 5 _ _ _ Bk7
  have m7_6 : w5.cell? ⟨v7, 6, none⟩ = some (.int .i64 r4) := cell_of_row w5 _ 6 _ _ _ Bk7
  have m7_7 : w5.cell? ⟨v7, 7, none⟩ = some (.int .i64 r5) := cell_of_row w5 _ 7 _ _ _ Bk7
  have m7_8 : w5.cell? ⟨v7, 8, none⟩ = some (.int .i64 r6) := cell_of_row w5 _ 8 _ _ _ Bk7
  have m7_9 : w5.cell? ⟨v7, 9, none⟩ = some (.int .i64 r7) := cell_of_row w5 _ 9 _ _ _ Bk7
  have m7_10 : w5.cell? ⟨v7, 10, none⟩ = some (.slice AT xs.length cT) := cell_of_row w5 _ 10 _ _ _ Bk7
  have m0_0 : w5.cell? ⟨v0, 0, none⟩ = some (.slice A0 s0.M.W.length a0) := cell_of_row w5 _ 0 _ _ _ Bk0
  have m0_1 : w5.cell? ⟨v0, 1, none⟩ = some (.slice B0 s0.M.G.length b0) := cell_of_row w5 _ 1 _ _ _ Bk0
  have m0_2 : w5.cell? ⟨v0, 2, none⟩ = some (.bool s0.M.bad) := cell_of_row w5 _ 2 _ _ _ Bk0
  have m0_3 : w5.cell? ⟨v0, 3, none⟩ = some (.slice (some ⟨gC, oC, none⟩) s0.C.length c0) := cell_of_row w5 _ 3 _ _ _ Bk0
  have m0_4 : w5.cell? ⟨v0, 4, none⟩ = some (.slice L0 s0.L.length d0) := cell_of_row w5 _ 4 _ _ _ Bk0
  go_upto_region 8 with (fail)
  clear m7_0 m7_1 m7_2 m7_3 m7_4 m7_5 m7_6 m7_7 m7_8 m7_9 m7_10 m0_0 m0_1 m0_2 m0_3 m0_4
  clear Bk7 lt7
  have m0_0 : w5.cell? ⟨v0, 0, none⟩ = some (.slice A0 s0.M.W.length a0) := cell_of_row w5 _ 0 _ _ _ Bk0
  have m0_1 : w5.cell? ⟨v0, 1, none⟩ = some (.slice B0 s0.M.G.length b0) := cell_of_row w5 _ 1 _ _ _ Bk0
  have m0_2 : w5.cell? ⟨v0, 2, none⟩ = some (.bool s0.M.bad) := cell_of_row w5 _ 2 _ _ _ Bk0
  have m0_3 : w5.cell? ⟨v0, 3, none⟩ = some (.slice (some ⟨gC, oC, none⟩) s0.C.length c0) := cell_of_row w5 _ 3 _ _ _ Bk0
  have m0_4 : w5.cell? ⟨v0, 4, none⟩ = some (.slice L0 s0.L.length d0) := cell_of_row w5 _ 4 _ _ _ Bk0
  go_upto_region 9 with (go_at_call 31; (with_reducible refine (HS.out _ S0).mono ?_); rintro e w6 ⟨A9, B9, C9, L9, a9, b9, c9, d9, rfl, S9, hk9⟩)
  clear m0_0 m0_1 m0_2 m0_3 m0_4
  replace Bk0 := (hk9.block v0 lt0).trans Bk0
  replace lt0 := Nat.lt_of_lt_of_le lt0 hk9.size
  replace S0 := S0.step hk9
  replace hb := bstep hb hk9
  clear hk9
  have Bk9 := heap_alloc_new w6 (.cells #[.slice A9 s0.M.W.length a9, .slice B9 s0.M.G.length b9, .bool bad', .slice C9 s0.C.length c9, .slice L9 s0.L.length d9] 30)
  have lt9 : w6.heap.size < (w6.alloc (.cells #[.slice A9 s0.M.W.length a9, .slice B9 s0.M.G.length b9, .bool bad', .slice C9 s0.C.length c9, .slice L9 s0.L.length d9] 30)).heap.size := by simp
  have hk : Below w6.heap.size w6 (w6.alloc (.cells #[.slice A9 s0.M.W.length a9, .slice B9 s0.M.G.length b9, .bool bad', .slice C9 s0.C.length c9, .slice L9 s0.L.length d9] 30)) := boxed _ _
  replace Bk0 := (hk.block v0 lt0).trans Bk0
  replace lt0 := Nat.lt_of_lt_of_le lt0 hk.size
  replace S0 := S0.step hk
  replace S9 := S9.step hk
  replace hb := bstep hb hk
  clear hk
  obtain ⟨v9, hv⟩ : ∃ v, w6.heap.size = v := ⟨_, rfl⟩
  rw [hv] at Bk9 lt9 ⊢
  clear hv
  generalize (w6.alloc (.cells #[.slice A9 s0.M.W.length a9, .slice B9 s0.M.G.length b9, .bool bad', .slice C9 s0.C.length c9, .slice L9 s0.L.length d9] 30)) = w7 at *
  have HI := hid (show ∀ (w : World), Row w B9 s0.M.G → Row w B0 s0.M.G → Calls Try.prog 33 #[.slice B9 s0.M.G.length b9, .slice B0 s0.M.G.length b0] w fun e w' => e = .returned (.bool true) ∧ Below w.heap.size w w' from fun w k1 k2 => by have h9 := rints_any B9 B0 b9 b0 s0.M.G s0.M.G w k1 k2 (by have := HF.out.2.1; omega); rw [mInts_self] at h9; exact h9)
  have m0_0 : w7.cell? ⟨v0, 0, none⟩ = some (.slice A0 s0.M.W.length a0) := cell_of_row w7 _ 0 _ _ _ Bk0
  have m0_1 : w7.cell? ⟨v0, 1, none⟩ = some (.slice B0 s0.M.G.length b0) := cell_of_row w7 _ 1 _ _ _ Bk0
  have m0_2 : w7.cell? ⟨v0, 2, none⟩ = some (.bool s0.M.bad) := cell_of_row w7 _ 2 _ _ _ Bk0
  have m0_3 : w7.cell? ⟨v0, 3, none⟩ = some (.slice (some ⟨gC, oC, none⟩) s0.C.length c0) := cell_of_row w7 _ 3 _ _ _ Bk0
  have m0_4 : w7.cell? ⟨v0, 4, none⟩ = some (.slice L0 s0.L.length d0) := cell_of_row w7 _ 4 _ _ _ Bk0
  have m9_0 : w7.cell? ⟨v9, 0, none⟩ = some (.slice A9 s0.M.W.length a9) := cell_of_row w7 _ 0 _ _ _ Bk9
  have m9_1 : w7.cell? ⟨v9, 1, none⟩ = some (.slice B9 s0.M.G.length b9) := cell_of_row w7 _ 1 _ _ _ Bk9
  have m9_2 : w7.cell? ⟨v9, 2, none⟩ = some (.bool bad') := cell_of_row w7 _ 2 _ _ _ Bk9
  have m9_3 : w7.cell? ⟨v9, 3, none⟩ = some (.slice C9 s0.C.length c9) := cell_of_row w7 _ 3 _ _ _ Bk9
  have m9_4 : w7.cell? ⟨v9, 4, none⟩ = some (.slice L9 s0.L.length d9) := cell_of_row w7 _ 4 _ _ _ Bk9
  go_upto_region 11 with (go_at_call 33; (with_reducible refine (HI.out _ S9.G S0.G).mono ?_); rintro e w8 ⟨rfl, hk6⟩)
  clear m0_0 m0_1 m0_2 m0_3 m0_4 m9_0 m9_1 m9_2 m9_3 m9_4
  replace Bk0 := (hk6.block v0 lt0).trans Bk0
  replace lt0 := Nat.lt_of_lt_of_le lt0 hk6.size
  replace Bk9 := (hk6.block v9 lt9).trans Bk9
  replace lt9 := Nat.lt_of_lt_of_le lt9 hk6.size
  replace S0 := S0.step hk6
  replace S9 := S9.step hk6
  replace hb := bstep hb hk6
  clear hk6
  go_wp2_with fail
  have P0 := hid (show pPlace (k : Int) 0 = ((8 + 3 * k : Nat) : Int) by rw [pPlace_in (by omega) (by omega) (by omega) (by omega)]; omega)
  have P2 := hid (show pPlace (k : Int) 2 = ((8 + 3 * k + 2 : Nat) : Int) by rw [pPlace_in (by omega) (by omega) (by omega) (by omega)]; omega)
  have hwl : s0.M.W.length ≤ 1000000 := HF.out.1
  have HL1 := hid (show 1 ≤ s0.M.W.length by have h1 := HR.out.w; have h2 := HR.out.g2; omega)
  obtain ⟨bW, pW, rfl, hbW, hatW⟩ := S9.W (by have h1 := HWL.out; have h2 := HL1.out; show 0 < W'.length; omega)
  obtain ⟨bV, pV, rfl, hbV, hatV⟩ := S0.W (by have := HL1.out; omega)
  have m0_0 : w8.cell? ⟨v0, 0, none⟩ = some (.slice (some ⟨bV, pV, none⟩) s0.M.W.length a0) := cell_of_row w8 _ 0 _ _ _ Bk0
  have m0_1 : w8.cell? ⟨v0, 1, none⟩ = some (.slice B0 s0.M.G.length b0) := cell_of_row w8 _ 1 _ _ _ Bk0
  have m0_2 : w8.cell? ⟨v0, 2, none⟩ = some (.bool s0.M.bad) := cell_of_row w8 _ 2 _ _ _ Bk0
  have m0_3 : w8.cell? ⟨v0, 3, none⟩ = some (.slice (some ⟨gC, oC, none⟩) s0.C.length c0) := cell_of_row w8 _ 3 _ _ _ Bk0
  have m0_4 : w8.cell? ⟨v0, 4, none⟩ = some (.slice L0 s0.L.length d0) := cell_of_row w8 _ 4 _ _ _ Bk0
  have m9_0 : w8.cell? ⟨v9, 0, none⟩ = some (.slice (some ⟨bW, pW, none⟩) s0.M.W.length a9) := cell_of_row w8 _ 0 _ _ _ Bk9
  have m9_1 : w8.cell? ⟨v9, 1, none⟩ = some (.slice B9 s0.M.G.length b9) := cell_of_row w8 _ 1 _ _ _ Bk9
  have m9_2 : w8.cell? ⟨v9, 2, none⟩ = some (.bool bad') := cell_of_row w8 _ 2 _ _ _ Bk9
  have m9_3 : w8.cell? ⟨v9, 3, none⟩ = some (.slice C9 s0.C.length c9) := cell_of_row w8 _ 3 _ _ _ Bk9
  have m9_4 : w8.cell? ⟨v9, 4, none⟩ = some (.slice L9 s0.L.length d9) := cell_of_row w8 _ 4 _ _ _ Bk9
  go_loopw [10] (fun i wq => ∃ j : Nat, j ≤ s0.M.W.length ∧ i = .int .i64 j ∧ Below w8.heap.size w8 wq) (fun i _ => s0.M.W.length - (intOf i).toNat)
  case atStart => exact ⟨0, by omega, rfl, Below.refl _ _⟩
  case round =>
    obtain ⟨j, hj, rfl, hq2⟩ := hrel
    have m0_0q := (hq2.cell lt0).trans m0_0
    have m0_1q := (hq2.cell lt0).trans m0_1
    have m0_2q := (hq2.cell lt0).trans m0_2
    have m0_3q := (hq2.cell lt0).trans m0_3
    have m0_4q := (hq2.cell lt0).trans m0_4
    have m9_0q := (hq2.cell lt9).trans m9_0
    have m9_1q := (hq2.cell lt9).trans m9_1
    have m9_2q := (hq2.cell lt9).trans m9_2
    have m9_3q := (hq2.cell lt9).trans m9_3
    have m9_4q := (hq2.cell lt9).trans m9_4
    by_cases hjl : j < s0.M.W.length
    · have jl : (j : Int) < (s0.M.W.length : Int) := by omega
      have hjw : j < W'.length := by have := HWL.out; omega
      have cV := (hq2.cell hbV).trans (hatV j (s0.M.W.getD j 0) (by simp [List.getD, List.getElem?_eq_getElem hjl]))
      by_cases q : 8 + 3 * k ≤ j ∧ j ≤ 8 + 3 * k + 2
      · have cW := (hq2.cell hbW).trans (hatW j (W'.getD j 0) (by show W'[j]? = _; simp [List.getD, List.getElem?_eq_getElem hjw]))
        have dd0 : decide (pPlace (k : Int) 0 ≤ (j : Int)) = true := by rw [P0.out]; simp; omega
        have dd2 : decide ((j : Int) ≤ pPlace (k : Int) 2) = true := by rw [P2.out]; simp; omega
        go_wp2_with (go_at_call 25; (with_reducible refine (rplace_w _ _ _).mono ?_); rintro e wK ⟨rfl, rfl⟩)
        go_quiet (fail)
        go_wp2_with fail
        go_roundw
        case rel => exact ⟨j + 1, by omega, by go_num, bdrewN hq2 _⟩
        case measure => simp [intOf]; omega
      · by_cases q3 : 8 + 3 * k ≤ j
        · have cW := (hq2.cell hbW).trans (hatW j (s0.M.W.getD j 0) (by show W'[j]? = _; rw [HWS.out j q]; simp [List.getD, List.getElem?_eq_getElem hjl]))
          have dd0 : decide (pPlace (k : Int) 0 ≤ (j : Int)) = true := by rw [P0.out]; simp; omega
          have dd2 : decide ((j : Int) ≤ pPlace (k : Int) 2) = false := by rw [P2.out]; simp; omega
          go_wp2_with (go_at_call 25; (with_reducible refine (rplace_w _ _ _).mono ?_); rintro e wK ⟨rfl, rfl⟩)
          go_quiet (fail)
          go_wp2_with fail
          go_roundw
          case rel => exact ⟨j + 1, by omega, by go_num, bdrewN hq2 _⟩
          case measure => simp [intOf]; omega
        · have cW := (hq2.cell hbW).trans (hatW j (s0.M.W.getD j 0) (by show W'[j]? = _; rw [HWS.out j q]; simp [List.getD, List.getElem?_eq_getElem hjl]))
          have dd0 : decide (pPlace (k : Int) 0 ≤ (j : Int)) = false := by rw [P0.out]; simp; omega
          go_wp2_with (go_at_call 25; (with_reducible refine (rplace_w _ _ _).mono ?_); rintro e wK ⟨rfl, rfl⟩)
          go_quiet (fail)
          go_wp2_with fail
          go_roundw
          case rel => exact ⟨j + 1, by omega, by go_num, bdrewN hq2 _⟩
          case measure => simp [intOf]; omega
    · have jl : ¬ (j : Int) < (s0.M.W.length : Int) := by omega
      clear m0_0 m0_1 m0_2 m0_3 m0_4 m9_0 m9_1 m9_2 m9_3 m9_4
      replace Bk0 := (hq2.block v0 lt0).trans Bk0
      replace Bk9 := (hq2.block v9 lt9).trans Bk9
      replace lt0 := Nat.lt_of_lt_of_le lt0 hq2.size
      replace lt9 := Nat.lt_of_lt_of_le lt9 hq2.size
      replace S0 := S0.step hq2
      replace S9 := S9.step hq2
      replace hb := bstep hb hq2
      clear hq2 hatW hatV hbW hbV
      go_upto_region 17 with (fail)
      obtain ⟨gC2, oC2, eC2, hbl2, hat2⟩ := S0.C (by omega)
      injection eC2 with eC2
      injection eC2 with eC3 eC4
      subst eC3 eC4
      obtain ⟨AF, AR, cFq, cR, hcs, rF, rR, hcF⟩ := (hat2 k x HX.out).cs4
      clear hat2
      have y0 : wr.cell? ⟨gC, oC + k * 7, none⟩ = some (.slice AF x.F.length cFq) := hcs 0 _ rfl
      have y1 : wr.cell? ⟨gC, oC + k * 7 + 1, none⟩ = some (.int .i64 x.v) := hcs 1 _ rfl
      have y2 : wr.cell? ⟨gC, oC + k * 7 + 2, none⟩ = some (.int .i64 x.e) := hcs 2 _ rfl
      have y3 : wr.cell? ⟨gC, oC + k * 7 + 3, none⟩ = some (.int .i64 x.x0) := hcs 3 _ rfl
      have y4 : wr.cell? ⟨gC, oC + k * 7 + 4, none⟩ = some (.int .i64 x.x1) := hcs 4 _ rfl
      have y5 : wr.cell? ⟨gC, oC + k * 7 + 5, none⟩ = some (.int .i64 x.x2) := hcs 5 _ rfl
      have y6 : wr.cell? ⟨gC, oC + k * 7 + 6, none⟩ = some (.slice AR x.ret.length cR) := hcs 6 _ rfl
      clear hcs
      have p0 : wr.cell? ⟨v0, 0, none⟩ = some (.slice (some ⟨bV, pV, none⟩) s0.M.W.length a0) := cell_of_row wr _ 0 _ _ _ Bk0
      have p1 : wr.cell? ⟨v0, 1, none⟩ = some (.slice B0 s0.M.G.length b0) := cell_of_row wr _ 1 _ _ _ Bk0
      have p2 : wr.cell? ⟨v0, 2, none⟩ = some (.bool s0.M.bad) := cell_of_row wr _ 2 _ _ _ Bk0
      have p3 : wr.cell? ⟨v0, 3, none⟩ = some (.slice (some ⟨gC, oC, none⟩) s0.C.length c0) := cell_of_row wr _ 3 _ _ _ Bk0
      have p4 : wr.cell? ⟨v0, 4, none⟩ = some (.slice L0 s0.L.length d0) := cell_of_row wr _ 4 _ _ _ Bk0
      have q0 : wr.cell? ⟨v9, 0, none⟩ = some (.slice (some ⟨bW, pW, none⟩) s0.M.W.length a9) := cell_of_row wr _ 0 _ _ _ Bk9
      have q1 : wr.cell? ⟨v9, 1, none⟩ = some (.slice B9 s0.M.G.length b9) := cell_of_row wr _ 1 _ _ _ Bk9
      have q2 : wr.cell? ⟨v9, 2, none⟩ = some (.bool bad') := cell_of_row wr _ 2 _ _ _ Bk9
      have q3 : wr.cell? ⟨v9, 3, none⟩ = some (.slice C9 s0.C.length c9) := cell_of_row wr _ 3 _ _ _ Bk9
      have q4 : wr.cell? ⟨v9, 4, none⟩ = some (.slice L9 s0.L.length d9) := cell_of_row wr _ 4 _ _ _ Bk9
      have HM := hid (show ∀ (w : World), RS w (⟨⟨W', s0.M.G, bad'⟩, s0.C.set k x', s0.L⟩ : Sy) (some ⟨bW, pW, none⟩) B9 C9 L9 → RS w s0 (some ⟨bV, pV, none⟩) B0 (some ⟨gC, oC, none⟩) L0 → Calls Try.prog 35 #[.agg #[.slice (some ⟨bW, pW, none⟩) s0.M.W.length a9, .slice B9 s0.M.G.length b9, .bool bad', .slice C9 s0.C.length c9, .slice L9 s0.L.length d9], .agg #[.slice (some ⟨bV, pV, none⟩) s0.M.W.length a0, .slice B0 s0.M.G.length b0, .bool s0.M.bad]] w (fun e w' => e = .returned (.agg #[.slice (some ⟨bV, pV, none⟩) s0.M.W.length a0, .slice B0 s0.M.G.length b0, .bool s0.M.bad, .slice C9 s0.C.length c9, .slice L9 s0.L.length d9]) ∧ RS w' (⟨s0.M, s0.C.set k x', s0.L⟩ : Sy) (some ⟨bV, pV, none⟩) B0 C9 L9 ∧ Below w.heap.size w w') from fun w k1 k2 => by have h9 := rmem3_any (some ⟨bW, pW, none⟩) B9 C9 L9 (some ⟨bV, pV, none⟩) B0 a9 b9 c9 d9 a0 b0 (⟨⟨W', s0.M.G, bad'⟩, s0.C.set k x', s0.L⟩ : Sy) s0.M w k1 k2.W k2.G; simp only [List.length_set, HWL.out] at h9; exact h9)
      have HWI := hid (show ∀ (w : World), RS w (⟨s0.M, s0.C.set k x', s0.L⟩ : Sy) (some ⟨bV, pV, none⟩) B0 C9 L9 → RowF w AF x.F → Row w AR x.ret → Calls Try.prog 34 #[.agg #[.slice (some ⟨bV, pV, none⟩) s0.M.W.length a0, .slice B0 s0.M.G.length b0, .bool s0.M.bad, .slice C9 s0.C.length c9, .slice L9 s0.L.length d9], .int .i64 (k : Int), .agg #[.slice AF x.F.length cFq, .int .i64 x.v, .int .i64 x.e, .int .i64 x.x0, .int .i64 x.x1, .int .i64 x.x2, .slice AR x.ret.length cR]] w (RetSys w s0) from fun w k1 k2 k3 => by have h9 := rwith_any (some ⟨bV, pV, none⟩) B0 C9 L9 a0 b0 c9 d9 (⟨s0.M, s0.C.set k x', s0.L⟩ : Sy) k AF AR cFq cR x w k1.W k1.G k1.C k1.L (by simp only [List.length_set]; exact HF.out.2.2.1) k2 k3 (by simp only [List.length_set]; omega) hcF; simp only [List.length_set, syWith, List.set_set, set_self HX.out] at h9; exact h9)
      have HSS := hid (show ∀ (A1 B1 C1 L1 : Option Addr) (a1 b1 c1 d1 : Nat) (w : World), RS w s0 A1 B1 C1 L1 → RS w s0 (some ⟨bV, pV, none⟩) B0 (some ⟨gC, oC, none⟩) L0 → Calls Try.prog 20 #[.agg #[.slice A1 s0.M.W.length a1, .slice B1 s0.M.G.length b1, .bool s0.M.bad, .slice C1 s0.C.length c1, .slice L1 s0.L.length d1], .agg #[.slice (some ⟨bV, pV, none⟩) s0.M.W.length a0, .slice B0 s0.M.G.length b0, .bool s0.M.bad, .slice (some ⟨gC, oC, none⟩) s0.C.length c0, .slice L0 s0.L.length d0]] w fun e w' => e = .returned (.bool true) ∧ Below w.heap.size w w' from fun A1 B1 C1 L1 a1 b1 c1 d1 w k1 k2 => by have h9 := rsame_u A1 B1 C1 L1 (some ⟨bV, pV, none⟩) B0 (some ⟨gC, oC, none⟩) L0 a1 b1 c1 d1 a0 b0 c0 d0 s0 s0 w HF.out k1 k2; rw [sySame_self] at h9; exact h9)
      have KS := hid (show ∀ w', Below wr.heap.size wr w' → (w'.cell? ⟨v0, 0, none⟩ = some (.slice (some ⟨bV, pV, none⟩) s0.M.W.length a0) ∧ w'.cell? ⟨v0, 1, none⟩ = some (.slice B0 s0.M.G.length b0) ∧ w'.cell? ⟨v0, 2, none⟩ = some (.bool s0.M.bad) ∧ w'.cell? ⟨v0, 3, none⟩ = some (.slice (some ⟨gC, oC, none⟩) s0.C.length c0) ∧ w'.cell? ⟨v0, 4, none⟩ = some (.slice L0 s0.L.length d0) ∧ w'.cell? ⟨v9, 0, none⟩ = some (.slice (some ⟨bW, pW, none⟩) s0.M.W.length a9) ∧ w'.cell? ⟨v9, 1, none⟩ = some (.slice B9 s0.M.G.length b9) ∧ w'.cell? ⟨v9, 2, none⟩ = some (.bool bad') ∧ w'.cell? ⟨v9, 3, none⟩ = some (.slice C9 s0.C.length c9) ∧ w'.cell? ⟨v9, 4, none⟩ = some (.slice L9 s0.L.length d9) ∧ w'.cell? ⟨gC, oC + k * 7, none⟩ = some (.slice AF x.F.length cFq) ∧ w'.cell? ⟨gC, oC + k * 7 + 1, none⟩ = some (.int .i64 x.v) ∧ w'.cell? ⟨gC, oC + k * 7 + 2, none⟩ = some (.int .i64 x.e) ∧ w'.cell? ⟨gC, oC + k * 7 + 3, none⟩ = some (.int .i64 x.x0) ∧ w'.cell? ⟨gC, oC + k * 7 + 4, none⟩ = some (.int .i64 x.x1) ∧ w'.cell? ⟨gC, oC + k * 7 + 5, none⟩ = some (.int .i64 x.x2) ∧ w'.cell? ⟨gC, oC + k * 7 + 6, none⟩ = some (.slice AR x.ret.length cR)) from fun w' h => ⟨(h.cell lt0).trans p0, (h.cell lt0).trans p1, (h.cell lt0).trans p2, (h.cell lt0).trans p3, (h.cell lt0).trans p4, (h.cell lt9).trans q0, (h.cell lt9).trans q1, (h.cell lt9).trans q2, (h.cell lt9).trans q3, (h.cell lt9).trans q4, (h.cell hbl2).trans y0, (h.cell hbl2).trans y1, (h.cell hbl2).trans y2, (h.cell hbl2).trans y3, (h.cell hbl2).trans y4, (h.cell hbl2).trans y5, (h.cell hbl2).trans y6⟩)
      go_region_held3 (fun w' => w'.cell? ⟨v0, 0, none⟩ = some (.slice (some ⟨bV, pV, none⟩) s0.M.W.length a0) ∧ w'.cell? ⟨v0, 1, none⟩ = some (.slice B0 s0.M.G.length b0) ∧ w'.cell? ⟨v0, 2, none⟩ = some (.bool s0.M.bad) ∧ w'.cell? ⟨v0, 3, none⟩ = some (.slice (some ⟨gC, oC, none⟩) s0.C.length c0) ∧ w'.cell? ⟨v0, 4, none⟩ = some (.slice L0 s0.L.length d0) ∧ w'.cell? ⟨v9, 0, none⟩ = some (.slice (some ⟨bW, pW, none⟩) s0.M.W.length a9) ∧ w'.cell? ⟨v9, 1, none⟩ = some (.slice B9 s0.M.G.length b9) ∧ w'.cell? ⟨v9, 2, none⟩ = some (.bool bad') ∧ w'.cell? ⟨v9, 3, none⟩ = some (.slice C9 s0.C.length c9) ∧ w'.cell? ⟨v9, 4, none⟩ = some (.slice L9 s0.L.length d9) ∧ w'.cell? ⟨gC, oC + k * 7, none⟩ = some (.slice AF x.F.length cFq) ∧ w'.cell? ⟨gC, oC + k * 7 + 1, none⟩ = some (.int .i64 x.v) ∧ w'.cell? ⟨gC, oC + k * 7 + 2, none⟩ = some (.int .i64 x.e) ∧ w'.cell? ⟨gC, oC + k * 7 + 3, none⟩ = some (.int .i64 x.x0) ∧ w'.cell? ⟨gC, oC + k * 7 + 4, none⟩ = some (.int .i64 x.x1) ∧ w'.cell? ⟨gC, oC + k * 7 + 5, none⟩ = some (.int .i64 x.x2) ∧ w'.cell? ⟨gC, oC + k * 7 + 6, none⟩ = some (.slice AR x.ret.length cR)) (exact KS.out _ (by repeat (first | (with_reducible exact Below.refl _ _) | (with_reducible refine Below.drew ?_) | (with_reducible refine bstep ?_ (boxed _ _)) | (with_reducible refine bstep ?_ hk3) | (with_reducible refine bstep ?_ hk2) | (with_reducible refine bstep ?_ hk1))))
        (first | (go_at_call 35; (with_reducible refine (HM.out _ (S9.step (by repeat (first | (with_reducible exact Below.refl _ _) | (with_reducible refine Below.drew ?_) | (with_reducible refine bstep ?_ (boxed _ _)) | (with_reducible refine bstep ?_ hk3) | (with_reducible refine bstep ?_ hk2) | (with_reducible refine bstep ?_ hk1)))) (S0.step (by repeat (first | (with_reducible exact Below.refl _ _) | (with_reducible refine Below.drew ?_) | (with_reducible refine bstep ?_ (boxed _ _)) | (with_reducible refine bstep ?_ hk3) | (with_reducible refine bstep ?_ hk2) | (with_reducible refine bstep ?_ hk1))))).mono ?_); rintro e wk1 ⟨rfl, X1, hk1⟩) | (go_at_call 34; (with_reducible refine (HWI.out _ (X1.step (by repeat (first | (with_reducible exact Below.refl _ _) | (with_reducible refine Below.drew ?_) | (with_reducible refine bstep ?_ (boxed _ _)) | (with_reducible refine bstep ?_ hk3) | (with_reducible refine bstep ?_ hk2) | (with_reducible refine bstep ?_ hk1)))) (rF.step (by repeat (first | (with_reducible exact Below.refl _ _) | (with_reducible refine Below.drew ?_) | (with_reducible refine bstep ?_ (boxed _ _)) | (with_reducible refine bstep ?_ hk3) | (with_reducible refine bstep ?_ hk2) | (with_reducible refine bstep ?_ hk1)))) (rR.step (by repeat (first | (with_reducible exact Below.refl _ _) | (with_reducible refine Below.drew ?_) | (with_reducible refine bstep ?_ (boxed _ _)) | (with_reducible refine bstep ?_ hk3) | (with_reducible refine bstep ?_ hk2) | (with_reducible refine bstep ?_ hk1))))).mono ?_); rintro e wk2 ⟨A2, B2, C2, L2, a2, b2, c2, d2, rfl, x1, x2, x3, x4, hk2⟩; have X2 : RS wk2 s0 A2 B2 C2 L2 := ⟨x1, x2, x3, x4⟩; clear x1 x2 x3 x4) | (go_at_call 20; (with_reducible refine (HSS.out _ _ _ _ _ _ _ _ _ (X2.step (by repeat (first | (with_reducible exact Below.refl _ _) | (with_reducible refine Below.drew ?_) | (with_reducible refine bstep ?_ (boxed _ _)) | (with_reducible refine bstep ?_ hk3) | (with_reducible refine bstep ?_ hk2) | (with_reducible refine bstep ?_ hk1)))) (S0.step (by repeat (first | (with_reducible exact Below.refl _ _) | (with_reducible refine Below.drew ?_) | (with_reducible refine bstep ?_ (boxed _ _)) | (with_reducible refine bstep ?_ hk3) | (with_reducible refine bstep ?_ hk2) | (with_reducible refine bstep ?_ hk1))))).mono ?_); rintro e wk3 ⟨rfl, hk3⟩))
      have hbw : Below wr.heap.size wr wk3 := (by repeat (first | (with_reducible exact Below.refl _ _) | (with_reducible refine Below.drew ?_) | (with_reducible refine bstep ?_ (boxed _ _)) | (with_reducible refine bstep ?_ hk3) | (with_reducible refine bstep ?_ hk2) | (with_reducible refine bstep ?_ hk1)))
      go_wp2_with fail
      go_ret
      exact ⟨rfl, bstep hb hbw⟩

theorem walk (A0 B0 C0 L0 : Option Addr) (a0 b0 c0 d0 : Nat) (s0 : Sy) (n1 : Int) (w0 : World) (u0 : 0 ≤ n1) (u1 : n1 ≤ 255)
    (rW : Row w0 A0 s0.M.W) (rG : Row w0 B0 s0.M.G) (rC : RowC w0 C0 s0.C) (rL : RowE w0 L0 s0.L) (g0 : s0.M.W.length ≤ maxLen) (g1 : s0.M.G.length ≤ maxLen) (g2 : s0.C.length ≤ maxLen) (g3 : s0.L.length ≤ maxLen) (hw : SyW s0) :
    Calls Try.prog 11 #[.agg #[.slice A0 s0.M.W.length a0, .slice B0 s0.M.G.length b0, .bool s0.M.bad, .slice C0 s0.C.length c0, .slice L0 s0.L.length d0], .int .u8 n1] w0 fun e w' => e = .returned (.bool true) ∧ Below w0.heap.size w0 w' := by
  rcases q0 : syMays s0 with _ | _
  · exact walk_not A0 B0 C0 L0 a0 b0 c0 d0 s0 n1 w0 u0 u1 rW rG rC rL g0 g1 g2 g3 hw q0
  · have hf : SyFew s0 := few_of_small (by have h := q0; simp only [syMays, Bool.and_eq_true] at h; exact h.1)
    by_cases hk : ∃ k : Nat, n1.tmod (s0.C.length : Int) = (k : Int)
    · obtain ⟨k, hk⟩ := hk
      have one : ∀ (k' : Nat), n1.tmod (s0.C.length : Int) = (k' : Int) → k' = k := fun k' h => by omega
      rcases pTop_cases s0 (k : Int) hf rC with hp | ⟨op, pc, r0, r1, r2, r3, r4, r5, r6, r7, xs, hp, h6⟩
      · exact walk_none A0 B0 C0 L0 a0 b0 c0 d0 s0 n1 w0 u0 u1 rW rG rC rL g0 g1 g2 g3 hw q0 (fun k' h => by rw [one k' h]; exact hp)
      · by_cases o1 : op = 3
        · by_cases o2 : r1 < 0
          · exact walk_lo A0 B0 C0 L0 a0 b0 c0 d0 s0 n1 w0 u0 u1 rW rG rC rL g0 g1 g2 g3 hw q0 (fun k' h => by rw [one k' h]; exact ⟨op, pc, r0, r1, r2, r3, r4, r5, r6, r7, xs, hp, h6, o1, o2⟩)
          · by_cases o3 : 2 < r1
            · exact walk_hi A0 B0 C0 L0 a0 b0 c0 d0 s0 n1 w0 u0 u1 rW rG rC rL g0 g1 g2 g3 hw q0 (fun k' h => by rw [one k' h]; exact ⟨op, pc, r0, r1, r2, r3, r4, r5, r6, r7, xs, hp, h6, o1, o3⟩)
            · exact walk_in A0 B0 C0 L0 a0 b0 c0 d0 s0 n1 w0 u0 u1 rW rG rC rL g0 g1 g2 g3 hw q0 (fun k' h => by rw [one k' h]; exact ⟨op, pc, r0, r1, r2, r3, r4, r5, r6, r7, xs, hp, h6, o1, by omega, by omega⟩)
        · exact walk_x A0 B0 C0 L0 a0 b0 c0 d0 s0 n1 w0 u0 u1 rW rG rC rL g0 g1 g2 g3 hw q0 (fun k' h => by rw [one k' h]; exact ⟨op, pc, r0, r1, r2, r3, r4, r5, r6, r7, xs, hp, h6, o1⟩)
    · exact walk_none A0 B0 C0 L0 a0 b0 c0 d0 s0 n1 w0 u0 u1 rW rG rC rL g0 g1 g2 g3 hw q0 (fun k' h => absurd ⟨k', h⟩ hk)

set_option maxRecDepth 100000 in
theorem lifted (os : Os) (started : os.Started) (H : Type) (enc : TypeId × Value → H) :
    ReturnsInHanded {} Try.checked os 11 .any (Rows.hazApartSpec.pre6 enc Try.prog Try.f11 Rows.hazApartRow.domain false) (Rows.hazApartSpec.post enc Try.prog Try.f11 false true false false) := by
  refine returnsInHanded_of_change (C := Try.checked) own started (by kernel_rfl) Try.func11
    (ChangeSpec.witness6 (enc := enc) (C := Try.checked) false ⟨#[], #[.agg #[.slice none 0 0, .slice none 0 0, .bool false, .slice none 0 0, .slice none 0 0], .int .u8 0], []⟩ 8 (by kernel_rfl) (by kernel_rfl) (by kernel_rfl) (by kernel_rfl)) ?_
  intro W base args ds gs before hval0 hW hcnd _
  have hval : ∀ (j : Nat) t v, Try.f11.params[j]? = some t → args[j]? = some v → Value.okWide Try.prog W .any base t v := hval0
  have hW' := hW
  obtain ⟨p, q, hA0, hV, rfl, hfz, hnd⟩ := hW
  have hA : DataW.TrodAll enc Try.prog W 0 (fun _ => true) true Try.f11.params.toList args.toList ds p := hA0
  rw [Try.params11] at hA hval
  obtain ⟨v0, vs0, d0, ds0, p0, q0, hargs, rfl, rfl, h0, r0⟩ := trodAll_cons hA
  obtain ⟨v1, vs1, d1, ds1, p1, q1, rfl, rfl, rfl, h1, r1⟩ := trodAll_cons r0
  obtain ⟨rfl, rfl, rfl⟩ := trodAll_nil r1
  obtain rfl : args = #[v0, v1] := by cases args; simp_all
  obtain ⟨rfl, rfl⟩ := trodVars_none hV
  clear hA0 hval0
  obtain ⟨A0, B0, C0, L0, a0, b0, c0, d0, s0, rfl, rW, rG, rC, rL, l0, l1, l2, l3, hw⟩ := open_system8 (hval 0 _ v0 rfl rfl) h0
  obtain ⟨m1, hm1⟩ := h1
  obtain ⟨a, e1, _, u1⟩ := DataW.trod_int Try.underlying5 hm1
  obtain ⟨a', rfl⟩ := okWide_int Try.underlying5 (hval 1 5 v1 rfl rfl)
  obtain rfl : a' = a := by simpa [Value.cells] using e1
  obtain ⟨y0, y1⟩ := bounds_u8 u1
  refine (walk A0 B0 C0 L0 a0 b0 c0 d0 s0 a' W y0 y1 rW rG rC rL l0 l1 l2 l3 hw).mono fun e W' ⟨he, hb⟩ => ?_
  subst he
  exact ⟨_, rfl, law_post (tb := 4) (by kernel_rfl) (by kernel_rfl) (by kernel_rfl) Try.underlying4 rfl hW' rfl hb⟩

theorem over : Rows.hazApartRow.holds Try.pinned (OpenSpec.ofChange Rows.hazApartSpec) :=
  OpenClaim.holds_of_wide 11 Try.f11 rfl rfl rfl rfl rfl rfl rfl ⟨rfl, rfl, rfl, rfl, rfl⟩ rfl rfl rfl rfl rfl (by kernel_rfl) Try.func11 (by kernel_rfl)
    (of_decide_eq_true (by kernel_rfl)) (by unfold Func.isWrapper; first | (rw [if_pos (by decide +kernel)]; kernel_rfl) | (rw [if_neg (by decide +kernel)]; exact ⟨rfl, rfl⟩))
    (fun os started H enc _ => lifted os started H enc)
end HazApart

theorem hazApart_holds : Rows.HazApartSaid := HazApart.over
#print axioms hazApart_holds
end Go.Proofs.Ytgjpgbdloflfbaa
