/- For every struct of two bytes, a row of 16-bit picks and a byte, the law StackTags (each pop and each push that ends swaps the head to a word of the next tag; a step that doesn't end leaves the head as it is) returns true, and the arguments read afterwards as before. No conditions. -/
import Derived.Test.YtlknpmdmnekedaaRows
import Derived.Test.YtlknpmdmnekedaaKSho
import Derived.Test.YtlknpmdmnekedaaOpenP
import Derived.Test.YtlknpmdmnekedaaKBas
namespace Go.Proofs.Ytlknpmdmnekedaa
namespace StackTags
open Go.ChangeShapes Go.WideShapes Go.ChangeAt Go.RowKit
set_option linter.unusedVariables false
set_option linter.unusedSimpArgs false

theorem own : ownKnob Try.prog.godebug = none := by kernel_rfl
set_option maxRecDepth 100000 in
set_option maxHeartbeats 16000000 in
theorem walk_many (x0 x1 : Int) (AP : Option Addr) (us : List Nat) (cp : Nat) (x3 : Int) (w0 : World) (hP : RowU w0 AP us) (u0 : 0 ≤ x0) (u1 : x0 ≤ 255) (u2 : 0 ≤ x1) (u3 : x1 ≤ 255) (v0 : 0 ≤ x3) (v1 : x3 ≤ 255) (hlen : 200 < us.length) :
    Calls Try.prog 6 #[.agg #[.int .u8 x0, .int .u8 x1, .slice AP us.length cp, .int .u8 x3]] w0 fun e w' => e = .returned (.bool true) ∧ Below w0.heap.size w0 w' := by
  have hb : Below w0.heap.size w0 w0 := Below.refl _ _
  obtain ⟨c, hc⟩ : ∃ n : Nat, 1 + x0 % 8 = (n : Int) := ⟨(1 + x0 % 8).toNat, by omega⟩
  have c1 : 1 ≤ c := by omega
  have c2 : c ≤ 8 := by omega
  obtain ⟨n, hn⟩ : ∃ n : Nat, 1 + x1 % 12 = (n : Int) := ⟨(1 + x1 % 12).toNat, by omega⟩
  have n1 : 1 ≤ n := by omega
  have n2 : n ≤ 200 := by omega
  go_enter Try.func6, Try.ntmps6
  go_upto_region 1 with (fail)
  have Bk9 := heap_alloc_new w0 (.cells #[.int .u8 x0, .int .u8 x1, .slice AP us.length cp, .int .u8 x3] 58)
  have lt9 : w0.heap.size < (w0.alloc (.cells #[.int .u8 x0, .int .u8 x1, .slice AP us.length cp, .int .u8 x3] 58)).heap.size := by simp
  have hk : Below w0.heap.size w0 (w0.alloc (.cells #[.int .u8 x0, .int .u8 x1, .slice AP us.length cp, .int .u8 x3] 58)) := boxed _ _
  replace hP := hP.step hk
  replace hb := bstep hb hk
  clear hk
  obtain ⟨v9, hv⟩ : ∃ v, w0.heap.size = v := ⟨_, rfl⟩
  rw [hv] at Bk9 lt9 ⊢
  clear hv
  generalize (w0.alloc (.cells #[.int .u8 x0, .int .u8 x1, .slice AP us.length cp, .int .u8 x3] 58)) = w1 at *
  have m9_0 : w1.cell? ⟨v9, 0, none⟩ = some (.int .u8 x0) := cell_of_row w1 _ 0 _ _ _ Bk9
  have m9_1 : w1.cell? ⟨v9, 1, none⟩ = some (.int .u8 x1) := cell_of_row w1 _ 1 _ _ _ Bk9
  have m9_2 : w1.cell? ⟨v9, 2, none⟩ = some (.slice AP us.length cp) := cell_of_row w1 _ 2 _ _ _ Bk9
  have m9_3 : w1.cell? ⟨v9, 3, none⟩ = some (.int .u8 x3) := cell_of_row w1 _ 3 _ _ _ Bk9
  go_wp2_with fail
  refine (shown4_any _).mono ?_
  rintro e w2 ⟨rfl, hk⟩
  clear m9_0 m9_1 m9_2 m9_3
  replace Bk9 := (hk.block v9 lt9).trans Bk9
  replace lt9 := Nat.lt_of_lt_of_le lt9 hk.size
  replace hP := hP.step hk
  replace hb := bstep hb hk
  clear hk
  clear Bk9 lt9
  have hlq : (200 : Int) < (us.length : Int) := by omega
  go_wp2_with fail
  go_ret
  exact ⟨rfl, hb⟩

set_option maxRecDepth 100000 in
set_option maxHeartbeats 16000000 in
theorem walk_few (x0 x1 : Int) (AP : Option Addr) (us : List Nat) (cp : Nat) (x3 : Int) (w0 : World) (hP : RowU w0 AP us) (u0 : 0 ≤ x0) (u1 : x0 ≤ 255) (u2 : 0 ≤ x1) (u3 : x1 ≤ 255) (v0 : 0 ≤ x3) (v1 : x3 ≤ 255) (hlen : us.length ≤ 200) :
    Calls Try.prog 6 #[.agg #[.int .u8 x0, .int .u8 x1, .slice AP us.length cp, .int .u8 x3]] w0 fun e w' => e = .returned (.bool true) ∧ Below w0.heap.size w0 w' := by
  have hb : Below w0.heap.size w0 w0 := Below.refl _ _
  obtain ⟨c, hc⟩ : ∃ n : Nat, 1 + x0 % 8 = (n : Int) := ⟨(1 + x0 % 8).toNat, by omega⟩
  have c1 : 1 ≤ c := by omega
  have c2 : c ≤ 8 := by omega
  obtain ⟨n, hn⟩ : ∃ n : Nat, 1 + x1 % 12 = (n : Int) := ⟨(1 + x1 % 12).toNat, by omega⟩
  have n1 : 1 ≤ n := by omega
  have n2 : n ≤ 200 := by omega
  go_enter Try.func6, Try.ntmps6
  go_upto_region 1 with (fail)
  have Bk9 := heap_alloc_new w0 (.cells #[.int .u8 x0, .int .u8 x1, .slice AP us.length cp, .int .u8 x3] 58)
  have lt9 : w0.heap.size < (w0.alloc (.cells #[.int .u8 x0, .int .u8 x1, .slice AP us.length cp, .int .u8 x3] 58)).heap.size := by simp
  have hk : Below w0.heap.size w0 (w0.alloc (.cells #[.int .u8 x0, .int .u8 x1, .slice AP us.length cp, .int .u8 x3] 58)) := boxed _ _
  replace hP := hP.step hk
  replace hb := bstep hb hk
  clear hk
  obtain ⟨v9, hv⟩ : ∃ v, w0.heap.size = v := ⟨_, rfl⟩
  rw [hv] at Bk9 lt9 ⊢
  clear hv
  generalize (w0.alloc (.cells #[.int .u8 x0, .int .u8 x1, .slice AP us.length cp, .int .u8 x3] 58)) = w1 at *
  have m9_0 : w1.cell? ⟨v9, 0, none⟩ = some (.int .u8 x0) := cell_of_row w1 _ 0 _ _ _ Bk9
  have m9_1 : w1.cell? ⟨v9, 1, none⟩ = some (.int .u8 x1) := cell_of_row w1 _ 1 _ _ _ Bk9
  have m9_2 : w1.cell? ⟨v9, 2, none⟩ = some (.slice AP us.length cp) := cell_of_row w1 _ 2 _ _ _ Bk9
  have m9_3 : w1.cell? ⟨v9, 3, none⟩ = some (.int .u8 x3) := cell_of_row w1 _ 3 _ _ _ Bk9
  go_wp2_with fail
  refine (shown4_any _).mono ?_
  rintro e w2 ⟨rfl, hk⟩
  clear m9_0 m9_1 m9_2 m9_3
  replace Bk9 := (hk.block v9 lt9).trans Bk9
  replace lt9 := Nat.lt_of_lt_of_le lt9 hk.size
  replace hP := hP.step hk
  replace hb := bstep hb hk
  clear hk
  clear Bk9 lt9
  have hlq : ¬ (200 : Int) < (us.length : Int) := by omega
  obtain ⟨y, hy⟩ : ∃ y, y = pPlay c n us := ⟨_, rfl⟩
  have HP := hid (show ∀ w, RowU w AP us → Calls Try.prog 12 #[.int .i64 (c : Int), .int .i64 (n : Int), .slice AP us.length cp] w (RetPlay w y) from fun w h => by rw [hy]; exact play_any c n us AP cp w c1 c2 n1 n2 (by omega) h)
  have hI := PInv.play n1 n2 c1 c2 us us.length (Nat.le_refl _) (by omega)
  have hAl := alive_play n1 n2 c1 us (by omega)
  rw [List.take_length, ← hy] at hI
  rw [← hy] at hAl
  have HI := hid hI
  have HAL := hid hAl
  clear hI hAl hy
  go_upto_region 10 with (go_at_call 12; (with_reducible refine (HP.out _ hP).mono ?_); rintro e w3 ⟨A5, B5, C5, L5, a5, b5, c5, d5, g5, qs5, rfl, S5, O5, hk⟩)
  replace hP := hP.step hk
  replace hb := bstep hb hk
  clear hk
  have Bk5 := heap_alloc_new w3 (.cells #[.slice A5 y.s.M.W.length a5, .slice B5 y.s.M.G.length b5, .bool y.s.M.bad, .slice C5 y.s.C.length c5, .slice L5 y.s.L.length d5] 30)
  have lt5 : w3.heap.size < (w3.alloc (.cells #[.slice A5 y.s.M.W.length a5, .slice B5 y.s.M.G.length b5, .bool y.s.M.bad, .slice C5 y.s.C.length c5, .slice L5 y.s.L.length d5] 30)).heap.size := by simp
  have hk : Below w3.heap.size w3 (w3.alloc (.cells #[.slice A5 y.s.M.W.length a5, .slice B5 y.s.M.G.length b5, .bool y.s.M.bad, .slice C5 y.s.C.length c5, .slice L5 y.s.L.length d5] 30)) := boxed _ _
  replace hP := hP.step hk
  replace S5 := S5.step hk
  replace hb := bstep hb hk
  clear hk
  obtain ⟨v5, hv⟩ : ∃ v, w3.heap.size = v := ⟨_, rfl⟩
  rw [hv] at Bk5 lt5 ⊢
  clear hv
  generalize (w3.alloc (.cells #[.slice A5 y.s.M.W.length a5, .slice B5 y.s.M.G.length b5, .bool y.s.M.bad, .slice C5 y.s.C.length c5, .slice L5 y.s.L.length d5] 30)) = w4 at *
  clear HP hlq
  obtain ⟨j, hj⟩ : ∃ j : Nat, x3 % (c : Int) = (j : Int) := ⟨(x3 % (c : Int)).toNat, by rw [Int.toNat_of_nonneg (Int.emod_nonneg _ (by omega))]⟩
  have hjc : j < c := by have := Int.emod_lt_of_pos x3 (show (0 : Int) < (c : Int) by omega); omega
  go_upto_region 13 with (fail)
  have HCL := hid (show y.s.C.length = c from HI.out.ti.cl)
  obtain ⟨x, hx⟩ : ∃ x, y.s.C[j]? = some x := ⟨_, List.getElem?_eq_getElem (by rw [HCL.out]; exact hjc)⟩
  obtain ⟨T, l, hT, tri, fr, _⟩ := HI.out.ti.ex
  have HWL := hid (show 128 ≤ y.s.M.W.length by have := tri.ia.w; omega)
  have hcase := fr j x hx
  clear hT tri fr
  rcases hcase with hF | ⟨f, hF, _⟩
  · have htp := top_idle hx hF
    obtain ⟨t, ht⟩ : ∃ t, t = pStep y.s (j : Int) := ⟨_, rfl⟩
    have hty : t = y.s := by rw [ht]; unfold pStep; rw [htp]
    have HST := hid (show ∀ w, RS w y.s A5 B5 C5 L5 → Calls Try.prog 17 #[.agg #[.slice A5 y.s.M.W.length a5, .slice B5 y.s.M.G.length b5, .bool y.s.M.bad, .slice C5 y.s.C.length c5, .slice L5 y.s.L.length d5], .int .i64 (j : Int)] w (RetSys w t) from fun w k1 => by rw [ht]; exact step_any A5 B5 C5 L5 a5 b5 c5 d5 y.s (j : Int) w HI.out.ok.few HI.out.ok.g k1 (by have := HI.out.ok.l; omega))
    clear ht
    rw [hty] at HST
    clear hty t hx hF
    have m5_0 : w4.cell? ⟨v5, 0, none⟩ = some (.slice A5 y.s.M.W.length a5) := cell_of_row w4 _ 0 _ _ _ Bk5
    have m5_1 : w4.cell? ⟨v5, 1, none⟩ = some (.slice B5 y.s.M.G.length b5) := cell_of_row w4 _ 1 _ _ _ Bk5
    have m5_2 : w4.cell? ⟨v5, 2, none⟩ = some (.bool y.s.M.bad) := cell_of_row w4 _ 2 _ _ _ Bk5
    have m5_3 : w4.cell? ⟨v5, 3, none⟩ = some (.slice C5 y.s.C.length c5) := cell_of_row w4 _ 3 _ _ _ Bk5
    have m5_4 : w4.cell? ⟨v5, 4, none⟩ = some (.slice L5 y.s.L.length d5) := cell_of_row w4 _ 4 _ _ _ Bk5
    have HT := hid (show ∀ w, RS w y.s A5 B5 C5 L5 → Calls Try.prog 14 #[.agg #[.slice A5 y.s.M.W.length a5, .slice B5 y.s.M.G.length b5, .bool y.s.M.bad, .slice C5 y.s.C.length c5, .slice L5 y.s.L.length d5], .int .i64 (j : Int)] w _ from fun w k1 => rtop_no A5 B5 C5 L5 a5 b5 c5 d5 y.s (j : Int) w HI.out.ok.few k1 htp)
    clear htp
    go_upto_region 14 with (go_at_call 14; (with_reducible refine (HT.out _ S5).mono ?_); rintro e w5 ⟨rfl, hk⟩)
    clear m5_0 m5_1 m5_2 m5_3 m5_4
    replace Bk5 := (hk.block v5 lt5).trans Bk5
    replace lt5 := Nat.lt_of_lt_of_le lt5 hk.size
    replace hP := hP.step hk
    replace S5 := S5.step hk
    replace hb := bstep hb hk
    clear hk
    clear HT
    have BkF := heap_alloc_new w5 (.cells #[.int .i64 0, .int .i64 0, .int .i64 0, .int .i64 0, .int .i64 0, .int .i64 0, .int .i64 0, .int .i64 0, .int .i64 0, .int .i64 0, .slice none 0 0] 38)
    have ltF : w5.heap.size < (w5.alloc (.cells #[.int .i64 0, .int .i64 0, .int .i64 0, .int .i64 0, .int .i64 0, .int .i64 0, .int .i64 0, .int .i64 0, .int .i64 0, .int .i64 0, .slice none 0 0] 38)).heap.size := by simp
    have hk : Below w5.heap.size w5 (w5.alloc (.cells #[.int .i64 0, .int .i64 0, .int .i64 0, .int .i64 0, .int .i64 0, .int .i64 0, .int .i64 0, .int .i64 0, .int .i64 0, .int .i64 0, .slice none 0 0] 38)) := boxed _ _
    replace Bk5 := (hk.block v5 lt5).trans Bk5
    replace lt5 := Nat.lt_of_lt_of_le lt5 hk.size
    replace hP := hP.step hk
    replace S5 := S5.step hk
    replace hb := bstep hb hk
    clear hk
    obtain ⟨vF, hv⟩ : ∃ v, w5.heap.size = v := ⟨_, rfl⟩
    rw [hv] at BkF ltF ⊢
    clear hv
    generalize (w5.alloc (.cells #[.int .i64 0, .int .i64 0, .int .i64 0, .int .i64 0, .int .i64 0, .int .i64 0, .int .i64 0, .int .i64 0, .int .i64 0, .int .i64 0, .slice none 0 0] 38)) = w6 at *
    have m5_0 : w6.cell? ⟨v5, 0, none⟩ = some (.slice A5 y.s.M.W.length a5) := cell_of_row w6 _ 0 _ _ _ Bk5
    have m5_1 : w6.cell? ⟨v5, 1, none⟩ = some (.slice B5 y.s.M.G.length b5) := cell_of_row w6 _ 1 _ _ _ Bk5
    have m5_2 : w6.cell? ⟨v5, 2, none⟩ = some (.bool y.s.M.bad) := cell_of_row w6 _ 2 _ _ _ Bk5
    have m5_3 : w6.cell? ⟨v5, 3, none⟩ = some (.slice C5 y.s.C.length c5) := cell_of_row w6 _ 3 _ _ _ Bk5
    have m5_4 : w6.cell? ⟨v5, 4, none⟩ = some (.slice L5 y.s.L.length d5) := cell_of_row w6 _ 4 _ _ _ Bk5
    go_upto_region 15 with (go_at_call 17; (with_reducible refine (HST.out _ S5).mono ?_); rintro e w7 ⟨A6, B6, C6, L6, a6, b6, c6, d6, rfl, rW, rG, rC, rL, hk⟩)
    clear m5_0 m5_1 m5_2 m5_3 m5_4
    have S6 : RS w7 y.s A6 B6 C6 L6 := ⟨rW, rG, rC, rL⟩
    clear rW rG rC rL
    replace Bk5 := (hk.block v5 lt5).trans Bk5
    replace lt5 := Nat.lt_of_lt_of_le lt5 hk.size
    replace BkF := (hk.block vF ltF).trans BkF
    replace ltF := Nat.lt_of_lt_of_le ltF hk.size
    replace hP := hP.step hk
    replace S5 := S5.step hk
    replace hb := bstep hb hk
    clear hk
    clear HST
    have Bk6 := heap_alloc_new w7 (.cells #[.slice A6 y.s.M.W.length a6, .slice B6 y.s.M.G.length b6, .bool y.s.M.bad, .slice C6 y.s.C.length c6, .slice L6 y.s.L.length d6] 30)
    have lt6 : w7.heap.size < (w7.alloc (.cells #[.slice A6 y.s.M.W.length a6, .slice B6 y.s.M.G.length b6, .bool y.s.M.bad, .slice C6 y.s.C.length c6, .slice L6 y.s.L.length d6] 30)).heap.size := by simp
    have hk : Below w7.heap.size w7 (w7.alloc (.cells #[.slice A6 y.s.M.W.length a6, .slice B6 y.s.M.G.length b6, .bool y.s.M.bad, .slice C6 y.s.C.length c6, .slice L6 y.s.L.length d6] 30)) := boxed _ _
    replace Bk5 := (hk.block v5 lt5).trans Bk5
    replace lt5 := Nat.lt_of_lt_of_le lt5 hk.size
    replace BkF := (hk.block vF ltF).trans BkF
    replace ltF := Nat.lt_of_lt_of_le ltF hk.size
    replace hP := hP.step hk
    replace S5 := S5.step hk
    replace S6 := S6.step hk
    replace hb := bstep hb hk
    clear hk
    obtain ⟨v6, hv⟩ : ∃ v, w7.heap.size = v := ⟨_, rfl⟩
    rw [hv] at Bk6 lt6 ⊢
    clear hv
    generalize (w7.alloc (.cells #[.slice A6 y.s.M.W.length a6, .slice B6 y.s.M.G.length b6, .bool y.s.M.bad, .slice C6 y.s.C.length c6, .slice L6 y.s.L.length d6] 30)) = w8 at *
    have hcl := HCL.out
    have hwl := HWL.out
    rw [hcl] at Bk6
    obtain ⟨bA5, oA5, eA5, lA5, atA⟩ := S5.W (by omega)
    subst eA5
    obtain ⟨bA6, oA6, eA6, lA6, atB⟩ := S6.W (by omega)
    subst eA6
    obtain ⟨a0, ha0⟩ : ∃ a, y.s.M.W[0]? = some a := ⟨_, List.getElem?_eq_getElem (by omega)⟩
    have ca := atA 0 a0 ha0
    have cb := atB 0 a0 ha0
    rw [Nat.add_zero] at ca cb
    clear atA atB ha0
    have l0 : (0 : Int) < (y.s.M.W.length : Int) := by omega
    have l1 : 0 < y.s.M.W.length := by omega
    have HSM := hid (show ∀ w, RS w y.s (some ⟨bA5, oA5, none⟩) B5 C5 L5 → RS w y.s (some ⟨bA6, oA6, none⟩) B6 C6 L6 → Calls Try.prog 19 #[.agg #[.slice (some ⟨bA5, oA5, none⟩) y.s.M.W.length a5, .slice B5 y.s.M.G.length b5, .bool y.s.M.bad, .slice C5 y.s.C.length c5, .slice L5 y.s.L.length d5], .agg #[.slice (some ⟨bA6, oA6, none⟩) y.s.M.W.length a6, .slice B6 y.s.M.G.length b6, .bool y.s.M.bad, .slice C6 c c6, .slice L6 y.s.L.length d6]] w fun e w' => e = .returned (.bool true) ∧ Below w.heap.size w w' from fun w h1 h2 => by have h9 := rsame_u (some ⟨bA5, oA5, none⟩) B5 C5 L5 (some ⟨bA6, oA6, none⟩) B6 C6 L6 a5 b5 c5 d5 a6 b6 c6 d6 y.s y.s w HI.out.ok.few h1 h2; rw [sySame_self] at h9; rw [← hcl]; exact h9)
    clear hcl hwl
    have m5_0 : w8.cell? ⟨v5, 0, none⟩ = some (.slice (some ⟨bA5, oA5, none⟩) y.s.M.W.length a5) := cell_of_row w8 _ 0 _ _ _ Bk5
    have m5_1 : w8.cell? ⟨v5, 1, none⟩ = some (.slice B5 y.s.M.G.length b5) := cell_of_row w8 _ 1 _ _ _ Bk5
    have m5_2 : w8.cell? ⟨v5, 2, none⟩ = some (.bool y.s.M.bad) := cell_of_row w8 _ 2 _ _ _ Bk5
    have m5_3 : w8.cell? ⟨v5, 3, none⟩ = some (.slice C5 y.s.C.length c5) := cell_of_row w8 _ 3 _ _ _ Bk5
    have m5_4 : w8.cell? ⟨v5, 4, none⟩ = some (.slice L5 y.s.L.length d5) := cell_of_row w8 _ 4 _ _ _ Bk5
    have m6_0 : w8.cell? ⟨v6, 0, none⟩ = some (.slice (some ⟨bA6, oA6, none⟩) y.s.M.W.length a6) := cell_of_row w8 _ 0 _ _ _ Bk6
    have m6_1 : w8.cell? ⟨v6, 1, none⟩ = some (.slice B6 y.s.M.G.length b6) := cell_of_row w8 _ 1 _ _ _ Bk6
    have m6_2 : w8.cell? ⟨v6, 2, none⟩ = some (.bool y.s.M.bad) := cell_of_row w8 _ 2 _ _ _ Bk6
    have m6_3 : w8.cell? ⟨v6, 3, none⟩ = some (.slice C6 c c6) := cell_of_row w8 _ 3 _ _ _ Bk6
    have m6_4 : w8.cell? ⟨v6, 4, none⟩ = some (.slice L6 y.s.L.length d6) := cell_of_row w8 _ 4 _ _ _ Bk6
    go_wp2_with (go_at_call 19; (with_reducible refine (HSM.out _ S5 S6).mono ?_); rintro e wz ⟨rfl, hk⟩)
    go_ret
    exact ⟨rfl, bstep hb hk⟩
  · obtain ⟨x9, hC9, hW9, hcs9⟩ := HI.out.ti.tags n2 (by omega) hx hF
    have htp := top_core hx hF
    rcases pTop_cases y.s (j : Int) HI.out.ok.few S5.C with hp | ⟨op, pc, r0, r1, r2, r3, r4, r5, r6, r7, xs, hp, h6⟩
    · rw [htp] at hp; cases hp
    rw [htp] at hp
    obtain rfl := Option.some.inj hp
    clear hp
    obtain ⟨t, ht⟩ : ∃ t, t = pStep y.s (j : Int) := ⟨_, rfl⟩
    have HST := hid (show ∀ w, RS w y.s A5 B5 C5 L5 → Calls Try.prog 17 #[.agg #[.slice A5 y.s.M.W.length a5, .slice B5 y.s.M.G.length b5, .bool y.s.M.bad, .slice C5 y.s.C.length c5, .slice L5 y.s.L.length d5], .int .i64 (j : Int)] w (RetSys w t) from fun w k1 => by rw [ht]; exact step_any A5 B5 C5 L5 a5 b5 c5 d5 y.s (j : Int) w HI.out.ok.few HI.out.ok.g k1 (by have := HI.out.ok.l; omega))
    rw [← ht] at hC9 hW9 hcs9
    clear ht
    have HX9 := hid (show t.C[j]? = some x9 by rw [hC9]; exact List.getElem?_set_self (by rw [HCL.out]; exact hjc))
    have HCT := hid (show t.C.length = c by rw [hC9, List.length_set]; exact HCL.out)
    have HW9 := hid hW9
    have HCS := hid hcs9
    clear hC9 hW9 hcs9 hx hF
    have m5_0 : w4.cell? ⟨v5, 0, none⟩ = some (.slice A5 y.s.M.W.length a5) := cell_of_row w4 _ 0 _ _ _ Bk5
    have m5_1 : w4.cell? ⟨v5, 1, none⟩ = some (.slice B5 y.s.M.G.length b5) := cell_of_row w4 _ 1 _ _ _ Bk5
    have m5_2 : w4.cell? ⟨v5, 2, none⟩ = some (.bool y.s.M.bad) := cell_of_row w4 _ 2 _ _ _ Bk5
    have m5_3 : w4.cell? ⟨v5, 3, none⟩ = some (.slice C5 y.s.C.length c5) := cell_of_row w4 _ 3 _ _ _ Bk5
    have m5_4 : w4.cell? ⟨v5, 4, none⟩ = some (.slice L5 y.s.L.length d5) := cell_of_row w4 _ 4 _ _ _ Bk5
    have HT := hid (show ∀ w, RS w y.s A5 B5 C5 L5 → Calls Try.prog 14 #[.agg #[.slice A5 y.s.M.W.length a5, .slice B5 y.s.M.G.length b5, .bool y.s.M.bad, .slice C5 y.s.C.length c5, .slice L5 y.s.L.length d5], .int .i64 (j : Int)] w _ from fun w k1 => rtop_is A5 B5 C5 L5 a5 b5 c5 d5 y.s (j : Int) op pc r0 r1 r2 r3 r4 r5 r6 r7 xs w HI.out.ok.few k1 htp h6)
    clear htp
    go_upto_region 14 with (go_at_call 14; (with_reducible refine (HT.out _ S5).mono ?_); rintro e w5 ⟨A2, c2e, rfl, _, hk⟩)
    clear m5_0 m5_1 m5_2 m5_3 m5_4
    replace Bk5 := (hk.block v5 lt5).trans Bk5
    replace lt5 := Nat.lt_of_lt_of_le lt5 hk.size
    replace hP := hP.step hk
    replace S5 := S5.step hk
    replace hb := bstep hb hk
    clear hk
    clear HT
    have BkF := heap_alloc_new w5 (.cells #[.int .i64 op, .int .i64 pc, .int .i64 r0, .int .i64 r1, .int .i64 r2, .int .i64 r3, .int .i64 r4, .int .i64 r5, .int .i64 r6, .int .i64 r7, .slice A2 xs.length c2e] 38)
    have ltF : w5.heap.size < (w5.alloc (.cells #[.int .i64 op, .int .i64 pc, .int .i64 r0, .int .i64 r1, .int .i64 r2, .int .i64 r3, .int .i64 r4, .int .i64 r5, .int .i64 r6, .int .i64 r7, .slice A2 xs.length c2e] 38)).heap.size := by simp
    have hk : Below w5.heap.size w5 (w5.alloc (.cells #[.int .i64 op, .int .i64 pc, .int .i64 r0, .int .i64 r1, .int .i64 r2, .int .i64 r3, .int .i64 r4, .int .i64 r5, .int .i64 r6, .int .i64 r7, .slice A2 xs.length c2e] 38)) := boxed _ _
    replace Bk5 := (hk.block v5 lt5).trans Bk5
    replace lt5 := Nat.lt_of_lt_of_le lt5 hk.size
    replace hP := hP.step hk
    replace S5 := S5.step hk
    replace hb := bstep hb hk
    clear hk
    obtain ⟨vF, hv⟩ : ∃ v, w5.heap.size = v := ⟨_, rfl⟩
    rw [hv] at BkF ltF ⊢
    clear hv
    generalize (w5.alloc (.cells #[.int .i64 op, .int .i64 pc, .int .i64 r0, .int .i64 r1, .int .i64 r2, .int .i64 r3, .int .i64 r4, .int .i64 r5, .int .i64 r6, .int .i64 r7, .slice A2 xs.length c2e] 38)) = w6 at *
    have m5_0 : w6.cell? ⟨v5, 0, none⟩ = some (.slice A5 y.s.M.W.length a5) := cell_of_row w6 _ 0 _ _ _ Bk5
    have m5_1 : w6.cell? ⟨v5, 1, none⟩ = some (.slice B5 y.s.M.G.length b5) := cell_of_row w6 _ 1 _ _ _ Bk5
    have m5_2 : w6.cell? ⟨v5, 2, none⟩ = some (.bool y.s.M.bad) := cell_of_row w6 _ 2 _ _ _ Bk5
    have m5_3 : w6.cell? ⟨v5, 3, none⟩ = some (.slice C5 y.s.C.length c5) := cell_of_row w6 _ 3 _ _ _ Bk5
    have m5_4 : w6.cell? ⟨v5, 4, none⟩ = some (.slice L5 y.s.L.length d5) := cell_of_row w6 _ 4 _ _ _ Bk5
    go_upto_region 15 with (go_at_call 17; (with_reducible refine (HST.out _ S5).mono ?_); rintro e w7 ⟨A6, B6, C6, L6, a6, b6, c6, d6, rfl, rW, rG, rC, rL, hk⟩)
    clear m5_0 m5_1 m5_2 m5_3 m5_4
    have S6 : RS w7 t A6 B6 C6 L6 := ⟨rW, rG, rC, rL⟩
    clear rW rG rC rL
    replace Bk5 := (hk.block v5 lt5).trans Bk5
    replace lt5 := Nat.lt_of_lt_of_le lt5 hk.size
    replace BkF := (hk.block vF ltF).trans BkF
    replace ltF := Nat.lt_of_lt_of_le ltF hk.size
    replace hP := hP.step hk
    replace S5 := S5.step hk
    replace hb := bstep hb hk
    clear hk
    clear HST
    have Bk6 := heap_alloc_new w7 (.cells #[.slice A6 t.M.W.length a6, .slice B6 t.M.G.length b6, .bool t.M.bad, .slice C6 t.C.length c6, .slice L6 t.L.length d6] 30)
    have lt6 : w7.heap.size < (w7.alloc (.cells #[.slice A6 t.M.W.length a6, .slice B6 t.M.G.length b6, .bool t.M.bad, .slice C6 t.C.length c6, .slice L6 t.L.length d6] 30)).heap.size := by simp
    have hk : Below w7.heap.size w7 (w7.alloc (.cells #[.slice A6 t.M.W.length a6, .slice B6 t.M.G.length b6, .bool t.M.bad, .slice C6 t.C.length c6, .slice L6 t.L.length d6] 30)) := boxed _ _
    replace Bk5 := (hk.block v5 lt5).trans Bk5
    replace lt5 := Nat.lt_of_lt_of_le lt5 hk.size
    replace BkF := (hk.block vF ltF).trans BkF
    replace ltF := Nat.lt_of_lt_of_le ltF hk.size
    replace hP := hP.step hk
    replace S5 := S5.step hk
    replace S6 := S6.step hk
    replace hb := bstep hb hk
    clear hk
    obtain ⟨v6, hv⟩ : ∃ v, w7.heap.size = v := ⟨_, rfl⟩
    rw [hv] at Bk6 lt6 ⊢
    clear hv
    generalize (w7.alloc (.cells #[.slice A6 t.M.W.length a6, .slice B6 t.M.G.length b6, .bool t.M.bad, .slice C6 t.C.length c6, .slice L6 t.L.length d6] 30)) = w8 at *
    have hct := HCT.out
    have hwl := HWL.out
    have hw9 := HW9.out
    obtain ⟨bC6, oC6, eC6, lC6, atC⟩ := S6.C (by omega)
    subst eC6
    obtain ⟨AFx, ARx, cFx, cRx, hcx, _, _⟩ := (atC j _ HX9.out).cs
    clear atC
    have z0 : w8.cell? ⟨bC6, oC6 + j * 7, none⟩ = some (.slice AFx x9.F.length cFx) := by have h := hcx 0 _ rfl; simpa using h
    have z2 : w8.cell? ⟨bC6, oC6 + j * 7 + 2, none⟩ = some (.int .i64 x9.e) := by have h := hcx 2 _ rfl; simpa using h
    clear hcx
    obtain ⟨bA5, oA5, eA5, lA5, atA⟩ := S5.W (by omega)
    subst eA5
    obtain ⟨bA6, oA6, eA6, lA6, atB⟩ := S6.W (by omega)
    subst eA6
    have ha0 : y.s.M.W[0]? = some (y.s.M.W.getD 0 0) := by rw [List.getD_eq_getElem?_getD, List.getElem?_eq_getElem (show 0 < y.s.M.W.length by omega)]; rfl
    have hb0 : t.M.W[0]? = some (t.M.W.getD 0 0) := by rw [List.getD_eq_getElem?_getD, List.getElem?_eq_getElem (show 0 < t.M.W.length by omega)]; rfl
    have ca := atA 0 _ ha0
    have cb := atB 0 _ hb0
    rw [Nat.add_zero] at ca cb
    clear atA atB ha0 hb0
    rw [hct] at Bk6
    rw [hw9] at Bk6
    have l0 : (0 : Int) < (y.s.M.W.length : Int) := by omega
    have l1 : 0 < y.s.M.W.length := by omega
    have jc : (j : Int) < (c : Int) := by omega
    have j0 : 0 ≤ (j : Int) := by omega
    clear hct hwl hw9
    have m5_0 : w8.cell? ⟨v5, 0, none⟩ = some (.slice (some ⟨bA5, oA5, none⟩) y.s.M.W.length a5) := cell_of_row w8 _ 0 _ _ _ Bk5
    have m5_1 : w8.cell? ⟨v5, 1, none⟩ = some (.slice B5 y.s.M.G.length b5) := cell_of_row w8 _ 1 _ _ _ Bk5
    have m5_2 : w8.cell? ⟨v5, 2, none⟩ = some (.bool y.s.M.bad) := cell_of_row w8 _ 2 _ _ _ Bk5
    have m5_3 : w8.cell? ⟨v5, 3, none⟩ = some (.slice C5 y.s.C.length c5) := cell_of_row w8 _ 3 _ _ _ Bk5
    have m5_4 : w8.cell? ⟨v5, 4, none⟩ = some (.slice L5 y.s.L.length d5) := cell_of_row w8 _ 4 _ _ _ Bk5
    have m6_0 : w8.cell? ⟨v6, 0, none⟩ = some (.slice (some ⟨bA6, oA6, none⟩) y.s.M.W.length a6) := cell_of_row w8 _ 0 _ _ _ Bk6
    have m6_1 : w8.cell? ⟨v6, 1, none⟩ = some (.slice B6 t.M.G.length b6) := cell_of_row w8 _ 1 _ _ _ Bk6
    have m6_2 : w8.cell? ⟨v6, 2, none⟩ = some (.bool t.M.bad) := cell_of_row w8 _ 2 _ _ _ Bk6
    have m6_3 : w8.cell? ⟨v6, 3, none⟩ = some (.slice (some ⟨bC6, oC6, none⟩) c c6) := cell_of_row w8 _ 3 _ _ _ Bk6
    have m6_4 : w8.cell? ⟨v6, 4, none⟩ = some (.slice L6 t.L.length d6) := cell_of_row w8 _ 4 _ _ _ Bk6
    have hcs := HCS.out
    obtain ⟨va, hva⟩ : ∃ a, a = y.s.M.W.getD 0 0 := ⟨_, rfl⟩
    obtain ⟨vb, hvb⟩ : ∃ a, a = t.M.W.getD 0 0 := ⟨_, rfl⟩
    rw [← hva] at ca hcs
    rw [← hvb] at cb hcs
    clear hva hvb
    rcases hcs with ⟨hF, her, htg⟩ | ⟨hne, hab⟩
    · have e0 : x9.F.length = 0 := by rw [hF]; rfl
      rw [e0] at z0
      rw [her] at z2
      clear e0 hF her HCS
      have g1 : 0 ≤ pTag va := by unfold pTag; omega
      have g2 : pTag va ≤ 9223372036854775000 := by unfold pTag; omega
      go_wp2_with (go_at_call 20; (with_reducible refine (Pk.rtag_any _ _).mono ?_); rintro e wz ⟨rfl, rfl⟩)
      go_ret
      exact ⟨rfl, hb⟩
    · subst hab
      by_cases hF : x9.F = []
      · have her : ¬ x9.e = 0 := fun q => hne ⟨hF, q⟩
        have e0 : x9.F.length = 0 := by rw [hF]; rfl
        rw [e0] at z0
        have e2 : (x9.e == 0) = false := by simpa using her
        clear e0 hF her hne HCS
        go_wp2_with (go_at_call 20; (with_reducible refine (Pk.rtag_any _ _).mono ?_); rintro e wz ⟨rfl, rfl⟩)
        go_ret
        exact ⟨rfl, hb⟩
      · have fl0 : ¬ x9.F.length = 0 := by simpa using hF
        clear hF hne HCS
        generalize x9.F.length = fl at *
        have m0 : ((fl : Int) == 0) = false := by simp; omega
        have m1 : (fl == 0) = false := by simp; omega
        go_wp2_with (go_at_call 20; (with_reducible refine (Pk.rtag_any _ _).mono ?_); rintro e wz ⟨rfl, rfl⟩)
        go_ret
        exact ⟨rfl, hb⟩

set_option maxRecDepth 100000 in
set_option maxHeartbeats 16000000 in
theorem walk (x0 x1 : Int) (AP : Option Addr) (us : List Nat) (cp : Nat) (x3 : Int) (w0 : World) (hP : RowU w0 AP us) (u0 : 0 ≤ x0) (u1 : x0 ≤ 255) (u2 : 0 ≤ x1) (u3 : x1 ≤ 255) (v0 : 0 ≤ x3) (v1 : x3 ≤ 255) :
    Calls Try.prog 6 #[.agg #[.int .u8 x0, .int .u8 x1, .slice AP us.length cp, .int .u8 x3]] w0 fun e w' => e = .returned (.bool true) ∧ Below w0.heap.size w0 w' := by
  by_cases hlen : us.length ≤ 200
  · exact walk_few x0 x1 AP us cp x3 w0 hP u0 u1 u2 u3 v0 v1 hlen
  · exact walk_many x0 x1 AP us cp x3 w0 hP u0 u1 u2 u3 v0 v1 (by omega)

set_option maxRecDepth 100000 in
theorem lifted (os : Os) (started : os.Started) (H : Type) (enc : TypeId × Value → H) :
    ReturnsInHanded {} Try.checked os 6 .any (Rows.stackTagsSpec.pre6 enc Try.prog Try.f6 Rows.stackTagsRow.domain false) (Rows.stackTagsSpec.post enc Try.prog Try.f6 false true false false) := by
  refine returnsInHanded_of_change (C := Try.checked) own started (by kernel_rfl) Try.func6
    (ChangeSpec.witness6 (enc := enc) (C := Try.checked) false ⟨#[], #[.agg #[.int .u8 0, .int .u8 0, .slice none 0 0, .int .u8 0]], []⟩ 8 (by kernel_rfl) (by kernel_rfl) (by kernel_rfl) (by kernel_rfl)) ?_
  intro W base args ds gs before hval0 hW hcnd _
  have hval : ∀ (j : Nat) t v, Try.f6.params[j]? = some t → args[j]? = some v → Value.okWide Try.prog W .any base t v := hval0
  have hW' := hW
  obtain ⟨p, q, hA0, hV, rfl, hfz, hnd⟩ := hW
  have hA : DataW.TrodAll enc Try.prog W 0 (fun _ => true) true Try.f6.params.toList args.toList ds p := hA0
  rw [Try.params6] at hA hval
  obtain ⟨v0, vs0, d0, ds0, p0, q0, hargs, rfl, rfl, h0, r0⟩ := trodAll_cons hA
  obtain ⟨rfl, rfl, rfl⟩ := trodAll_nil r0
  obtain rfl : args = #[v0] := by cases args; simp_all
  obtain ⟨rfl, rfl⟩ := trodVars_none hV
  clear hA0 hval0
  obtain ⟨x0, x1, AP, us, cp, x3, rfl, hP, u0, u1, u2, u3, q0, q1⟩ := open_tags (hval 0 _ v0 rfl rfl) h0
  refine (walk x0 x1 AP us cp x3 W hP u0 u1 u2 u3 q0 q1).mono fun e W' ⟨he, hb⟩ => ?_
  subst he
  exact ⟨_, rfl, law_post (tb := 4) (by kernel_rfl) (by kernel_rfl) (by kernel_rfl) Try.underlying4 rfl hW' rfl hb⟩

theorem over : Rows.stackTagsRow.holds Try.pinned (OpenSpec.ofChange Rows.stackTagsSpec) :=
  OpenClaim.holds_of_wide 6 Try.f6 rfl rfl rfl rfl rfl rfl rfl ⟨rfl, rfl, rfl, rfl, rfl⟩ rfl rfl rfl rfl rfl (by kernel_rfl) Try.func6 (by kernel_rfl)
    (of_decide_eq_true (by kernel_rfl)) (by unfold Func.isWrapper; first | (rw [if_pos (by decide +kernel)]; kernel_rfl) | (rw [if_neg (by decide +kernel)]; exact ⟨rfl, rfl⟩))
    (fun os started H enc _ => lifted os started H enc)
end StackTags

theorem stackTags_holds : Rows.StackTagsSaid := StackTags.over
#print axioms stackTags_holds
end Go.Proofs.Ytlknpmdmnekedaa
