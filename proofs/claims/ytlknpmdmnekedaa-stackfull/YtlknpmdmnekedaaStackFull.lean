/- For every struct of two bytes, a row of 16-bit picks and a byte, the law StackFull (a pop tells that no node is free just where none is, at that very step: all are at cores) returns true, and the arguments read afterwards as before. No conditions. -/
import Derived.Test.YtlknpmdmnekedaaRows
import Derived.Test.YtlknpmdmnekedaaKSho
import Derived.Test.YtlknpmdmnekedaaOpenP
import Derived.Test.YtlknpmdmnekedaaStkW
import Derived.Test.YtlknpmdmnekedaaKBas
namespace Go.Proofs.Ytlknpmdmnekedaa
namespace StackFull
open Go.ChangeShapes Go.WideShapes Go.ChangeAt Go.RowKit
set_option linter.unusedVariables false
set_option linter.unusedSimpArgs false

theorem own : ownKnob Try.prog.godebug = none := by kernel_rfl
set_option maxRecDepth 100000 in
set_option maxHeartbeats 16000000 in
theorem walk_many (x0 x1 : Int) (AP : Option Addr) (us : List Nat) (cp : Nat) (x3 : Int) (w0 : World) (hP : RowU w0 AP us) (u0 : 0 ≤ x0) (u1 : x0 ≤ 255) (u2 : 0 ≤ x1) (u3 : x1 ≤ 255) (v0 : 0 ≤ x3) (v1 : x3 ≤ 255) (hlen : 200 < us.length) :
    Calls Try.prog 4 #[.agg #[.int .u8 x0, .int .u8 x1, .slice AP us.length cp, .int .u8 x3]] w0 fun e w' => e = .returned (.bool true) ∧ Below w0.heap.size w0 w' := by
  have hb : Below w0.heap.size w0 w0 := Below.refl _ _
  obtain ⟨c, hc⟩ : ∃ n : Nat, 1 + x0 % 8 = (n : Int) := ⟨(1 + x0 % 8).toNat, by omega⟩
  have c1 : 1 ≤ c := by omega
  have c2 : c ≤ 8 := by omega
  obtain ⟨n, hn⟩ : ∃ n : Nat, 1 + x1 % 6 = (n : Int) := ⟨(1 + x1 % 6).toNat, by omega⟩
  have n1 : 1 ≤ n := by omega
  have n2 : n ≤ 200 := by omega
  go_enter Try.func4, Try.ntmps4
  go_upto_region 1 with (fail)
  have Bk9 := heap_alloc_new w0 (.cells #[.int .u8 x0, .int .u8 x1, .slice AP us.length cp, .int .u8 x3] 44)
  have lt9 : w0.heap.size < (w0.alloc (.cells #[.int .u8 x0, .int .u8 x1, .slice AP us.length cp, .int .u8 x3] 44)).heap.size := by simp
  have hk : Below w0.heap.size w0 (w0.alloc (.cells #[.int .u8 x0, .int .u8 x1, .slice AP us.length cp, .int .u8 x3] 44)) := boxed _ _
  replace hP := hP.step hk
  replace hb := bstep hb hk
  clear hk
  obtain ⟨v9, hv⟩ : ∃ v, w0.heap.size = v := ⟨_, rfl⟩
  rw [hv] at Bk9 lt9 ⊢
  clear hv
  generalize (w0.alloc (.cells #[.int .u8 x0, .int .u8 x1, .slice AP us.length cp, .int .u8 x3] 44)) = w1 at *
  have m9_0 : w1.cell? ⟨v9, 0, none⟩ = some (.int .u8 x0) := cell_of_row w1 _ 0 _ _ _ Bk9
  have m9_1 : w1.cell? ⟨v9, 1, none⟩ = some (.int .u8 x1) := cell_of_row w1 _ 1 _ _ _ Bk9
  have m9_2 : w1.cell? ⟨v9, 2, none⟩ = some (.slice AP us.length cp) := cell_of_row w1 _ 2 _ _ _ Bk9
  have m9_3 : w1.cell? ⟨v9, 3, none⟩ = some (.int .u8 x3) := cell_of_row w1 _ 3 _ _ _ Bk9
  go_wp2_with fail
  refine (shown4_any _).mono ?_
  rintro e w2 ⟨rfl, hk⟩
  clear m9_0 m9_1 m9_2 m9_3
  replace Bk9 := (hk.block v9 lt9).trans Bk9
  replace lt9 := Nat.lt_of_lt_of_le lt9 hk.size
  replace hP := hP.step hk
  replace hb := bstep hb hk
  clear hk
  clear Bk9 lt9
  have hlq : (200 : Int) < (us.length : Int) := by omega
  go_wp2_with fail
  go_ret
  exact ⟨rfl, hb⟩

set_option maxRecDepth 100000 in
set_option maxHeartbeats 16000000 in
theorem walk_few (x0 x1 : Int) (AP : Option Addr) (us : List Nat) (cp : Nat) (x3 : Int) (w0 : World) (hP : RowU w0 AP us) (u0 : 0 ≤ x0) (u1 : x0 ≤ 255) (u2 : 0 ≤ x1) (u3 : x1 ≤ 255) (v0 : 0 ≤ x3) (v1 : x3 ≤ 255) (hlen : us.length ≤ 200) :
    Calls Try.prog 4 #[.agg #[.int .u8 x0, .int .u8 x1, .slice AP us.length cp, .int .u8 x3]] w0 fun e w' => e = .returned (.bool true) ∧ Below w0.heap.size w0 w' := by
  have hb : Below w0.heap.size w0 w0 := Below.refl _ _
  obtain ⟨c, hc⟩ : ∃ n : Nat, 1 + x0 % 8 = (n : Int) := ⟨(1 + x0 % 8).toNat, by omega⟩
  have c1 : 1 ≤ c := by omega
  have c2 : c ≤ 8 := by omega
  obtain ⟨n, hn⟩ : ∃ n : Nat, 1 + x1 % 6 = (n : Int) := ⟨(1 + x1 % 6).toNat, by omega⟩
  have n1 : 1 ≤ n := by omega
  have n2 : n ≤ 200 := by omega
  go_enter Try.func4, Try.ntmps4
  go_upto_region 1 with (fail)
  have Bk9 := heap_alloc_new w0 (.cells #[.int .u8 x0, .int .u8 x1, .slice AP us.length cp, .int .u8 x3] 44)
  have lt9 : w0.heap.size < (w0.alloc (.cells #[.int .u8 x0, .int .u8 x1, .slice AP us.length cp, .int .u8 x3] 44)).heap.size := by simp
  have hk : Below w0.heap.size w0 (w0.alloc (.cells #[.int .u8 x0, .int .u8 x1, .slice AP us.length cp, .int .u8 x3] 44)) := boxed _ _
  replace hP := hP.step hk
  replace hb := bstep hb hk
  clear hk
  obtain ⟨v9, hv⟩ : ∃ v, w0.heap.size = v := ⟨_, rfl⟩
  rw [hv] at Bk9 lt9 ⊢
  clear hv
  generalize (w0.alloc (.cells #[.int .u8 x0, .int .u8 x1, .slice AP us.length cp, .int .u8 x3] 44)) = w1 at *
  have m9_0 : w1.cell? ⟨v9, 0, none⟩ = some (.int .u8 x0) := cell_of_row w1 _ 0 _ _ _ Bk9
  have m9_1 : w1.cell? ⟨v9, 1, none⟩ = some (.int .u8 x1) := cell_of_row w1 _ 1 _ _ _ Bk9
  have m9_2 : w1.cell? ⟨v9, 2, none⟩ = some (.slice AP us.length cp) := cell_of_row w1 _ 2 _ _ _ Bk9
  have m9_3 : w1.cell? ⟨v9, 3, none⟩ = some (.int .u8 x3) := cell_of_row w1 _ 3 _ _ _ Bk9
  go_wp2_with fail
  refine (shown4_any _).mono ?_
  rintro e w2 ⟨rfl, hk⟩
  clear m9_0 m9_1 m9_2 m9_3
  replace Bk9 := (hk.block v9 lt9).trans Bk9
  replace lt9 := Nat.lt_of_lt_of_le lt9 hk.size
  replace hP := hP.step hk
  replace hb := bstep hb hk
  clear hk
  clear Bk9 lt9
  have hlq : ¬ (200 : Int) < (us.length : Int) := by omega
  obtain ⟨y, hy⟩ : ∃ y, y = pPlay c n us := ⟨_, rfl⟩
  have HP := hid (show ∀ w, RowU w AP us → Calls Try.prog 12 #[.int .i64 (c : Int), .int .i64 (n : Int), .slice AP us.length cp] w (RetPlay w y) from fun w h => by rw [hy]; exact play_any c n us AP cp w c1 c2 n1 n2 (by omega) h)
  have hI := PInv.play n1 n2 c1 c2 us us.length (Nat.le_refl _) (by omega)
  have hAl := alive_play n1 n2 c1 us (by omega)
  rw [List.take_length, ← hy] at hI
  rw [← hy] at hAl
  have HI := hid hI
  have HAL := hid hAl
  clear hI hAl hy
  go_upto_region 11 with (go_at_call 12; (with_reducible refine (HP.out _ hP).mono ?_); rintro e w3 ⟨A5, B5, C5, L5, a5, b5, c5, d5, g5, qs5, rfl, S5, O5, hk⟩)
  replace hP := hP.step hk
  replace hb := bstep hb hk
  clear hk
  have Bk5 := heap_alloc_new w3 (.cells #[.slice A5 y.s.M.W.length a5, .slice B5 y.s.M.G.length b5, .bool y.s.M.bad, .slice C5 y.s.C.length c5, .slice L5 y.s.L.length d5] 30)
  have lt5 : w3.heap.size < (w3.alloc (.cells #[.slice A5 y.s.M.W.length a5, .slice B5 y.s.M.G.length b5, .bool y.s.M.bad, .slice C5 y.s.C.length c5, .slice L5 y.s.L.length d5] 30)).heap.size := by simp
  have hk : Below w3.heap.size w3 (w3.alloc (.cells #[.slice A5 y.s.M.W.length a5, .slice B5 y.s.M.G.length b5, .bool y.s.M.bad, .slice C5 y.s.C.length c5, .slice L5 y.s.L.length d5] 30)) := boxed _ _
  have nw5 : w0.heap.size ≤ w3.heap.size := hb.size
  replace hP := hP.step hk
  replace S5 := S5.step hk
  replace hb := bstep hb hk
  clear hk
  obtain ⟨v5, hv⟩ : ∃ v, w3.heap.size = v := ⟨_, rfl⟩
  replace nw5 := Nat.le_trans nw5 (Nat.le_of_eq hv)
  rw [hv] at Bk5 lt5 ⊢
  clear hv
  generalize (w3.alloc (.cells #[.slice A5 y.s.M.W.length a5, .slice B5 y.s.M.G.length b5, .bool y.s.M.bad, .slice C5 y.s.C.length c5, .slice L5 y.s.L.length d5] 30)) = w4 at *
  clear HP hlq
  obtain ⟨j, hj⟩ : ∃ j : Nat, x3 % (c : Int) = (j : Int) := ⟨(x3 % (c : Int)).toNat, by rw [Int.toNat_of_nonneg (Int.emod_nonneg _ (by omega))]⟩
  have hjc : j < c := by have := Int.emod_lt_of_pos x3 (show (0 : Int) < (c : Int) by omega); omega
  clear hP
  go_upto_region 14 with (fail)
  have HCL := hid (show y.s.C.length = c from HI.out.ti.cl)
  obtain ⟨x, hx⟩ : ∃ x, y.s.C[j]? = some x := ⟨_, List.getElem?_eq_getElem (by rw [HCL.out]; exact hjc)⟩
  obtain ⟨T, l, hT, tri, fr, _⟩ := HI.out.ti.ex
  have HWL := hid (show 128 ≤ y.s.M.W.length by have := tri.ia.w; omega)
  have hcase := fr j x hx
  clear hT tri fr
  rcases hcase with hF | ⟨f, hF, _⟩
  · have htp := top_idle hx hF
    have hbp := begin_pop (y := y) (k := j) htp
    have hB := HI.out.begin hjc 0
    obtain ⟨_, x8, f8, hx8, hF8⟩ := HI.out.ti.begins hjc 0
    rw [hbp] at hB hx8
    have e8 : pCall y.s (j : Int) (fr1 1 0 0 0) = ⟨y.s.M, y.s.C.set j (cF x [fr1 1 0 0 0]), y.s.L⟩ := call_core hx hF _
    have hf8 : x8.F = [fr1 1 0 0 0] := by
      have h := hx8
      rw [show (PS.mk (pCall y.s (j : Int) (fr1 1 0 0 0)) y.own).s = _ from e8] at h
      rw [show (Sy.mk y.s.M (y.s.C.set j (cF x [fr1 1 0 0 0])) y.s.L).C[j]? = _ from List.getElem?_set_self (by rw [HCL.out]; exact hjc)] at h
      rw [← Option.some.inj h]; rfl
    obtain ⟨u, hu⟩ : ∃ u, u = pCall y.s (j : Int) (fr1 1 0 0 0) := ⟨_, rfl⟩
    obtain ⟨x9, hC9, hcs9⟩ := hB.ti.full n2 (by omega) hx8 hf8
    have OKU := hid hB.ok
    have HCU := hid (show (PS.mk (pCall y.s (j : Int) (fr1 1 0 0 0)) y.own).s.C.length = c from hB.ti.cl)
    dsimp only at hC9 hcs9 OKU HCU
    have HCA := hid (show ∀ w, RS w y.s A5 B5 C5 L5 → Calls Try.prog 16 #[.agg #[.slice A5 y.s.M.W.length a5, .slice B5 y.s.M.G.length b5, .bool y.s.M.bad, .slice C5 y.s.C.length c5, .slice L5 y.s.L.length d5], .int .i64 (j : Int), .int .i64 1, .int .i64 0, .int .i64 0, .int .i64 0] w (RetSys w u) from fun w k1 => by rw [hu]; exact rcall_u A5 B5 C5 L5 a5 b5 c5 d5 y.s (j : Int) 1 0 0 0 w HI.out.ok.few k1)
    rw [← hu] at hC9 hcs9 OKU HCU
    clear hu hbp hB hx8 hF8 hf8 e8 x8 f8 hx hF
    have m5_0 : w4.cell? ⟨v5, 0, none⟩ = some (.slice A5 y.s.M.W.length a5) := cell_of_row w4 _ 0 _ _ _ Bk5
    have m5_1 : w4.cell? ⟨v5, 1, none⟩ = some (.slice B5 y.s.M.G.length b5) := cell_of_row w4 _ 1 _ _ _ Bk5
    have m5_2 : w4.cell? ⟨v5, 2, none⟩ = some (.bool y.s.M.bad) := cell_of_row w4 _ 2 _ _ _ Bk5
    have m5_3 : w4.cell? ⟨v5, 3, none⟩ = some (.slice C5 y.s.C.length c5) := cell_of_row w4 _ 3 _ _ _ Bk5
    have m5_4 : w4.cell? ⟨v5, 4, none⟩ = some (.slice L5 y.s.L.length d5) := cell_of_row w4 _ 4 _ _ _ Bk5
    have HT := hid (show ∀ w, RS w y.s A5 B5 C5 L5 → Calls Try.prog 14 #[.agg #[.slice A5 y.s.M.W.length a5, .slice B5 y.s.M.G.length b5, .bool y.s.M.bad, .slice C5 y.s.C.length c5, .slice L5 y.s.L.length d5], .int .i64 (j : Int)] w _ from fun w k1 => rtop_no A5 B5 C5 L5 a5 b5 c5 d5 y.s (j : Int) w HI.out.ok.few k1 htp)
    clear htp
    go_upto_region 15 with (go_at_call 14; (with_reducible refine (HT.out _ S5).mono ?_); rintro e w5 ⟨rfl, hk⟩)
    clear m5_0 m5_1 m5_2 m5_3 m5_4
    replace Bk5 := (hk.block v5 lt5).trans Bk5
    replace lt5 := Nat.lt_of_lt_of_le lt5 hk.size
    replace S5 := S5.step hk
    replace hb := bstep hb hk
    clear hk
    clear HT
    have BkF := heap_alloc_new w5 (.cells #[.int .i64 0, .int .i64 0, .int .i64 0, .int .i64 0, .int .i64 0, .int .i64 0, .int .i64 0, .int .i64 0, .int .i64 0, .int .i64 0, .slice none 0 0] 38)
    have ltF : w5.heap.size < (w5.alloc (.cells #[.int .i64 0, .int .i64 0, .int .i64 0, .int .i64 0, .int .i64 0, .int .i64 0, .int .i64 0, .int .i64 0, .int .i64 0, .int .i64 0, .slice none 0 0] 38)).heap.size := by simp
    have hk : Below w5.heap.size w5 (w5.alloc (.cells #[.int .i64 0, .int .i64 0, .int .i64 0, .int .i64 0, .int .i64 0, .int .i64 0, .int .i64 0, .int .i64 0, .int .i64 0, .int .i64 0, .slice none 0 0] 38)) := boxed _ _
    have ne5_F : v5 ≠ w5.heap.size := Nat.ne_of_lt lt5
    replace Bk5 := (hk.block v5 lt5).trans Bk5
    replace lt5 := Nat.lt_of_lt_of_le lt5 hk.size
    replace S5 := S5.step hk
    replace hb := bstep hb hk
    clear hk
    obtain ⟨vF, hv⟩ : ∃ v, w5.heap.size = v := ⟨_, rfl⟩
    rw [hv] at BkF ltF ne5_F ⊢
    clear hv
    generalize (w5.alloc (.cells #[.int .i64 0, .int .i64 0, .int .i64 0, .int .i64 0, .int .i64 0, .int .i64 0, .int .i64 0, .int .i64 0, .int .i64 0, .int .i64 0, .slice none 0 0] 38)) = w6 at *
    have m5_0 : w6.cell? ⟨v5, 0, none⟩ = some (.slice A5 y.s.M.W.length a5) := cell_of_row w6 _ 0 _ _ _ Bk5
    have m5_1 : w6.cell? ⟨v5, 1, none⟩ = some (.slice B5 y.s.M.G.length b5) := cell_of_row w6 _ 1 _ _ _ Bk5
    have m5_2 : w6.cell? ⟨v5, 2, none⟩ = some (.bool y.s.M.bad) := cell_of_row w6 _ 2 _ _ _ Bk5
    have m5_3 : w6.cell? ⟨v5, 3, none⟩ = some (.slice C5 y.s.C.length c5) := cell_of_row w6 _ 3 _ _ _ Bk5
    have m5_4 : w6.cell? ⟨v5, 4, none⟩ = some (.slice L5 y.s.L.length d5) := cell_of_row w6 _ 4 _ _ _ Bk5
    have mF_0 : w6.cell? ⟨vF, 0, none⟩ = some (.int .i64 0) := cell_of_row w6 _ 0 _ _ _ BkF
    have mF_1 : w6.cell? ⟨vF, 1, none⟩ = some (.int .i64 0) := cell_of_row w6 _ 1 _ _ _ BkF
    have mF_2 : w6.cell? ⟨vF, 2, none⟩ = some (.int .i64 0) := cell_of_row w6 _ 2 _ _ _ BkF
    have mF_3 : w6.cell? ⟨vF, 3, none⟩ = some (.int .i64 0) := cell_of_row w6 _ 3 _ _ _ BkF
    have mF_4 : w6.cell? ⟨vF, 4, none⟩ = some (.int .i64 0) := cell_of_row w6 _ 4 _ _ _ BkF
    have mF_5 : w6.cell? ⟨vF, 5, none⟩ = some (.int .i64 0) := cell_of_row w6 _ 5 _ _ _ BkF
    have mF_6 : w6.cell? ⟨vF, 6, none⟩ = some (.int .i64 0) := cell_of_row w6 _ 6 _ _ _ BkF
    have mF_7 : w6.cell? ⟨vF, 7, none⟩ = some (.int .i64 0) := cell_of_row w6 _ 7 _ _ _ BkF
    have mF_8 : w6.cell? ⟨vF, 8, none⟩ = some (.int .i64 0) := cell_of_row w6 _ 8 _ _ _ BkF
    have mF_9 : w6.cell? ⟨vF, 9, none⟩ = some (.int .i64 0) := cell_of_row w6 _ 9 _ _ _ BkF
    have mF_10 : w6.cell? ⟨vF, 10, none⟩ = some (.slice none 0 0) := cell_of_row w6 _ 10 _ _ _ BkF
    go_upto_region 19 with (go_at_call 16; (with_reducible refine (HCA.out _ S5).mono ?_); rintro e w7 ⟨A7, B7, C7, L7, a7, b7, c7, d7, rfl, rW, rG, rC, rL, hk⟩; have K7 := (hk.block v5 lt5).trans Bk5; have q0 : w7.cell? ⟨v5, 0, none⟩ = some (.slice A5 y.s.M.W.length a5) := cell_of_row w7 _ 0 _ _ _ K7; have q1 : w7.cell? ⟨v5, 1, none⟩ = some (.slice B5 y.s.M.G.length b5) := cell_of_row w7 _ 1 _ _ _ K7; have q2 : w7.cell? ⟨v5, 2, none⟩ = some (.bool y.s.M.bad) := cell_of_row w7 _ 2 _ _ _ K7; have q3 : w7.cell? ⟨v5, 3, none⟩ = some (.slice C5 y.s.C.length c5) := cell_of_row w7 _ 3 _ _ _ K7; have q4 : w7.cell? ⟨v5, 4, none⟩ = some (.slice L5 y.s.L.length d5) := cell_of_row w7 _ 4 _ _ _ K7; have qf0 : w7.frozen? ⟨v5, 0, none⟩ = false := frozen_of_row w7 _ 0 _ _ K7; have qf1 : w7.frozen? ⟨v5, 1, none⟩ = false := frozen_of_row w7 _ 1 _ _ K7; have qf2 : w7.frozen? ⟨v5, 2, none⟩ = false := frozen_of_row w7 _ 2 _ _ K7; have qf3 : w7.frozen? ⟨v5, 3, none⟩ = false := frozen_of_row w7 _ 3 _ _ K7; have qf4 : w7.frozen? ⟨v5, 4, none⟩ = false := frozen_of_row w7 _ 4 _ _ K7)
    clear m5_0 m5_1 m5_2 m5_3 m5_4 mF_0 mF_1 mF_2 mF_3 mF_4 mF_5 mF_6 mF_7 mF_8 mF_9 mF_10
    have S7 : RS w7 u A7 B7 C7 L7 := ⟨rW, rG, rC, rL⟩
    clear rW rG rC rL HCA q0 qf0 q1 qf1 q2 qf2 q3 qf3 q4 qf4 K7
    replace Bk5 := (hk.block v5 lt5).trans Bk5
    replace lt5 := Nat.lt_of_lt_of_le lt5 hk.size
    replace BkF := (hk.block vF ltF).trans BkF
    replace ltF := Nat.lt_of_lt_of_le ltF hk.size
    replace hb := bstep hb hk
    clear hk
    have Bk7 := blk5 Bk5 (.slice A7 u.M.W.length a7) (.slice B7 u.M.G.length b7) (.bool u.M.bad) (.slice C7 u.C.length c7) (.slice L7 u.L.length d7)
    replace S7 := S7.turnN (turn5 w7 v5 (.slice A7 u.M.W.length a7) (.slice B7 u.M.G.length b7) (.bool u.M.bad) (.slice C7 u.C.length c7) (.slice L7 u.L.length d7)) (noInt_sys Bk5)
    have kF := ((turn5 w7 v5 (.slice A7 u.M.W.length a7) (.slice B7 u.M.G.length b7) (.bool u.M.bad) (.slice C7 u.C.length c7) (.slice L7 u.L.length d7)).block vF ltF (fun e => ne5_F e.symm)).trans BkF
    have hb7 : Below w0.heap.size w0 (((((w7.setCell ⟨v5, 0, none⟩ (.slice A7 u.M.W.length a7)).setCell ⟨v5, 1, none⟩ (.slice B7 u.M.G.length b7)).setCell ⟨v5, 2, none⟩ (.bool u.M.bad)).setCell ⟨v5, 3, none⟩ (.slice C7 u.C.length c7)).setCell ⟨v5, 4, none⟩ (.slice L7 u.L.length d7)) := hb.trans ((turn5 w7 v5 (.slice A7 u.M.W.length a7) (.slice B7 u.M.G.length b7) (.bool u.M.bad) (.slice C7 u.C.length c7) (.slice L7 u.L.length d7)).to_below hb.size (fun x hx => by rw [hx]; exact nw5))
    have lt7 : v5 < (((((w7.setCell ⟨v5, 0, none⟩ (.slice A7 u.M.W.length a7)).setCell ⟨v5, 1, none⟩ (.slice B7 u.M.G.length b7)).setCell ⟨v5, 2, none⟩ (.bool u.M.bad)).setCell ⟨v5, 3, none⟩ (.slice C7 u.C.length c7)).setCell ⟨v5, 4, none⟩ (.slice L7 u.L.length d7)).heap.size := Nat.lt_of_lt_of_le lt5 (turn5 w7 v5 (.slice A7 u.M.W.length a7) (.slice B7 u.M.G.length b7) (.bool u.M.bad) (.slice C7 u.C.length c7) (.slice L7 u.L.length d7)).size
    replace ltF := Nat.lt_of_lt_of_le ltF (turn5 w7 v5 (.slice A7 u.M.W.length a7) (.slice B7 u.M.G.length b7) (.bool u.M.bad) (.slice C7 u.C.length c7) (.slice L7 u.L.length d7)).size
    clear BkF Bk5 lt5 hb
    generalize (((((w7.setCell ⟨v5, 0, none⟩ (.slice A7 u.M.W.length a7)).setCell ⟨v5, 1, none⟩ (.slice B7 u.M.G.length b7)).setCell ⟨v5, 2, none⟩ (.bool u.M.bad)).setCell ⟨v5, 3, none⟩ (.slice C7 u.C.length c7)).setCell ⟨v5, 4, none⟩ (.slice L7 u.L.length d7)) = w8 at *
    have BkF := kF
    have hb := hb7
    clear kF hb7
    have mF_0 : w8.cell? ⟨vF, 0, none⟩ = some (.int .i64 0) := cell_of_row w8 _ 0 _ _ _ BkF
    have mF_1 : w8.cell? ⟨vF, 1, none⟩ = some (.int .i64 0) := cell_of_row w8 _ 1 _ _ _ BkF
    have mF_2 : w8.cell? ⟨vF, 2, none⟩ = some (.int .i64 0) := cell_of_row w8 _ 2 _ _ _ BkF
    have mF_3 : w8.cell? ⟨vF, 3, none⟩ = some (.int .i64 0) := cell_of_row w8 _ 3 _ _ _ BkF
    have mF_4 : w8.cell? ⟨vF, 4, none⟩ = some (.int .i64 0) := cell_of_row w8 _ 4 _ _ _ BkF
    have mF_5 : w8.cell? ⟨vF, 5, none⟩ = some (.int .i64 0) := cell_of_row w8 _ 5 _ _ _ BkF
    have mF_6 : w8.cell? ⟨vF, 6, none⟩ = some (.int .i64 0) := cell_of_row w8 _ 6 _ _ _ BkF
    have mF_7 : w8.cell? ⟨vF, 7, none⟩ = some (.int .i64 0) := cell_of_row w8 _ 7 _ _ _ BkF
    have mF_8 : w8.cell? ⟨vF, 8, none⟩ = some (.int .i64 0) := cell_of_row w8 _ 8 _ _ _ BkF
    have mF_9 : w8.cell? ⟨vF, 9, none⟩ = some (.int .i64 0) := cell_of_row w8 _ 9 _ _ _ BkF
    have mF_10 : w8.cell? ⟨vF, 10, none⟩ = some (.slice none 0 0) := cell_of_row w8 _ 10 _ _ _ BkF
    have mF_f0 : w8.frozen? ⟨vF, 0, none⟩ = false := frozen_of_row w8 _ 0 _ _ BkF
    have mF_f1 : w8.frozen? ⟨vF, 1, none⟩ = false := frozen_of_row w8 _ 1 _ _ BkF
    have mF_f2 : w8.frozen? ⟨vF, 2, none⟩ = false := frozen_of_row w8 _ 2 _ _ BkF
    have mF_f3 : w8.frozen? ⟨vF, 3, none⟩ = false := frozen_of_row w8 _ 3 _ _ BkF
    have mF_f4 : w8.frozen? ⟨vF, 4, none⟩ = false := frozen_of_row w8 _ 4 _ _ BkF
    have mF_f5 : w8.frozen? ⟨vF, 5, none⟩ = false := frozen_of_row w8 _ 5 _ _ BkF
    have mF_f6 : w8.frozen? ⟨vF, 6, none⟩ = false := frozen_of_row w8 _ 6 _ _ BkF
    have mF_f7 : w8.frozen? ⟨vF, 7, none⟩ = false := frozen_of_row w8 _ 7 _ _ BkF
    have mF_f8 : w8.frozen? ⟨vF, 8, none⟩ = false := frozen_of_row w8 _ 8 _ _ BkF
    have mF_f9 : w8.frozen? ⟨vF, 9, none⟩ = false := frozen_of_row w8 _ 9 _ _ BkF
    have mF_f10 : w8.frozen? ⟨vF, 10, none⟩ = false := frozen_of_row w8 _ 10 _ _ BkF
    go_upto_region 20 with (fail)
    clear mF_0 mF_1 mF_2 mF_3 mF_4 mF_5 mF_6 mF_7 mF_8 mF_9 mF_10 mF_f0 mF_f1 mF_f2 mF_f3 mF_f4 mF_f5 mF_f6 mF_f7 mF_f8 mF_f9 mF_f10
    rw [set_sameW w8 vF 1 (.int .i64 0) _ _ BkF rfl]
    obtain ⟨t, ht⟩ : ∃ t, t = pStep u (j : Int) := ⟨_, rfl⟩
    have HST := hid (show ∀ w, RS w u A7 B7 C7 L7 → Calls Try.prog 17 #[.agg #[.slice A7 u.M.W.length a7, .slice B7 u.M.G.length b7, .bool u.M.bad, .slice C7 u.C.length c7, .slice L7 u.L.length d7], .int .i64 (j : Int)] w (RetSys w t) from fun w k1 => by rw [ht]; exact step_any A7 B7 C7 L7 a7 b7 c7 d7 u (j : Int) w OKU.out.few OKU.out.g k1 (by have := OKU.out.l; omega))
    rw [← ht] at hC9 hcs9
    clear ht
    have HX9 := hid (show t.C[j]? = some x9 by rw [hC9]; exact List.getElem?_set_self (by rw [HCU.out]; exact hjc))
    have HCT := hid (show t.C.length = c by rw [hC9, List.length_set]; exact HCU.out)
    have HCS := hid hcs9
    clear hC9 hcs9
    have m7_0 : w8.cell? ⟨v5, 0, none⟩ = some (.slice A7 u.M.W.length a7) := cell_of_row w8 _ 0 _ _ _ Bk7
    have m7_1 : w8.cell? ⟨v5, 1, none⟩ = some (.slice B7 u.M.G.length b7) := cell_of_row w8 _ 1 _ _ _ Bk7
    have m7_2 : w8.cell? ⟨v5, 2, none⟩ = some (.bool u.M.bad) := cell_of_row w8 _ 2 _ _ _ Bk7
    have m7_3 : w8.cell? ⟨v5, 3, none⟩ = some (.slice C7 u.C.length c7) := cell_of_row w8 _ 3 _ _ _ Bk7
    have m7_4 : w8.cell? ⟨v5, 4, none⟩ = some (.slice L7 u.L.length d7) := cell_of_row w8 _ 4 _ _ _ Bk7
    go_upto_region 21 with (go_at_call 17; (with_reducible refine (HST.out _ S7).mono ?_); rintro e w9 ⟨A6, B6, C6, L6, a6, b6, c6, d6, rfl, rW, rG, rC, rL, hk⟩)
    clear m7_0 m7_1 m7_2 m7_3 m7_4
    have S6 : RS w9 t A6 B6 C6 L6 := ⟨rW, rG, rC, rL⟩
    clear rW rG rC rL
    replace BkF := (hk.block vF ltF).trans BkF
    replace ltF := Nat.lt_of_lt_of_le ltF hk.size
    replace Bk7 := (hk.block v5 lt7).trans Bk7
    replace lt7 := Nat.lt_of_lt_of_le lt7 hk.size
    replace S7 := S7.step hk
    replace hb := bstep hb hk
    clear hk
    clear HST
    have Bk6 := heap_alloc_new w9 (.cells #[.slice A6 t.M.W.length a6, .slice B6 t.M.G.length b6, .bool t.M.bad, .slice C6 t.C.length c6, .slice L6 t.L.length d6] 30)
    have lt6 : w9.heap.size < (w9.alloc (.cells #[.slice A6 t.M.W.length a6, .slice B6 t.M.G.length b6, .bool t.M.bad, .slice C6 t.C.length c6, .slice L6 t.L.length d6] 30)).heap.size := by simp
    have hk : Below w9.heap.size w9 (w9.alloc (.cells #[.slice A6 t.M.W.length a6, .slice B6 t.M.G.length b6, .bool t.M.bad, .slice C6 t.C.length c6, .slice L6 t.L.length d6] 30)) := boxed _ _
    replace BkF := (hk.block vF ltF).trans BkF
    replace ltF := Nat.lt_of_lt_of_le ltF hk.size
    replace Bk7 := (hk.block v5 lt7).trans Bk7
    replace lt7 := Nat.lt_of_lt_of_le lt7 hk.size
    replace S7 := S7.step hk
    replace S6 := S6.step hk
    replace hb := bstep hb hk
    clear hk
    obtain ⟨v6, hv⟩ : ∃ v, w9.heap.size = v := ⟨_, rfl⟩
    rw [hv] at Bk6 lt6 ⊢
    clear hv
    generalize (w9.alloc (.cells #[.slice A6 t.M.W.length a6, .slice B6 t.M.G.length b6, .bool t.M.bad, .slice C6 t.C.length c6, .slice L6 t.L.length d6] 30)) = w10 at *
    have hct := HCT.out
    obtain ⟨bC6, oC6, eC6, lC6, atC⟩ := S6.C (by omega)
    subst eC6
    obtain ⟨AFx, ARx, cFx, cRx, hcx, _, _⟩ := (atC j _ HX9.out).cs
    clear atC
    have z0 : w10.cell? ⟨bC6, oC6 + j * 7, none⟩ = some (.slice AFx x9.F.length cFx) := by have h := hcx 0 _ rfl; simpa using h
    have z2 : w10.cell? ⟨bC6, oC6 + j * 7 + 2, none⟩ = some (.int .i64 x9.e) := by have h := hcx 2 _ rfl; simpa using h
    clear hcx
    rw [hct] at Bk6
    have jc : (j : Int) < (c : Int) := by omega
    have j0 : 0 ≤ (j : Int) := by omega
    clear hct
    obtain ⟨fr0, hfr⟩ : ∃ m, m = mCount u.M.G 0 := ⟨_, rfl⟩
    have HCO := hid (show ∀ w, RS w u A7 B7 C7 L7 → Calls Try.prog 18 #[.agg #[.slice A7 u.M.W.length a7, .slice B7 u.M.G.length b7, .bool u.M.bad], .int .i64 0] w fun e w' => e = .returned (.int .i64 (fr0 : Int)) ∧ Below w.heap.size w w' from fun w k1 => by rw [hfr]; exact rcount_any A7 B7 a7 b7 u.M 0 w k1.G (by have := OKU.out.few.2.1; omega) (by have := OKU.out.g; omega))
    have hcs := HCS.out
    rw [← hfr] at hcs
    clear hfr
    rcases hcs with ⟨hz, hF, her, hL⟩ | ⟨hz, hF⟩
    · have e0 : x9.F.length = 0 := by rw [hF]; rfl
      rw [e0] at z0
      rw [her] at z2
      subst hz
      clear e0 hF her HCS
      rw [hL] at Bk6
      have l9 : (u.L.length : Int) ≤ 900 := by have := OKU.out.l; omega
      clear hL
      have m7_0 : w10.cell? ⟨v5, 0, none⟩ = some (.slice A7 u.M.W.length a7) := cell_of_row w10 _ 0 _ _ _ Bk7
      have m7_1 : w10.cell? ⟨v5, 1, none⟩ = some (.slice B7 u.M.G.length b7) := cell_of_row w10 _ 1 _ _ _ Bk7
      have m7_2 : w10.cell? ⟨v5, 2, none⟩ = some (.bool u.M.bad) := cell_of_row w10 _ 2 _ _ _ Bk7
      have m7_3 : w10.cell? ⟨v5, 3, none⟩ = some (.slice C7 u.C.length c7) := cell_of_row w10 _ 3 _ _ _ Bk7
      have m7_4 : w10.cell? ⟨v5, 4, none⟩ = some (.slice L7 u.L.length d7) := cell_of_row w10 _ 4 _ _ _ Bk7
      have m6_0 : w10.cell? ⟨v6, 0, none⟩ = some (.slice A6 t.M.W.length a6) := cell_of_row w10 _ 0 _ _ _ Bk6
      have m6_1 : w10.cell? ⟨v6, 1, none⟩ = some (.slice B6 t.M.G.length b6) := cell_of_row w10 _ 1 _ _ _ Bk6
      have m6_2 : w10.cell? ⟨v6, 2, none⟩ = some (.bool t.M.bad) := cell_of_row w10 _ 2 _ _ _ Bk6
      have m6_3 : w10.cell? ⟨v6, 3, none⟩ = some (.slice (some ⟨bC6, oC6, none⟩) c c6) := cell_of_row w10 _ 3 _ _ _ Bk6
      have m6_4 : w10.cell? ⟨v6, 4, none⟩ = some (.slice L6 (u.L.length + 1) d6) := cell_of_row w10 _ 4 _ _ _ Bk6
      have mF_0 : w10.cell? ⟨vF, 0, none⟩ = some (.int .i64 0) := cell_of_row w10 _ 0 _ _ _ BkF
      have mF_1 : w10.cell? ⟨vF, 1, none⟩ = some (.int .i64 0) := cell_of_row w10 _ 1 _ _ _ BkF
      have mF_2 : w10.cell? ⟨vF, 2, none⟩ = some (.int .i64 0) := cell_of_row w10 _ 2 _ _ _ BkF
      have mF_3 : w10.cell? ⟨vF, 3, none⟩ = some (.int .i64 0) := cell_of_row w10 _ 3 _ _ _ BkF
      have mF_4 : w10.cell? ⟨vF, 4, none⟩ = some (.int .i64 0) := cell_of_row w10 _ 4 _ _ _ BkF
      have mF_5 : w10.cell? ⟨vF, 5, none⟩ = some (.int .i64 0) := cell_of_row w10 _ 5 _ _ _ BkF
      have mF_6 : w10.cell? ⟨vF, 6, none⟩ = some (.int .i64 0) := cell_of_row w10 _ 6 _ _ _ BkF
      have mF_7 : w10.cell? ⟨vF, 7, none⟩ = some (.int .i64 0) := cell_of_row w10 _ 7 _ _ _ BkF
      have mF_8 : w10.cell? ⟨vF, 8, none⟩ = some (.int .i64 0) := cell_of_row w10 _ 8 _ _ _ BkF
      have mF_9 : w10.cell? ⟨vF, 9, none⟩ = some (.int .i64 0) := cell_of_row w10 _ 9 _ _ _ BkF
      have mF_10 : w10.cell? ⟨vF, 10, none⟩ = some (.slice none 0 0) := cell_of_row w10 _ 10 _ _ _ BkF
      go_upto_region 24 with (go_at_call 18; (with_reducible refine (HCO.out _ S7).mono ?_); rintro e w11 ⟨rfl, hk⟩)
      clear m7_0 m7_1 m7_2 m7_3 m7_4 m6_0 m6_1 m6_2 m6_3 m6_4 mF_0 mF_1 mF_2 mF_3 mF_4 mF_5 mF_6 mF_7 mF_8 mF_9 mF_10
      replace z0 := (hk.cell lC6).trans z0
      replace z2 := (hk.cell lC6).trans z2
      replace BkF := (hk.block vF ltF).trans BkF
      replace ltF := Nat.lt_of_lt_of_le ltF hk.size
      replace Bk7 := (hk.block v5 lt7).trans Bk7
      replace lt7 := Nat.lt_of_lt_of_le lt7 hk.size
      replace Bk6 := (hk.block v6 lt6).trans Bk6
      replace lt6 := Nat.lt_of_lt_of_le lt6 hk.size
      replace S7 := S7.step hk
      replace S6 := S6.step hk
      replace hb := bstep hb hk
      clear hk
      have m7_0 : w11.cell? ⟨v5, 0, none⟩ = some (.slice A7 u.M.W.length a7) := cell_of_row w11 _ 0 _ _ _ Bk7
      have m7_1 : w11.cell? ⟨v5, 1, none⟩ = some (.slice B7 u.M.G.length b7) := cell_of_row w11 _ 1 _ _ _ Bk7
      have m7_2 : w11.cell? ⟨v5, 2, none⟩ = some (.bool u.M.bad) := cell_of_row w11 _ 2 _ _ _ Bk7
      have m7_3 : w11.cell? ⟨v5, 3, none⟩ = some (.slice C7 u.C.length c7) := cell_of_row w11 _ 3 _ _ _ Bk7
      have m7_4 : w11.cell? ⟨v5, 4, none⟩ = some (.slice L7 u.L.length d7) := cell_of_row w11 _ 4 _ _ _ Bk7
      have m6_0 : w11.cell? ⟨v6, 0, none⟩ = some (.slice A6 t.M.W.length a6) := cell_of_row w11 _ 0 _ _ _ Bk6
      have m6_1 : w11.cell? ⟨v6, 1, none⟩ = some (.slice B6 t.M.G.length b6) := cell_of_row w11 _ 1 _ _ _ Bk6
      have m6_2 : w11.cell? ⟨v6, 2, none⟩ = some (.bool t.M.bad) := cell_of_row w11 _ 2 _ _ _ Bk6
      have m6_3 : w11.cell? ⟨v6, 3, none⟩ = some (.slice (some ⟨bC6, oC6, none⟩) c c6) := cell_of_row w11 _ 3 _ _ _ Bk6
      have m6_4 : w11.cell? ⟨v6, 4, none⟩ = some (.slice L6 (u.L.length + 1) d6) := cell_of_row w11 _ 4 _ _ _ Bk6
      go_wp2_with fail
      go_ret
      exact ⟨rfl, hb⟩
    · have fl0 : ¬ x9.F.length = 0 := by simpa using hF
      clear hF HCS
      generalize x9.F.length = fl at *
      have m0 : ((fl : Int) == 0) = false := by simp; omega
      have m1 : (fl == 0) = false := by simp; omega
      have m2 : ((fr0 : Int) == 0) = false := by simp; omega
      have m3 : (fr0 == 0) = false := by simp; omega
      have m7_0 : w10.cell? ⟨v5, 0, none⟩ = some (.slice A7 u.M.W.length a7) := cell_of_row w10 _ 0 _ _ _ Bk7
      have m7_1 : w10.cell? ⟨v5, 1, none⟩ = some (.slice B7 u.M.G.length b7) := cell_of_row w10 _ 1 _ _ _ Bk7
      have m7_2 : w10.cell? ⟨v5, 2, none⟩ = some (.bool u.M.bad) := cell_of_row w10 _ 2 _ _ _ Bk7
      have m7_3 : w10.cell? ⟨v5, 3, none⟩ = some (.slice C7 u.C.length c7) := cell_of_row w10 _ 3 _ _ _ Bk7
      have m7_4 : w10.cell? ⟨v5, 4, none⟩ = some (.slice L7 u.L.length d7) := cell_of_row w10 _ 4 _ _ _ Bk7
      have m6_0 : w10.cell? ⟨v6, 0, none⟩ = some (.slice A6 t.M.W.length a6) := cell_of_row w10 _ 0 _ _ _ Bk6
      have m6_1 : w10.cell? ⟨v6, 1, none⟩ = some (.slice B6 t.M.G.length b6) := cell_of_row w10 _ 1 _ _ _ Bk6
      have m6_2 : w10.cell? ⟨v6, 2, none⟩ = some (.bool t.M.bad) := cell_of_row w10 _ 2 _ _ _ Bk6
      have m6_3 : w10.cell? ⟨v6, 3, none⟩ = some (.slice (some ⟨bC6, oC6, none⟩) c c6) := cell_of_row w10 _ 3 _ _ _ Bk6
      have m6_4 : w10.cell? ⟨v6, 4, none⟩ = some (.slice L6 t.L.length d6) := cell_of_row w10 _ 4 _ _ _ Bk6
      have mF_0 : w10.cell? ⟨vF, 0, none⟩ = some (.int .i64 0) := cell_of_row w10 _ 0 _ _ _ BkF
      have mF_1 : w10.cell? ⟨vF, 1, none⟩ = some (.int .i64 0) := cell_of_row w10 _ 1 _ _ _ BkF
      have mF_2 : w10.cell? ⟨vF, 2, none⟩ = some (.int .i64 0) := cell_of_row w10 _ 2 _ _ _ BkF
      have mF_3 : w10.cell? ⟨vF, 3, none⟩ = some (.int .i64 0) := cell_of_row w10 _ 3 _ _ _ BkF
      have mF_4 : w10.cell? ⟨vF, 4, none⟩ = some (.int .i64 0) := cell_of_row w10 _ 4 _ _ _ BkF
      have mF_5 : w10.cell? ⟨vF, 5, none⟩ = some (.int .i64 0) := cell_of_row w10 _ 5 _ _ _ BkF
      have mF_6 : w10.cell? ⟨vF, 6, none⟩ = some (.int .i64 0) := cell_of_row w10 _ 6 _ _ _ BkF
      have mF_7 : w10.cell? ⟨vF, 7, none⟩ = some (.int .i64 0) := cell_of_row w10 _ 7 _ _ _ BkF
      have mF_8 : w10.cell? ⟨vF, 8, none⟩ = some (.int .i64 0) := cell_of_row w10 _ 8 _ _ _ BkF
      have mF_9 : w10.cell? ⟨vF, 9, none⟩ = some (.int .i64 0) := cell_of_row w10 _ 9 _ _ _ BkF
      have mF_10 : w10.cell? ⟨vF, 10, none⟩ = some (.slice none 0 0) := cell_of_row w10 _ 10 _ _ _ BkF
      go_upto_region 24 with (go_at_call 18; (with_reducible refine (HCO.out _ S7).mono ?_); rintro e w11 ⟨rfl, hk⟩)
      clear m7_0 m7_1 m7_2 m7_3 m7_4 m6_0 m6_1 m6_2 m6_3 m6_4 mF_0 mF_1 mF_2 mF_3 mF_4 mF_5 mF_6 mF_7 mF_8 mF_9 mF_10
      replace z0 := (hk.cell lC6).trans z0
      replace z2 := (hk.cell lC6).trans z2
      replace BkF := (hk.block vF ltF).trans BkF
      replace ltF := Nat.lt_of_lt_of_le ltF hk.size
      replace Bk7 := (hk.block v5 lt7).trans Bk7
      replace lt7 := Nat.lt_of_lt_of_le lt7 hk.size
      replace Bk6 := (hk.block v6 lt6).trans Bk6
      replace lt6 := Nat.lt_of_lt_of_le lt6 hk.size
      replace S7 := S7.step hk
      replace S6 := S6.step hk
      replace hb := bstep hb hk
      clear hk
      have m7_0 : w11.cell? ⟨v5, 0, none⟩ = some (.slice A7 u.M.W.length a7) := cell_of_row w11 _ 0 _ _ _ Bk7
      have m7_1 : w11.cell? ⟨v5, 1, none⟩ = some (.slice B7 u.M.G.length b7) := cell_of_row w11 _ 1 _ _ _ Bk7
      have m7_2 : w11.cell? ⟨v5, 2, none⟩ = some (.bool u.M.bad) := cell_of_row w11 _ 2 _ _ _ Bk7
      have m7_3 : w11.cell? ⟨v5, 3, none⟩ = some (.slice C7 u.C.length c7) := cell_of_row w11 _ 3 _ _ _ Bk7
      have m7_4 : w11.cell? ⟨v5, 4, none⟩ = some (.slice L7 u.L.length d7) := cell_of_row w11 _ 4 _ _ _ Bk7
      have m6_0 : w11.cell? ⟨v6, 0, none⟩ = some (.slice A6 t.M.W.length a6) := cell_of_row w11 _ 0 _ _ _ Bk6
      have m6_1 : w11.cell? ⟨v6, 1, none⟩ = some (.slice B6 t.M.G.length b6) := cell_of_row w11 _ 1 _ _ _ Bk6
      have m6_2 : w11.cell? ⟨v6, 2, none⟩ = some (.bool t.M.bad) := cell_of_row w11 _ 2 _ _ _ Bk6
      have m6_3 : w11.cell? ⟨v6, 3, none⟩ = some (.slice (some ⟨bC6, oC6, none⟩) c c6) := cell_of_row w11 _ 3 _ _ _ Bk6
      have m6_4 : w11.cell? ⟨v6, 4, none⟩ = some (.slice L6 t.L.length d6) := cell_of_row w11 _ 4 _ _ _ Bk6
      go_wp2_with fail
      go_ret
      exact ⟨rfl, hb⟩
  · have hk := HI.out.ti.kind hx hF
    have htp := top_core hx hF
    rcases pTop_cases y.s (j : Int) HI.out.ok.few S5.C with hp | ⟨op, pc, r0, r1, r2, r3, r4, r5, r6, r7, xs, hp, h6⟩
    · rw [htp] at hp; cases hp
    rw [htp] at hp
    obtain rfl := Option.some.inj hp
    clear hp
    rcases hk with ho | ⟨ho, hk⟩
    · dsimp only at ho
      subst ho
      clear hx hF
      have m5_0 : w4.cell? ⟨v5, 0, none⟩ = some (.slice A5 y.s.M.W.length a5) := cell_of_row w4 _ 0 _ _ _ Bk5
      have m5_1 : w4.cell? ⟨v5, 1, none⟩ = some (.slice B5 y.s.M.G.length b5) := cell_of_row w4 _ 1 _ _ _ Bk5
      have m5_2 : w4.cell? ⟨v5, 2, none⟩ = some (.bool y.s.M.bad) := cell_of_row w4 _ 2 _ _ _ Bk5
      have m5_3 : w4.cell? ⟨v5, 3, none⟩ = some (.slice C5 y.s.C.length c5) := cell_of_row w4 _ 3 _ _ _ Bk5
      have m5_4 : w4.cell? ⟨v5, 4, none⟩ = some (.slice L5 y.s.L.length d5) := cell_of_row w4 _ 4 _ _ _ Bk5
      have HT := hid (show ∀ w, RS w y.s A5 B5 C5 L5 → Calls Try.prog 14 #[.agg #[.slice A5 y.s.M.W.length a5, .slice B5 y.s.M.G.length b5, .bool y.s.M.bad, .slice C5 y.s.C.length c5, .slice L5 y.s.L.length d5], .int .i64 (j : Int)] w _ from fun w k1 => rtop_is A5 B5 C5 L5 a5 b5 c5 d5 y.s (j : Int) 2 pc r0 r1 r2 r3 r4 r5 r6 r7 xs w HI.out.ok.few k1 htp h6)
      clear htp
      go_upto_region 15 with (go_at_call 14; (with_reducible refine (HT.out _ S5).mono ?_); rintro e w5 ⟨A2, c2e, rfl, _, hk⟩)
      clear m5_0 m5_1 m5_2 m5_3 m5_4
      replace Bk5 := (hk.block v5 lt5).trans Bk5
      replace lt5 := Nat.lt_of_lt_of_le lt5 hk.size
      replace S5 := S5.step hk
      replace hb := bstep hb hk
      clear hk
      clear HT
      have BkF := heap_alloc_new w5 (.cells #[.int .i64 2, .int .i64 pc, .int .i64 r0, .int .i64 r1, .int .i64 r2, .int .i64 r3, .int .i64 r4, .int .i64 r5, .int .i64 r6, .int .i64 r7, .slice A2 xs.length c2e] 38)
      have ltF : w5.heap.size < (w5.alloc (.cells #[.int .i64 2, .int .i64 pc, .int .i64 r0, .int .i64 r1, .int .i64 r2, .int .i64 r3, .int .i64 r4, .int .i64 r5, .int .i64 r6, .int .i64 r7, .slice A2 xs.length c2e] 38)).heap.size := by simp
      have hk : Below w5.heap.size w5 (w5.alloc (.cells #[.int .i64 2, .int .i64 pc, .int .i64 r0, .int .i64 r1, .int .i64 r2, .int .i64 r3, .int .i64 r4, .int .i64 r5, .int .i64 r6, .int .i64 r7, .slice A2 xs.length c2e] 38)) := boxed _ _
      have ne5_F : v5 ≠ w5.heap.size := Nat.ne_of_lt lt5
      replace Bk5 := (hk.block v5 lt5).trans Bk5
      replace lt5 := Nat.lt_of_lt_of_le lt5 hk.size
      replace S5 := S5.step hk
      replace hb := bstep hb hk
      clear hk
      obtain ⟨vF, hv⟩ : ∃ v, w5.heap.size = v := ⟨_, rfl⟩
      rw [hv] at BkF ltF ne5_F ⊢
      clear hv
      generalize (w5.alloc (.cells #[.int .i64 2, .int .i64 pc, .int .i64 r0, .int .i64 r1, .int .i64 r2, .int .i64 r3, .int .i64 r4, .int .i64 r5, .int .i64 r6, .int .i64 r7, .slice A2 xs.length c2e] 38)) = w6 at *
      have mF_0 : w6.cell? ⟨vF, 0, none⟩ = some (.int .i64 2) := cell_of_row w6 _ 0 _ _ _ BkF
      have mF_1 : w6.cell? ⟨vF, 1, none⟩ = some (.int .i64 pc) := cell_of_row w6 _ 1 _ _ _ BkF
      have mF_2 : w6.cell? ⟨vF, 2, none⟩ = some (.int .i64 r0) := cell_of_row w6 _ 2 _ _ _ BkF
      have mF_3 : w6.cell? ⟨vF, 3, none⟩ = some (.int .i64 r1) := cell_of_row w6 _ 3 _ _ _ BkF
      have mF_4 : w6.cell? ⟨vF, 4, none⟩ = some (.int .i64 r2) := cell_of_row w6 _ 4 _ _ _ BkF
      have mF_5 : w6.cell? ⟨vF, 5, none⟩ = some (.int .i64 r3) := cell_of_row w6 _ 5 _ _ _ BkF
      have mF_6 : w6.cell? ⟨vF, 6, none⟩ = some (.int .i64 r4) := cell_of_row w6 _ 6 _ _ _ BkF
      have mF_7 : w6.cell? ⟨vF, 7, none⟩ = some (.int .i64 r5) := cell_of_row w6 _ 7 _ _ _ BkF
      have mF_8 : w6.cell? ⟨vF, 8, none⟩ = some (.int .i64 r6) := cell_of_row w6 _ 8 _ _ _ BkF
      have mF_9 : w6.cell? ⟨vF, 9, none⟩ = some (.int .i64 r7) := cell_of_row w6 _ 9 _ _ _ BkF
      have mF_10 : w6.cell? ⟨vF, 10, none⟩ = some (.slice A2 xs.length c2e) := cell_of_row w6 _ 10 _ _ _ BkF
      go_wp2_with fail
      go_ret
      exact ⟨rfl, hb⟩
    · dsimp only at ho
      subst ho
      rcases hk with ⟨q0, q1, hq⟩ | ⟨hpc, hp0, hp2⟩
      · simp only [fr1, Fr.mk.injEq, List.cons.injEq, and_true, true_and] at hq
        obtain ⟨rfl, ⟨rfl, rfl, rfl, rfl, rfl, rfl, rfl, rfl⟩, rfl⟩ := hq
        obtain ⟨x9, hC9, hcs9⟩ := HI.out.ti.full n2 (by omega) hx hF
        have OKU := hid HI.out.ok
        have HCU := hid HCL.out
        clear hx hF
        have m5_0 : w4.cell? ⟨v5, 0, none⟩ = some (.slice A5 y.s.M.W.length a5) := cell_of_row w4 _ 0 _ _ _ Bk5
        have m5_1 : w4.cell? ⟨v5, 1, none⟩ = some (.slice B5 y.s.M.G.length b5) := cell_of_row w4 _ 1 _ _ _ Bk5
        have m5_2 : w4.cell? ⟨v5, 2, none⟩ = some (.bool y.s.M.bad) := cell_of_row w4 _ 2 _ _ _ Bk5
        have m5_3 : w4.cell? ⟨v5, 3, none⟩ = some (.slice C5 y.s.C.length c5) := cell_of_row w4 _ 3 _ _ _ Bk5
        have m5_4 : w4.cell? ⟨v5, 4, none⟩ = some (.slice L5 y.s.L.length d5) := cell_of_row w4 _ 4 _ _ _ Bk5
        have HT := hid (show ∀ w, RS w y.s A5 B5 C5 L5 → Calls Try.prog 14 #[.agg #[.slice A5 y.s.M.W.length a5, .slice B5 y.s.M.G.length b5, .bool y.s.M.bad, .slice C5 y.s.C.length c5, .slice L5 y.s.L.length d5], .int .i64 (j : Int)] w _ from fun w k1 => rtop_is A5 B5 C5 L5 a5 b5 c5 d5 y.s (j : Int) 1 0 r0 r1 0 0 0 0 0 0 [] w HI.out.ok.few k1 htp h6)
        clear htp
        go_upto_region 15 with (go_at_call 14; (with_reducible refine (HT.out _ S5).mono ?_); rintro e w5 ⟨A2, c2e, rfl, _, hk⟩)
        clear m5_0 m5_1 m5_2 m5_3 m5_4
        replace Bk5 := (hk.block v5 lt5).trans Bk5
        replace lt5 := Nat.lt_of_lt_of_le lt5 hk.size
        replace S5 := S5.step hk
        replace hb := bstep hb hk
        clear hk
        clear HT
        have BkF := heap_alloc_new w5 (.cells #[.int .i64 1, .int .i64 0, .int .i64 r0, .int .i64 r1, .int .i64 0, .int .i64 0, .int .i64 0, .int .i64 0, .int .i64 0, .int .i64 0, .slice A2 0 c2e] 38)
        have ltF : w5.heap.size < (w5.alloc (.cells #[.int .i64 1, .int .i64 0, .int .i64 r0, .int .i64 r1, .int .i64 0, .int .i64 0, .int .i64 0, .int .i64 0, .int .i64 0, .int .i64 0, .slice A2 0 c2e] 38)).heap.size := by simp
        have hk : Below w5.heap.size w5 (w5.alloc (.cells #[.int .i64 1, .int .i64 0, .int .i64 r0, .int .i64 r1, .int .i64 0, .int .i64 0, .int .i64 0, .int .i64 0, .int .i64 0, .int .i64 0, .slice A2 0 c2e] 38)) := boxed _ _
        have ne5_F : v5 ≠ w5.heap.size := Nat.ne_of_lt lt5
        replace Bk5 := (hk.block v5 lt5).trans Bk5
        replace lt5 := Nat.lt_of_lt_of_le lt5 hk.size
        replace S5 := S5.step hk
        replace hb := bstep hb hk
        clear hk
        obtain ⟨vF, hv⟩ : ∃ v, w5.heap.size = v := ⟨_, rfl⟩
        rw [hv] at BkF ltF ne5_F ⊢
        clear hv
        generalize (w5.alloc (.cells #[.int .i64 1, .int .i64 0, .int .i64 r0, .int .i64 r1, .int .i64 0, .int .i64 0, .int .i64 0, .int .i64 0, .int .i64 0, .int .i64 0, .slice A2 0 c2e] 38)) = w6 at *
        have m5_0 : w6.cell? ⟨v5, 0, none⟩ = some (.slice A5 y.s.M.W.length a5) := cell_of_row w6 _ 0 _ _ _ Bk5
        have m5_1 : w6.cell? ⟨v5, 1, none⟩ = some (.slice B5 y.s.M.G.length b5) := cell_of_row w6 _ 1 _ _ _ Bk5
        have m5_2 : w6.cell? ⟨v5, 2, none⟩ = some (.bool y.s.M.bad) := cell_of_row w6 _ 2 _ _ _ Bk5
        have m5_3 : w6.cell? ⟨v5, 3, none⟩ = some (.slice C5 y.s.C.length c5) := cell_of_row w6 _ 3 _ _ _ Bk5
        have m5_4 : w6.cell? ⟨v5, 4, none⟩ = some (.slice L5 y.s.L.length d5) := cell_of_row w6 _ 4 _ _ _ Bk5
        have mF_0 : w6.cell? ⟨vF, 0, none⟩ = some (.int .i64 1) := cell_of_row w6 _ 0 _ _ _ BkF
        have mF_1 : w6.cell? ⟨vF, 1, none⟩ = some (.int .i64 0) := cell_of_row w6 _ 1 _ _ _ BkF
        have mF_2 : w6.cell? ⟨vF, 2, none⟩ = some (.int .i64 r0) := cell_of_row w6 _ 2 _ _ _ BkF
        have mF_3 : w6.cell? ⟨vF, 3, none⟩ = some (.int .i64 r1) := cell_of_row w6 _ 3 _ _ _ BkF
        have mF_4 : w6.cell? ⟨vF, 4, none⟩ = some (.int .i64 0) := cell_of_row w6 _ 4 _ _ _ BkF
        have mF_5 : w6.cell? ⟨vF, 5, none⟩ = some (.int .i64 0) := cell_of_row w6 _ 5 _ _ _ BkF
        have mF_6 : w6.cell? ⟨vF, 6, none⟩ = some (.int .i64 0) := cell_of_row w6 _ 6 _ _ _ BkF
        have mF_7 : w6.cell? ⟨vF, 7, none⟩ = some (.int .i64 0) := cell_of_row w6 _ 7 _ _ _ BkF
        have mF_8 : w6.cell? ⟨vF, 8, none⟩ = some (.int .i64 0) := cell_of_row w6 _ 8 _ _ _ BkF
        have mF_9 : w6.cell? ⟨vF, 9, none⟩ = some (.int .i64 0) := cell_of_row w6 _ 9 _ _ _ BkF
        have mF_10 : w6.cell? ⟨vF, 10, none⟩ = some (.slice A2 0 c2e) := cell_of_row w6 _ 10 _ _ _ BkF
        go_upto_region 20 with (fail)
        clear m5_0 m5_1 m5_2 m5_3 m5_4 mF_0 mF_1 mF_2 mF_3 mF_4 mF_5 mF_6 mF_7 mF_8 mF_9 mF_10
        obtain ⟨t, ht⟩ : ∃ t, t = pStep y.s (j : Int) := ⟨_, rfl⟩
        have HST := hid (show ∀ w, RS w y.s A5 B5 C5 L5 → Calls Try.prog 17 #[.agg #[.slice A5 y.s.M.W.length a5, .slice B5 y.s.M.G.length b5, .bool y.s.M.bad, .slice C5 y.s.C.length c5, .slice L5 y.s.L.length d5], .int .i64 (j : Int)] w (RetSys w t) from fun w k1 => by rw [ht]; exact step_any A5 B5 C5 L5 a5 b5 c5 d5 y.s (j : Int) w OKU.out.few OKU.out.g k1 (by have := OKU.out.l; omega))
        rw [← ht] at hC9 hcs9
        clear ht
        have HX9 := hid (show t.C[j]? = some x9 by rw [hC9]; exact List.getElem?_set_self (by rw [HCU.out]; exact hjc))
        have HCT := hid (show t.C.length = c by rw [hC9, List.length_set]; exact HCU.out)
        have HCS := hid hcs9
        clear hC9 hcs9
        have m5_0 : w6.cell? ⟨v5, 0, none⟩ = some (.slice A5 y.s.M.W.length a5) := cell_of_row w6 _ 0 _ _ _ Bk5
        have m5_1 : w6.cell? ⟨v5, 1, none⟩ = some (.slice B5 y.s.M.G.length b5) := cell_of_row w6 _ 1 _ _ _ Bk5
        have m5_2 : w6.cell? ⟨v5, 2, none⟩ = some (.bool y.s.M.bad) := cell_of_row w6 _ 2 _ _ _ Bk5
        have m5_3 : w6.cell? ⟨v5, 3, none⟩ = some (.slice C5 y.s.C.length c5) := cell_of_row w6 _ 3 _ _ _ Bk5
        have m5_4 : w6.cell? ⟨v5, 4, none⟩ = some (.slice L5 y.s.L.length d5) := cell_of_row w6 _ 4 _ _ _ Bk5
        go_upto_region 21 with (go_at_call 17; (with_reducible refine (HST.out _ S5).mono ?_); rintro e w7 ⟨A6, B6, C6, L6, a6, b6, c6, d6, rfl, rW, rG, rC, rL, hk⟩)
        clear m5_0 m5_1 m5_2 m5_3 m5_4
        have S6 : RS w7 t A6 B6 C6 L6 := ⟨rW, rG, rC, rL⟩
        clear rW rG rC rL
        replace Bk5 := (hk.block v5 lt5).trans Bk5
        replace lt5 := Nat.lt_of_lt_of_le lt5 hk.size
        replace BkF := (hk.block vF ltF).trans BkF
        replace ltF := Nat.lt_of_lt_of_le ltF hk.size
        replace S5 := S5.step hk
        replace hb := bstep hb hk
        clear hk
        clear HST
        have Bk6 := heap_alloc_new w7 (.cells #[.slice A6 t.M.W.length a6, .slice B6 t.M.G.length b6, .bool t.M.bad, .slice C6 t.C.length c6, .slice L6 t.L.length d6] 30)
        have lt6 : w7.heap.size < (w7.alloc (.cells #[.slice A6 t.M.W.length a6, .slice B6 t.M.G.length b6, .bool t.M.bad, .slice C6 t.C.length c6, .slice L6 t.L.length d6] 30)).heap.size := by simp
        have hk : Below w7.heap.size w7 (w7.alloc (.cells #[.slice A6 t.M.W.length a6, .slice B6 t.M.G.length b6, .bool t.M.bad, .slice C6 t.C.length c6, .slice L6 t.L.length d6] 30)) := boxed _ _
        replace Bk5 := (hk.block v5 lt5).trans Bk5
        replace lt5 := Nat.lt_of_lt_of_le lt5 hk.size
        replace BkF := (hk.block vF ltF).trans BkF
        replace ltF := Nat.lt_of_lt_of_le ltF hk.size
        replace S5 := S5.step hk
        replace S6 := S6.step hk
        replace hb := bstep hb hk
        clear hk
        obtain ⟨v6, hv⟩ : ∃ v, w7.heap.size = v := ⟨_, rfl⟩
        rw [hv] at Bk6 lt6 ⊢
        clear hv
        generalize (w7.alloc (.cells #[.slice A6 t.M.W.length a6, .slice B6 t.M.G.length b6, .bool t.M.bad, .slice C6 t.C.length c6, .slice L6 t.L.length d6] 30)) = w8 at *
        have hct := HCT.out
        obtain ⟨bC6, oC6, eC6, lC6, atC⟩ := S6.C (by omega)
        subst eC6
        obtain ⟨AFx, ARx, cFx, cRx, hcx, _, _⟩ := (atC j _ HX9.out).cs
        clear atC
        have z0 : w8.cell? ⟨bC6, oC6 + j * 7, none⟩ = some (.slice AFx x9.F.length cFx) := by have h := hcx 0 _ rfl; simpa using h
        have z2 : w8.cell? ⟨bC6, oC6 + j * 7 + 2, none⟩ = some (.int .i64 x9.e) := by have h := hcx 2 _ rfl; simpa using h
        clear hcx
        rw [hct] at Bk6
        have jc : (j : Int) < (c : Int) := by omega
        have j0 : 0 ≤ (j : Int) := by omega
        clear hct
        obtain ⟨fr0, hfr⟩ : ∃ m, m = mCount y.s.M.G 0 := ⟨_, rfl⟩
        have HCO := hid (show ∀ w, RS w y.s A5 B5 C5 L5 → Calls Try.prog 18 #[.agg #[.slice A5 y.s.M.W.length a5, .slice B5 y.s.M.G.length b5, .bool y.s.M.bad], .int .i64 0] w fun e w' => e = .returned (.int .i64 (fr0 : Int)) ∧ Below w.heap.size w w' from fun w k1 => by rw [hfr]; exact rcount_any A5 B5 a5 b5 y.s.M 0 w k1.G (by have := OKU.out.few.2.1; omega) (by have := OKU.out.g; omega))
        have hcs := HCS.out
        rw [← hfr] at hcs
        clear hfr
        rcases hcs with ⟨hz, hF, her, hL⟩ | ⟨hz, hF⟩
        · have e0 : x9.F.length = 0 := by rw [hF]; rfl
          rw [e0] at z0
          rw [her] at z2
          subst hz
          clear e0 hF her HCS
          rw [hL] at Bk6
          have l9 : (y.s.L.length : Int) ≤ 900 := by have := OKU.out.l; omega
          clear hL
          have m5_0 : w8.cell? ⟨v5, 0, none⟩ = some (.slice A5 y.s.M.W.length a5) := cell_of_row w8 _ 0 _ _ _ Bk5
          have m5_1 : w8.cell? ⟨v5, 1, none⟩ = some (.slice B5 y.s.M.G.length b5) := cell_of_row w8 _ 1 _ _ _ Bk5
          have m5_2 : w8.cell? ⟨v5, 2, none⟩ = some (.bool y.s.M.bad) := cell_of_row w8 _ 2 _ _ _ Bk5
          have m5_3 : w8.cell? ⟨v5, 3, none⟩ = some (.slice C5 y.s.C.length c5) := cell_of_row w8 _ 3 _ _ _ Bk5
          have m5_4 : w8.cell? ⟨v5, 4, none⟩ = some (.slice L5 y.s.L.length d5) := cell_of_row w8 _ 4 _ _ _ Bk5
          have m6_0 : w8.cell? ⟨v6, 0, none⟩ = some (.slice A6 t.M.W.length a6) := cell_of_row w8 _ 0 _ _ _ Bk6
          have m6_1 : w8.cell? ⟨v6, 1, none⟩ = some (.slice B6 t.M.G.length b6) := cell_of_row w8 _ 1 _ _ _ Bk6
          have m6_2 : w8.cell? ⟨v6, 2, none⟩ = some (.bool t.M.bad) := cell_of_row w8 _ 2 _ _ _ Bk6
          have m6_3 : w8.cell? ⟨v6, 3, none⟩ = some (.slice (some ⟨bC6, oC6, none⟩) c c6) := cell_of_row w8 _ 3 _ _ _ Bk6
          have m6_4 : w8.cell? ⟨v6, 4, none⟩ = some (.slice L6 (y.s.L.length + 1) d6) := cell_of_row w8 _ 4 _ _ _ Bk6
          have mF_0 : w8.cell? ⟨vF, 0, none⟩ = some (.int .i64 1) := cell_of_row w8 _ 0 _ _ _ BkF
          have mF_1 : w8.cell? ⟨vF, 1, none⟩ = some (.int .i64 0) := cell_of_row w8 _ 1 _ _ _ BkF
          have mF_2 : w8.cell? ⟨vF, 2, none⟩ = some (.int .i64 r0) := cell_of_row w8 _ 2 _ _ _ BkF
          have mF_3 : w8.cell? ⟨vF, 3, none⟩ = some (.int .i64 r1) := cell_of_row w8 _ 3 _ _ _ BkF
          have mF_4 : w8.cell? ⟨vF, 4, none⟩ = some (.int .i64 0) := cell_of_row w8 _ 4 _ _ _ BkF
          have mF_5 : w8.cell? ⟨vF, 5, none⟩ = some (.int .i64 0) := cell_of_row w8 _ 5 _ _ _ BkF
          have mF_6 : w8.cell? ⟨vF, 6, none⟩ = some (.int .i64 0) := cell_of_row w8 _ 6 _ _ _ BkF
          have mF_7 : w8.cell? ⟨vF, 7, none⟩ = some (.int .i64 0) := cell_of_row w8 _ 7 _ _ _ BkF
          have mF_8 : w8.cell? ⟨vF, 8, none⟩ = some (.int .i64 0) := cell_of_row w8 _ 8 _ _ _ BkF
          have mF_9 : w8.cell? ⟨vF, 9, none⟩ = some (.int .i64 0) := cell_of_row w8 _ 9 _ _ _ BkF
          have mF_10 : w8.cell? ⟨vF, 10, none⟩ = some (.slice A2 0 c2e) := cell_of_row w8 _ 10 _ _ _ BkF
          go_upto_region 24 with (go_at_call 18; (with_reducible refine (HCO.out _ S5).mono ?_); rintro e w9 ⟨rfl, hk⟩)
          clear m5_0 m5_1 m5_2 m5_3 m5_4 m6_0 m6_1 m6_2 m6_3 m6_4 mF_0 mF_1 mF_2 mF_3 mF_4 mF_5 mF_6 mF_7 mF_8 mF_9 mF_10
          replace z0 := (hk.cell lC6).trans z0
          replace z2 := (hk.cell lC6).trans z2
          replace Bk5 := (hk.block v5 lt5).trans Bk5
          replace lt5 := Nat.lt_of_lt_of_le lt5 hk.size
          replace BkF := (hk.block vF ltF).trans BkF
          replace ltF := Nat.lt_of_lt_of_le ltF hk.size
          replace Bk6 := (hk.block v6 lt6).trans Bk6
          replace lt6 := Nat.lt_of_lt_of_le lt6 hk.size
          replace S5 := S5.step hk
          replace S6 := S6.step hk
          replace hb := bstep hb hk
          clear hk
          have m5_0 : w9.cell? ⟨v5, 0, none⟩ = some (.slice A5 y.s.M.W.length a5) := cell_of_row w9 _ 0 _ _ _ Bk5
          have m5_1 : w9.cell? ⟨v5, 1, none⟩ = some (.slice B5 y.s.M.G.length b5) := cell_of_row w9 _ 1 _ _ _ Bk5
          have m5_2 : w9.cell? ⟨v5, 2, none⟩ = some (.bool y.s.M.bad) := cell_of_row w9 _ 2 _ _ _ Bk5
          have m5_3 : w9.cell? ⟨v5, 3, none⟩ = some (.slice C5 y.s.C.length c5) := cell_of_row w9 _ 3 _ _ _ Bk5
          have m5_4 : w9.cell? ⟨v5, 4, none⟩ = some (.slice L5 y.s.L.length d5) := cell_of_row w9 _ 4 _ _ _ Bk5
          have m6_0 : w9.cell? ⟨v6, 0, none⟩ = some (.slice A6 t.M.W.length a6) := cell_of_row w9 _ 0 _ _ _ Bk6
          have m6_1 : w9.cell? ⟨v6, 1, none⟩ = some (.slice B6 t.M.G.length b6) := cell_of_row w9 _ 1 _ _ _ Bk6
          have m6_2 : w9.cell? ⟨v6, 2, none⟩ = some (.bool t.M.bad) := cell_of_row w9 _ 2 _ _ _ Bk6
          have m6_3 : w9.cell? ⟨v6, 3, none⟩ = some (.slice (some ⟨bC6, oC6, none⟩) c c6) := cell_of_row w9 _ 3 _ _ _ Bk6
          have m6_4 : w9.cell? ⟨v6, 4, none⟩ = some (.slice L6 (y.s.L.length + 1) d6) := cell_of_row w9 _ 4 _ _ _ Bk6
          go_wp2_with fail
          go_ret
          exact ⟨rfl, hb⟩
        · have fl0 : ¬ x9.F.length = 0 := by simpa using hF
          clear hF HCS
          generalize x9.F.length = fl at *
          have m0 : ((fl : Int) == 0) = false := by simp; omega
          have m1 : (fl == 0) = false := by simp; omega
          have m2 : ((fr0 : Int) == 0) = false := by simp; omega
          have m3 : (fr0 == 0) = false := by simp; omega
          have m5_0 : w8.cell? ⟨v5, 0, none⟩ = some (.slice A5 y.s.M.W.length a5) := cell_of_row w8 _ 0 _ _ _ Bk5
          have m5_1 : w8.cell? ⟨v5, 1, none⟩ = some (.slice B5 y.s.M.G.length b5) := cell_of_row w8 _ 1 _ _ _ Bk5
          have m5_2 : w8.cell? ⟨v5, 2, none⟩ = some (.bool y.s.M.bad) := cell_of_row w8 _ 2 _ _ _ Bk5
          have m5_3 : w8.cell? ⟨v5, 3, none⟩ = some (.slice C5 y.s.C.length c5) := cell_of_row w8 _ 3 _ _ _ Bk5
          have m5_4 : w8.cell? ⟨v5, 4, none⟩ = some (.slice L5 y.s.L.length d5) := cell_of_row w8 _ 4 _ _ _ Bk5
          have m6_0 : w8.cell? ⟨v6, 0, none⟩ = some (.slice A6 t.M.W.length a6) := cell_of_row w8 _ 0 _ _ _ Bk6
          have m6_1 : w8.cell? ⟨v6, 1, none⟩ = some (.slice B6 t.M.G.length b6) := cell_of_row w8 _ 1 _ _ _ Bk6
          have m6_2 : w8.cell? ⟨v6, 2, none⟩ = some (.bool t.M.bad) := cell_of_row w8 _ 2 _ _ _ Bk6
          have m6_3 : w8.cell? ⟨v6, 3, none⟩ = some (.slice (some ⟨bC6, oC6, none⟩) c c6) := cell_of_row w8 _ 3 _ _ _ Bk6
          have m6_4 : w8.cell? ⟨v6, 4, none⟩ = some (.slice L6 t.L.length d6) := cell_of_row w8 _ 4 _ _ _ Bk6
          have mF_0 : w8.cell? ⟨vF, 0, none⟩ = some (.int .i64 1) := cell_of_row w8 _ 0 _ _ _ BkF
          have mF_1 : w8.cell? ⟨vF, 1, none⟩ = some (.int .i64 0) := cell_of_row w8 _ 1 _ _ _ BkF
          have mF_2 : w8.cell? ⟨vF, 2, none⟩ = some (.int .i64 r0) := cell_of_row w8 _ 2 _ _ _ BkF
          have mF_3 : w8.cell? ⟨vF, 3, none⟩ = some (.int .i64 r1) := cell_of_row w8 _ 3 _ _ _ BkF
          have mF_4 : w8.cell? ⟨vF, 4, none⟩ = some (.int .i64 0) := cell_of_row w8 _ 4 _ _ _ BkF
          have mF_5 : w8.cell? ⟨vF, 5, none⟩ = some (.int .i64 0) := cell_of_row w8 _ 5 _ _ _ BkF
          have mF_6 : w8.cell? ⟨vF, 6, none⟩ = some (.int .i64 0) := cell_of_row w8 _ 6 _ _ _ BkF
          have mF_7 : w8.cell? ⟨vF, 7, none⟩ = some (.int .i64 0) := cell_of_row w8 _ 7 _ _ _ BkF
          have mF_8 : w8.cell? ⟨vF, 8, none⟩ = some (.int .i64 0) := cell_of_row w8 _ 8 _ _ _ BkF
          have mF_9 : w8.cell? ⟨vF, 9, none⟩ = some (.int .i64 0) := cell_of_row w8 _ 9 _ _ _ BkF
          have mF_10 : w8.cell? ⟨vF, 10, none⟩ = some (.slice A2 0 c2e) := cell_of_row w8 _ 10 _ _ _ BkF
          go_upto_region 24 with (go_at_call 18; (with_reducible refine (HCO.out _ S5).mono ?_); rintro e w9 ⟨rfl, hk⟩)
          clear m5_0 m5_1 m5_2 m5_3 m5_4 m6_0 m6_1 m6_2 m6_3 m6_4 mF_0 mF_1 mF_2 mF_3 mF_4 mF_5 mF_6 mF_7 mF_8 mF_9 mF_10
          replace z0 := (hk.cell lC6).trans z0
          replace z2 := (hk.cell lC6).trans z2
          replace Bk5 := (hk.block v5 lt5).trans Bk5
          replace lt5 := Nat.lt_of_lt_of_le lt5 hk.size
          replace BkF := (hk.block vF ltF).trans BkF
          replace ltF := Nat.lt_of_lt_of_le ltF hk.size
          replace Bk6 := (hk.block v6 lt6).trans Bk6
          replace lt6 := Nat.lt_of_lt_of_le lt6 hk.size
          replace S5 := S5.step hk
          replace S6 := S6.step hk
          replace hb := bstep hb hk
          clear hk
          have m5_0 : w9.cell? ⟨v5, 0, none⟩ = some (.slice A5 y.s.M.W.length a5) := cell_of_row w9 _ 0 _ _ _ Bk5
          have m5_1 : w9.cell? ⟨v5, 1, none⟩ = some (.slice B5 y.s.M.G.length b5) := cell_of_row w9 _ 1 _ _ _ Bk5
          have m5_2 : w9.cell? ⟨v5, 2, none⟩ = some (.bool y.s.M.bad) := cell_of_row w9 _ 2 _ _ _ Bk5
          have m5_3 : w9.cell? ⟨v5, 3, none⟩ = some (.slice C5 y.s.C.length c5) := cell_of_row w9 _ 3 _ _ _ Bk5
          have m5_4 : w9.cell? ⟨v5, 4, none⟩ = some (.slice L5 y.s.L.length d5) := cell_of_row w9 _ 4 _ _ _ Bk5
          have m6_0 : w9.cell? ⟨v6, 0, none⟩ = some (.slice A6 t.M.W.length a6) := cell_of_row w9 _ 0 _ _ _ Bk6
          have m6_1 : w9.cell? ⟨v6, 1, none⟩ = some (.slice B6 t.M.G.length b6) := cell_of_row w9 _ 1 _ _ _ Bk6
          have m6_2 : w9.cell? ⟨v6, 2, none⟩ = some (.bool t.M.bad) := cell_of_row w9 _ 2 _ _ _ Bk6
          have m6_3 : w9.cell? ⟨v6, 3, none⟩ = some (.slice (some ⟨bC6, oC6, none⟩) c c6) := cell_of_row w9 _ 3 _ _ _ Bk6
          have m6_4 : w9.cell? ⟨v6, 4, none⟩ = some (.slice L6 t.L.length d6) := cell_of_row w9 _ 4 _ _ _ Bk6
          go_wp2_with fail
          go_ret
          exact ⟨rfl, hb⟩
      · dsimp only at hpc hp0 hp2
        obtain ⟨t, ht⟩ : ∃ t, t = pStep y.s (j : Int) := ⟨_, rfl⟩
        have HST := hid (show ∀ w, RS w y.s A5 B5 C5 L5 → Calls Try.prog 17 #[.agg #[.slice A5 y.s.M.W.length a5, .slice B5 y.s.M.G.length b5, .bool y.s.M.bad, .slice C5 y.s.C.length c5, .slice L5 y.s.L.length d5], .int .i64 (j : Int)] w (RetSys w t) from fun w k1 => by rw [ht]; exact step_any A5 B5 C5 L5 a5 b5 c5 d5 y.s (j : Int) w HI.out.ok.few HI.out.ok.g k1 (by have := HI.out.ok.l; omega))
        have HCT := hid (show t.C.length = c by rw [ht]; exact len_step HI.out.ti n2 (by omega) hx hF)
        clear ht hx hF
        have m5_0 : w4.cell? ⟨v5, 0, none⟩ = some (.slice A5 y.s.M.W.length a5) := cell_of_row w4 _ 0 _ _ _ Bk5
        have m5_1 : w4.cell? ⟨v5, 1, none⟩ = some (.slice B5 y.s.M.G.length b5) := cell_of_row w4 _ 1 _ _ _ Bk5
        have m5_2 : w4.cell? ⟨v5, 2, none⟩ = some (.bool y.s.M.bad) := cell_of_row w4 _ 2 _ _ _ Bk5
        have m5_3 : w4.cell? ⟨v5, 3, none⟩ = some (.slice C5 y.s.C.length c5) := cell_of_row w4 _ 3 _ _ _ Bk5
        have m5_4 : w4.cell? ⟨v5, 4, none⟩ = some (.slice L5 y.s.L.length d5) := cell_of_row w4 _ 4 _ _ _ Bk5
        have HT := hid (show ∀ w, RS w y.s A5 B5 C5 L5 → Calls Try.prog 14 #[.agg #[.slice A5 y.s.M.W.length a5, .slice B5 y.s.M.G.length b5, .bool y.s.M.bad, .slice C5 y.s.C.length c5, .slice L5 y.s.L.length d5], .int .i64 (j : Int)] w _ from fun w k1 => rtop_is A5 B5 C5 L5 a5 b5 c5 d5 y.s (j : Int) 1 pc r0 r1 r2 r3 r4 r5 r6 r7 xs w HI.out.ok.few k1 htp h6)
        clear htp
        go_upto_region 15 with (go_at_call 14; (with_reducible refine (HT.out _ S5).mono ?_); rintro e w5 ⟨A2, c2e, rfl, _, hk⟩)
        clear m5_0 m5_1 m5_2 m5_3 m5_4
        replace Bk5 := (hk.block v5 lt5).trans Bk5
        replace lt5 := Nat.lt_of_lt_of_le lt5 hk.size
        replace S5 := S5.step hk
        replace hb := bstep hb hk
        clear hk
        clear HT
        have BkF := heap_alloc_new w5 (.cells #[.int .i64 1, .int .i64 pc, .int .i64 r0, .int .i64 r1, .int .i64 r2, .int .i64 r3, .int .i64 r4, .int .i64 r5, .int .i64 r6, .int .i64 r7, .slice A2 xs.length c2e] 38)
        have ltF : w5.heap.size < (w5.alloc (.cells #[.int .i64 1, .int .i64 pc, .int .i64 r0, .int .i64 r1, .int .i64 r2, .int .i64 r3, .int .i64 r4, .int .i64 r5, .int .i64 r6, .int .i64 r7, .slice A2 xs.length c2e] 38)).heap.size := by simp
        have hk : Below w5.heap.size w5 (w5.alloc (.cells #[.int .i64 1, .int .i64 pc, .int .i64 r0, .int .i64 r1, .int .i64 r2, .int .i64 r3, .int .i64 r4, .int .i64 r5, .int .i64 r6, .int .i64 r7, .slice A2 xs.length c2e] 38)) := boxed _ _
        have ne5_F : v5 ≠ w5.heap.size := Nat.ne_of_lt lt5
        replace Bk5 := (hk.block v5 lt5).trans Bk5
        replace lt5 := Nat.lt_of_lt_of_le lt5 hk.size
        replace S5 := S5.step hk
        replace hb := bstep hb hk
        clear hk
        obtain ⟨vF, hv⟩ : ∃ v, w5.heap.size = v := ⟨_, rfl⟩
        rw [hv] at BkF ltF ne5_F ⊢
        clear hv
        generalize (w5.alloc (.cells #[.int .i64 1, .int .i64 pc, .int .i64 r0, .int .i64 r1, .int .i64 r2, .int .i64 r3, .int .i64 r4, .int .i64 r5, .int .i64 r6, .int .i64 r7, .slice A2 xs.length c2e] 38)) = w6 at *
        have m5_0 : w6.cell? ⟨v5, 0, none⟩ = some (.slice A5 y.s.M.W.length a5) := cell_of_row w6 _ 0 _ _ _ Bk5
        have m5_1 : w6.cell? ⟨v5, 1, none⟩ = some (.slice B5 y.s.M.G.length b5) := cell_of_row w6 _ 1 _ _ _ Bk5
        have m5_2 : w6.cell? ⟨v5, 2, none⟩ = some (.bool y.s.M.bad) := cell_of_row w6 _ 2 _ _ _ Bk5
        have m5_3 : w6.cell? ⟨v5, 3, none⟩ = some (.slice C5 y.s.C.length c5) := cell_of_row w6 _ 3 _ _ _ Bk5
        have m5_4 : w6.cell? ⟨v5, 4, none⟩ = some (.slice L5 y.s.L.length d5) := cell_of_row w6 _ 4 _ _ _ Bk5
        have mF_0 : w6.cell? ⟨vF, 0, none⟩ = some (.int .i64 1) := cell_of_row w6 _ 0 _ _ _ BkF
        have mF_1 : w6.cell? ⟨vF, 1, none⟩ = some (.int .i64 pc) := cell_of_row w6 _ 1 _ _ _ BkF
        have mF_2 : w6.cell? ⟨vF, 2, none⟩ = some (.int .i64 r0) := cell_of_row w6 _ 2 _ _ _ BkF
        have mF_3 : w6.cell? ⟨vF, 3, none⟩ = some (.int .i64 r1) := cell_of_row w6 _ 3 _ _ _ BkF
        have mF_4 : w6.cell? ⟨vF, 4, none⟩ = some (.int .i64 r2) := cell_of_row w6 _ 4 _ _ _ BkF
        have mF_5 : w6.cell? ⟨vF, 5, none⟩ = some (.int .i64 r3) := cell_of_row w6 _ 5 _ _ _ BkF
        have mF_6 : w6.cell? ⟨vF, 6, none⟩ = some (.int .i64 r4) := cell_of_row w6 _ 6 _ _ _ BkF
        have mF_7 : w6.cell? ⟨vF, 7, none⟩ = some (.int .i64 r5) := cell_of_row w6 _ 7 _ _ _ BkF
        have mF_8 : w6.cell? ⟨vF, 8, none⟩ = some (.int .i64 r6) := cell_of_row w6 _ 8 _ _ _ BkF
        have mF_9 : w6.cell? ⟨vF, 9, none⟩ = some (.int .i64 r7) := cell_of_row w6 _ 9 _ _ _ BkF
        have mF_10 : w6.cell? ⟨vF, 10, none⟩ = some (.slice A2 xs.length c2e) := cell_of_row w6 _ 10 _ _ _ BkF
        go_upto_region 20 with (fail)
        clear m5_0 m5_1 m5_2 m5_3 m5_4 mF_0 mF_1 mF_2 mF_3 mF_4 mF_5 mF_6 mF_7 mF_8 mF_9 mF_10
        have m5_0 : w6.cell? ⟨v5, 0, none⟩ = some (.slice A5 y.s.M.W.length a5) := cell_of_row w6 _ 0 _ _ _ Bk5
        have m5_1 : w6.cell? ⟨v5, 1, none⟩ = some (.slice B5 y.s.M.G.length b5) := cell_of_row w6 _ 1 _ _ _ Bk5
        have m5_2 : w6.cell? ⟨v5, 2, none⟩ = some (.bool y.s.M.bad) := cell_of_row w6 _ 2 _ _ _ Bk5
        have m5_3 : w6.cell? ⟨v5, 3, none⟩ = some (.slice C5 y.s.C.length c5) := cell_of_row w6 _ 3 _ _ _ Bk5
        have m5_4 : w6.cell? ⟨v5, 4, none⟩ = some (.slice L5 y.s.L.length d5) := cell_of_row w6 _ 4 _ _ _ Bk5
        go_upto_region 21 with (go_at_call 17; (with_reducible refine (HST.out _ S5).mono ?_); rintro e w7 ⟨A6, B6, C6, L6, a6, b6, c6, d6, rfl, rW, rG, rC, rL, hk⟩)
        clear m5_0 m5_1 m5_2 m5_3 m5_4
        have S6 : RS w7 t A6 B6 C6 L6 := ⟨rW, rG, rC, rL⟩
        clear rW rG rC rL
        replace Bk5 := (hk.block v5 lt5).trans Bk5
        replace lt5 := Nat.lt_of_lt_of_le lt5 hk.size
        replace BkF := (hk.block vF ltF).trans BkF
        replace ltF := Nat.lt_of_lt_of_le ltF hk.size
        replace S5 := S5.step hk
        replace hb := bstep hb hk
        clear hk
        clear HST
        have Bk6 := heap_alloc_new w7 (.cells #[.slice A6 t.M.W.length a6, .slice B6 t.M.G.length b6, .bool t.M.bad, .slice C6 t.C.length c6, .slice L6 t.L.length d6] 30)
        have lt6 : w7.heap.size < (w7.alloc (.cells #[.slice A6 t.M.W.length a6, .slice B6 t.M.G.length b6, .bool t.M.bad, .slice C6 t.C.length c6, .slice L6 t.L.length d6] 30)).heap.size := by simp
        have hk : Below w7.heap.size w7 (w7.alloc (.cells #[.slice A6 t.M.W.length a6, .slice B6 t.M.G.length b6, .bool t.M.bad, .slice C6 t.C.length c6, .slice L6 t.L.length d6] 30)) := boxed _ _
        replace Bk5 := (hk.block v5 lt5).trans Bk5
        replace lt5 := Nat.lt_of_lt_of_le lt5 hk.size
        replace BkF := (hk.block vF ltF).trans BkF
        replace ltF := Nat.lt_of_lt_of_le ltF hk.size
        replace S5 := S5.step hk
        replace S6 := S6.step hk
        replace hb := bstep hb hk
        clear hk
        obtain ⟨v6, hv⟩ : ∃ v, w7.heap.size = v := ⟨_, rfl⟩
        rw [hv] at Bk6 lt6 ⊢
        clear hv
        generalize (w7.alloc (.cells #[.slice A6 t.M.W.length a6, .slice B6 t.M.G.length b6, .bool t.M.bad, .slice C6 t.C.length c6, .slice L6 t.L.length d6] 30)) = w8 at *
        have hct := HCT.out
        rw [hct] at Bk6
        have p1 : (pc != 0) = true := by simpa using hpc
        clear hct hpc hp0 hp2
        have m5_0 : w8.cell? ⟨v5, 0, none⟩ = some (.slice A5 y.s.M.W.length a5) := cell_of_row w8 _ 0 _ _ _ Bk5
        have m5_1 : w8.cell? ⟨v5, 1, none⟩ = some (.slice B5 y.s.M.G.length b5) := cell_of_row w8 _ 1 _ _ _ Bk5
        have m5_2 : w8.cell? ⟨v5, 2, none⟩ = some (.bool y.s.M.bad) := cell_of_row w8 _ 2 _ _ _ Bk5
        have m5_3 : w8.cell? ⟨v5, 3, none⟩ = some (.slice C5 y.s.C.length c5) := cell_of_row w8 _ 3 _ _ _ Bk5
        have m5_4 : w8.cell? ⟨v5, 4, none⟩ = some (.slice L5 y.s.L.length d5) := cell_of_row w8 _ 4 _ _ _ Bk5
        have m6_0 : w8.cell? ⟨v6, 0, none⟩ = some (.slice A6 t.M.W.length a6) := cell_of_row w8 _ 0 _ _ _ Bk6
        have m6_1 : w8.cell? ⟨v6, 1, none⟩ = some (.slice B6 t.M.G.length b6) := cell_of_row w8 _ 1 _ _ _ Bk6
        have m6_2 : w8.cell? ⟨v6, 2, none⟩ = some (.bool t.M.bad) := cell_of_row w8 _ 2 _ _ _ Bk6
        have m6_3 : w8.cell? ⟨v6, 3, none⟩ = some (.slice C6 c c6) := cell_of_row w8 _ 3 _ _ _ Bk6
        have m6_4 : w8.cell? ⟨v6, 4, none⟩ = some (.slice L6 t.L.length d6) := cell_of_row w8 _ 4 _ _ _ Bk6
        have mF_0 : w8.cell? ⟨vF, 0, none⟩ = some (.int .i64 1) := cell_of_row w8 _ 0 _ _ _ BkF
        have mF_1 : w8.cell? ⟨vF, 1, none⟩ = some (.int .i64 pc) := cell_of_row w8 _ 1 _ _ _ BkF
        have mF_2 : w8.cell? ⟨vF, 2, none⟩ = some (.int .i64 r0) := cell_of_row w8 _ 2 _ _ _ BkF
        have mF_3 : w8.cell? ⟨vF, 3, none⟩ = some (.int .i64 r1) := cell_of_row w8 _ 3 _ _ _ BkF
        have mF_4 : w8.cell? ⟨vF, 4, none⟩ = some (.int .i64 r2) := cell_of_row w8 _ 4 _ _ _ BkF
        have mF_5 : w8.cell? ⟨vF, 5, none⟩ = some (.int .i64 r3) := cell_of_row w8 _ 5 _ _ _ BkF
        have mF_6 : w8.cell? ⟨vF, 6, none⟩ = some (.int .i64 r4) := cell_of_row w8 _ 6 _ _ _ BkF
        have mF_7 : w8.cell? ⟨vF, 7, none⟩ = some (.int .i64 r5) := cell_of_row w8 _ 7 _ _ _ BkF
        have mF_8 : w8.cell? ⟨vF, 8, none⟩ = some (.int .i64 r6) := cell_of_row w8 _ 8 _ _ _ BkF
        have mF_9 : w8.cell? ⟨vF, 9, none⟩ = some (.int .i64 r7) := cell_of_row w8 _ 9 _ _ _ BkF
        have mF_10 : w8.cell? ⟨vF, 10, none⟩ = some (.slice A2 xs.length c2e) := cell_of_row w8 _ 10 _ _ _ BkF
        go_wp2_with fail
        go_ret
        exact ⟨rfl, hb⟩

set_option maxRecDepth 100000 in
set_option maxHeartbeats 16000000 in
theorem walk (x0 x1 : Int) (AP : Option Addr) (us : List Nat) (cp : Nat) (x3 : Int) (w0 : World) (hP : RowU w0 AP us) (u0 : 0 ≤ x0) (u1 : x0 ≤ 255) (u2 : 0 ≤ x1) (u3 : x1 ≤ 255) (v0 : 0 ≤ x3) (v1 : x3 ≤ 255) :
    Calls Try.prog 4 #[.agg #[.int .u8 x0, .int .u8 x1, .slice AP us.length cp, .int .u8 x3]] w0 fun e w' => e = .returned (.bool true) ∧ Below w0.heap.size w0 w' := by
  by_cases hlen : us.length ≤ 200
  · exact walk_few x0 x1 AP us cp x3 w0 hP u0 u1 u2 u3 v0 v1 hlen
  · exact walk_many x0 x1 AP us cp x3 w0 hP u0 u1 u2 u3 v0 v1 (by omega)

set_option maxRecDepth 100000 in
theorem lifted (os : Os) (started : os.Started) (H : Type) (enc : TypeId × Value → H) :
    ReturnsInHanded {} Try.checked os 4 .any (Rows.stackFullSpec.pre6 enc Try.prog Try.f4 Rows.stackFullRow.domain false) (Rows.stackFullSpec.post enc Try.prog Try.f4 false true false false) := by
  refine returnsInHanded_of_change (C := Try.checked) own started (by kernel_rfl) Try.func4
    (ChangeSpec.witness6 (enc := enc) (C := Try.checked) false ⟨#[], #[.agg #[.int .u8 0, .int .u8 0, .slice none 0 0, .int .u8 0]], []⟩ 8 (by kernel_rfl) (by kernel_rfl) (by kernel_rfl) (by kernel_rfl)) ?_
  intro W base args ds gs before hval0 hW hcnd _
  have hval : ∀ (j : Nat) t v, Try.f4.params[j]? = some t → args[j]? = some v → Value.okWide Try.prog W .any base t v := hval0
  have hW' := hW
  obtain ⟨p, q, hA0, hV, rfl, hfz, hnd⟩ := hW
  have hA : DataW.TrodAll enc Try.prog W 0 (fun _ => true) true Try.f4.params.toList args.toList ds p := hA0
  rw [Try.params4] at hA hval
  obtain ⟨v0, vs0, d0, ds0, p0, q0, hargs, rfl, rfl, h0, r0⟩ := trodAll_cons hA
  obtain ⟨rfl, rfl, rfl⟩ := trodAll_nil r0
  obtain rfl : args = #[v0] := by cases args; simp_all
  obtain ⟨rfl, rfl⟩ := trodVars_none hV
  clear hA0 hval0
  obtain ⟨x0, x1, AP, us, cp, x3, rfl, hP, u0, u1, u2, u3, q0, q1⟩ := open_full (hval 0 _ v0 rfl rfl) h0
  refine (walk x0 x1 AP us cp x3 W hP u0 u1 u2 u3 q0 q1).mono fun e W' ⟨he, hb⟩ => ?_
  subst he
  exact ⟨_, rfl, law_post (tb := 4) (by kernel_rfl) (by kernel_rfl) (by kernel_rfl) Try.underlying4 rfl hW' rfl hb⟩

theorem over : Rows.stackFullRow.holds Try.pinned (OpenSpec.ofChange Rows.stackFullSpec) :=
  OpenClaim.holds_of_wide 4 Try.f4 rfl rfl rfl rfl rfl rfl rfl ⟨rfl, rfl, rfl, rfl, rfl⟩ rfl rfl rfl rfl rfl (by kernel_rfl) Try.func4 (by kernel_rfl)
    (of_decide_eq_true (by kernel_rfl)) (by unfold Func.isWrapper; first | (rw [if_pos (by decide +kernel)]; kernel_rfl) | (rw [if_neg (by decide +kernel)]; exact ⟨rfl, rfl⟩))
    (fun os started H enc _ => lifted os started H enc)
end StackFull

theorem stackFull_holds : Rows.StackFullSaid := StackFull.over
#print axioms stackFull_holds
end Go.Proofs.Ytlknpmdmnekedaa
