/- For every system, every event and every two ints, the law CoreLogs (events are only added, each of the core that it is of; a core that there isn't adds none, and nothing else) returns true, and the argument reads afterwards as before. No conditions. -/
import Derived.Test.YtpagekhgeahmaaaRows
import Derived.Test.YtpagekhgeahmaaaUni2
import Derived.Test.YtpagekhgeahmaaaCoreLL
import Derived.Test.YtpagekhgeahmaaaOpen5
import Derived.Test.YtpagekhgeahmaaaCore7
import Derived.Test.YtpagekhgeahmaaaLaw
import Derived.IntWalk
namespace Go.Proofs.Ytpagekhgeahmaaa
namespace CoreLogs
open Go.ChangeShapes Go.WideShapes Go.ChangeAt Go.RowKit
set_option linter.unusedVariables false
set_option linter.unusedSimpArgs false

theorem own : ownKnob Try.prog.godebug = none := by kernel_rfl

theorem RS.turnN {w w' : World} {s : Sy} {A B C L : Option Addr} {b : Nat} (h : RS w s A B C L) (t : Turn (fun x => x = b) w w') (hn : NoInt w b) : RS w' s A B C L := ⟨h.W.turnN t hn, h.G.turnN t hn, h.C.turnN t hn, h.L.turnN t hn⟩
theorem RowE.atE {w : World} {b o : Nat} {es : List Evt} (h : RowE w (some ⟨b, o, none⟩) es) {j : Nat} {e : Evt} (hj : es[j]? = some e) : EvAt w b (o + j * 5) e := by
  obtain ⟨b', o', e', _, hc⟩ := h (by have := (List.getElem?_eq_some_iff.1 hj).1; omega)
  obtain ⟨rfl, rfl⟩ : b = b' ∧ o = o' := by simpa using e'
  exact hc j e hj
theorem RowE.pre {w : World} {A : Option Addr} {es fs : List Evt} (h : RowE w A (es ++ fs)) : RowE w A es := fun hn => by
  obtain ⟨b, o, e, hl, hc⟩ := h (by simp; omega)
  exact ⟨b, o, e, hl, fun j x hx => hc j x (by rw [List.getElem?_append_left (List.getElem?_eq_some_iff.1 hx).1]; exact hx)⟩
theorem log_in (A B C L : Option Addr) (a b c d : Nat) (s : Sy) (k : Nat) (kind p q z : Int) (w : World) (hs : SyFew s) (h : RS w s A B C L) (hk : k < s.C.length) :
    Calls Try.prog 30 #[.agg #[.slice A s.M.W.length a, .slice B s.M.G.length b, .bool s.M.bad, .slice C s.C.length c, .slice L s.L.length d], .int .i64 k, .int .i64 kind, .int .i64 p, .int .i64 q, .int .i64 z] w fun e w' =>
      ∃ (A2 B2 C2 L2 : Option Addr) (a2 b2 c2 d2 : Nat), e = .returned (.agg #[.slice A2 s.M.W.length a2, .slice B2 s.M.G.length b2, .bool s.M.bad, .slice C2 s.C.length c2, .slice L2 (s.L.length + 1) d2]) ∧
        Row w' A2 s.M.W ∧ Row w' B2 s.M.G ∧ RowC w' C2 s.C ∧ RowE w' L2 (s.L ++ [⟨k, kind, p, q, z⟩]) ∧ s.L.length + 1 ≤ d2 ∧ Below w.heap.size w w' := by
  obtain ⟨f0, f1, f2, f3, f4⟩ := hs
  refine (log_atL A B C L a b c d s k kind p q z hk f3 w h.W h.G h.C h.L f0 f1 f2 (by omega) f4).mono ?_
  rintro e w' ⟨⟨A2, B2, C2, L2, a2, b2, c2, d2, rfl, rW, rG, rC, rL, hb⟩, hc⟩
  refine ⟨A2, B2, C2, L2, a2, b2, c2, d2, by simp [syLog], rW, rG, rC, rL, ?_, hb⟩
  have := hc _ _ _ _ _ _ _ rfl
  simpa [syLog] using this

set_option maxRecDepth 100000 in
set_option maxHeartbeats 8000000 in
theorem walk_not (A0 B0 C0 L0 : Option Addr) (a0 b0 c0 d0 : Nat) (s0 : Sy) (n1 x0 x1 x2 x3 x4 n2 : Int) (w0 : World)
    (rW : Row w0 A0 s0.M.W) (rG : Row w0 B0 s0.M.G) (rC : RowC w0 C0 s0.C) (rL : RowE w0 L0 s0.L) (g0 : s0.M.W.length ≤ maxLen) (g1 : s0.M.G.length ≤ maxLen) (g2 : s0.C.length ≤ maxLen) (g3 : s0.L.length ≤ maxLen) (q0 : syMays s0 = false) :
    Calls Try.prog 5 #[.agg #[.slice A0 s0.M.W.length a0, .slice B0 s0.M.G.length b0, .bool s0.M.bad, .slice C0 s0.C.length c0, .slice L0 s0.L.length d0, .int .i64 n1, .int .i64 x0, .int .i64 x1, .int .i64 x2, .int .i64 x3, .int .i64 x4, .int .i64 n2]] w0 fun e w' => e = .returned (.bool true) ∧ Below w0.heap.size w0 w' := by
  have S0 : RS w0 s0 A0 B0 C0 L0 := ⟨rW, rG, rC, rL⟩
  have hb : Below w0.heap.size w0 w0 := Below.refl _ _
  have HMay := hid (show ∀ w, RS w s0 A0 B0 C0 L0 → Calls Try.prog 26 #[.agg #[.slice A0 s0.M.W.length a0, .slice B0 s0.M.G.length b0, .bool s0.M.bad, .slice C0 s0.C.length c0, .slice L0 s0.L.length d0], .int .i64 60] w fun e w' => e = .returned (.bool (syMays s0)) ∧ Below w.heap.size w w' from fun w h => rmay3_any A0 B0 C0 L0 a0 b0 c0 d0 s0 w h.G h.C g1 g0 g2 g3)
  clear rW rG rC rL g0 g1 g2 g3
  go_enter Try.func5, Try.ntmps5
  go_upto_region 1 with (fail)
  have BkX := heap_alloc_new w0 (.cells #[.slice A0 s0.M.W.length a0, .slice B0 s0.M.G.length b0, .bool s0.M.bad, .slice C0 s0.C.length c0, .slice L0 s0.L.length d0, .int .i64 n1, .int .i64 x0, .int .i64 x1, .int .i64 x2, .int .i64 x3, .int .i64 x4, .int .i64 n2] 59)
  have ltX : w0.heap.size < (w0.alloc (.cells #[.slice A0 s0.M.W.length a0, .slice B0 s0.M.G.length b0, .bool s0.M.bad, .slice C0 s0.C.length c0, .slice L0 s0.L.length d0, .int .i64 n1, .int .i64 x0, .int .i64 x1, .int .i64 x2, .int .i64 x3, .int .i64 x4, .int .i64 n2] 59)).heap.size := by simp
  have hk : Below w0.heap.size w0 (w0.alloc (.cells #[.slice A0 s0.M.W.length a0, .slice B0 s0.M.G.length b0, .bool s0.M.bad, .slice C0 s0.C.length c0, .slice L0 s0.L.length d0, .int .i64 n1, .int .i64 x0, .int .i64 x1, .int .i64 x2, .int .i64 x3, .int .i64 x4, .int .i64 n2] 59)) := boxed _ _
  replace S0 := S0.step hk
  replace hb := bstep hb hk
  clear hk
  obtain ⟨vX, hv⟩ : ∃ v, w0.heap.size = v := ⟨_, rfl⟩
  rw [hv] at BkX ltX ⊢
  clear hv
  generalize (w0.alloc (.cells #[.slice A0 s0.M.W.length a0, .slice B0 s0.M.G.length b0, .bool s0.M.bad, .slice C0 s0.C.length c0, .slice L0 s0.L.length d0, .int .i64 n1, .int .i64 x0, .int .i64 x1, .int .i64 x2, .int .i64 x3, .int .i64 x4, .int .i64 n2] 59)) = w1 at *
  have mX_0 : w1.cell? ⟨vX, 0, none⟩ = some (.slice A0 s0.M.W.length a0) := cell_of_row w1 _ 0 _ _ _ BkX
  have mX_1 : w1.cell? ⟨vX, 1, none⟩ = some (.slice B0 s0.M.G.length b0) := cell_of_row w1 _ 1 _ _ _ BkX
  have mX_2 : w1.cell? ⟨vX, 2, none⟩ = some (.bool s0.M.bad) := cell_of_row w1 _ 2 _ _ _ BkX
  have mX_3 : w1.cell? ⟨vX, 3, none⟩ = some (.slice C0 s0.C.length c0) := cell_of_row w1 _ 3 _ _ _ BkX
  have mX_4 : w1.cell? ⟨vX, 4, none⟩ = some (.slice L0 s0.L.length d0) := cell_of_row w1 _ 4 _ _ _ BkX
  have mX_5 : w1.cell? ⟨vX, 5, none⟩ = some (.int .i64 n1) := cell_of_row w1 _ 5 _ _ _ BkX
  have mX_6 : w1.cell? ⟨vX, 6, none⟩ = some (.int .i64 x0) := cell_of_row w1 _ 6 _ _ _ BkX
  have mX_7 : w1.cell? ⟨vX, 7, none⟩ = some (.int .i64 x1) := cell_of_row w1 _ 7 _ _ _ BkX
  have mX_8 : w1.cell? ⟨vX, 8, none⟩ = some (.int .i64 x2) := cell_of_row w1 _ 8 _ _ _ BkX
  have mX_9 : w1.cell? ⟨vX, 9, none⟩ = some (.int .i64 x3) := cell_of_row w1 _ 9 _ _ _ BkX
  have mX_10 : w1.cell? ⟨vX, 10, none⟩ = some (.int .i64 x4) := cell_of_row w1 _ 10 _ _ _ BkX
  have mX_11 : w1.cell? ⟨vX, 11, none⟩ = some (.int .i64 n2) := cell_of_row w1 _ 11 _ _ _ BkX
  go_upto_region 2 with (fail)
  clear mX_0 mX_1 mX_2 mX_3 mX_4 mX_5 mX_6 mX_7 mX_8 mX_9 mX_10 mX_11
  have Bk0 := heap_alloc_new w1 (.cells #[.slice A0 s0.M.W.length a0, .slice B0 s0.M.G.length b0, .bool s0.M.bad, .slice C0 s0.C.length c0, .slice L0 s0.L.length d0] 28)
  have lt0 : w1.heap.size < (w1.alloc (.cells #[.slice A0 s0.M.W.length a0, .slice B0 s0.M.G.length b0, .bool s0.M.bad, .slice C0 s0.C.length c0, .slice L0 s0.L.length d0] 28)).heap.size := by simp
  have hk : Below w1.heap.size w1 (w1.alloc (.cells #[.slice A0 s0.M.W.length a0, .slice B0 s0.M.G.length b0, .bool s0.M.bad, .slice C0 s0.C.length c0, .slice L0 s0.L.length d0] 28)) := boxed _ _
  replace BkX := (hk.block vX ltX).trans BkX
  replace ltX := Nat.lt_of_lt_of_le ltX hk.size
  replace S0 := S0.step hk
  replace hb := bstep hb hk
  clear hk
  obtain ⟨v0, hv⟩ : ∃ v, w1.heap.size = v := ⟨_, rfl⟩
  rw [hv] at Bk0 lt0 ⊢
  clear hv
  generalize (w1.alloc (.cells #[.slice A0 s0.M.W.length a0, .slice B0 s0.M.G.length b0, .bool s0.M.bad, .slice C0 s0.C.length c0, .slice L0 s0.L.length d0] 28)) = w2 at *
  have mX_0 : w2.cell? ⟨vX, 0, none⟩ = some (.slice A0 s0.M.W.length a0) := cell_of_row w2 _ 0 _ _ _ BkX
  have mX_1 : w2.cell? ⟨vX, 1, none⟩ = some (.slice B0 s0.M.G.length b0) := cell_of_row w2 _ 1 _ _ _ BkX
  have mX_2 : w2.cell? ⟨vX, 2, none⟩ = some (.bool s0.M.bad) := cell_of_row w2 _ 2 _ _ _ BkX
  have mX_3 : w2.cell? ⟨vX, 3, none⟩ = some (.slice C0 s0.C.length c0) := cell_of_row w2 _ 3 _ _ _ BkX
  have mX_4 : w2.cell? ⟨vX, 4, none⟩ = some (.slice L0 s0.L.length d0) := cell_of_row w2 _ 4 _ _ _ BkX
  have mX_5 : w2.cell? ⟨vX, 5, none⟩ = some (.int .i64 n1) := cell_of_row w2 _ 5 _ _ _ BkX
  have mX_6 : w2.cell? ⟨vX, 6, none⟩ = some (.int .i64 x0) := cell_of_row w2 _ 6 _ _ _ BkX
  have mX_7 : w2.cell? ⟨vX, 7, none⟩ = some (.int .i64 x1) := cell_of_row w2 _ 7 _ _ _ BkX
  have mX_8 : w2.cell? ⟨vX, 8, none⟩ = some (.int .i64 x2) := cell_of_row w2 _ 8 _ _ _ BkX
  have mX_9 : w2.cell? ⟨vX, 9, none⟩ = some (.int .i64 x3) := cell_of_row w2 _ 9 _ _ _ BkX
  have mX_10 : w2.cell? ⟨vX, 10, none⟩ = some (.int .i64 x4) := cell_of_row w2 _ 10 _ _ _ BkX
  have mX_11 : w2.cell? ⟨vX, 11, none⟩ = some (.int .i64 n2) := cell_of_row w2 _ 11 _ _ _ BkX
  go_upto_region 4 with (fail)
  clear mX_0 mX_1 mX_2 mX_3 mX_4 mX_5 mX_6 mX_7 mX_8 mX_9 mX_10 mX_11
  have Bk1 := heap_alloc_new w2 (.cells #[.int .i64 x0, .int .i64 x1, .int .i64 x2, .int .i64 x3, .int .i64 x4] 56)
  have lt1 : w2.heap.size < (w2.alloc (.cells #[.int .i64 x0, .int .i64 x1, .int .i64 x2, .int .i64 x3, .int .i64 x4] 56)).heap.size := by simp
  have hk : Below w2.heap.size w2 (w2.alloc (.cells #[.int .i64 x0, .int .i64 x1, .int .i64 x2, .int .i64 x3, .int .i64 x4] 56)) := boxed _ _
  replace BkX := (hk.block vX ltX).trans BkX
  replace ltX := Nat.lt_of_lt_of_le ltX hk.size
  replace Bk0 := (hk.block v0 lt0).trans Bk0
  replace lt0 := Nat.lt_of_lt_of_le lt0 hk.size
  replace S0 := S0.step hk
  replace hb := bstep hb hk
  clear hk
  obtain ⟨v1, hv⟩ : ∃ v, w2.heap.size = v := ⟨_, rfl⟩
  rw [hv] at Bk1 lt1 ⊢
  clear hv
  generalize (w2.alloc (.cells #[.int .i64 x0, .int .i64 x1, .int .i64 x2, .int .i64 x3, .int .i64 x4] 56)) = w3 at *
  have mX_0 : w3.cell? ⟨vX, 0, none⟩ = some (.slice A0 s0.M.W.length a0) := cell_of_row w3 _ 0 _ _ _ BkX
  have mX_1 : w3.cell? ⟨vX, 1, none⟩ = some (.slice B0 s0.M.G.length b0) := cell_of_row w3 _ 1 _ _ _ BkX
  have mX_2 : w3.cell? ⟨vX, 2, none⟩ = some (.bool s0.M.bad) := cell_of_row w3 _ 2 _ _ _ BkX
  have mX_3 : w3.cell? ⟨vX, 3, none⟩ = some (.slice C0 s0.C.length c0) := cell_of_row w3 _ 3 _ _ _ BkX
  have mX_4 : w3.cell? ⟨vX, 4, none⟩ = some (.slice L0 s0.L.length d0) := cell_of_row w3 _ 4 _ _ _ BkX
  have mX_5 : w3.cell? ⟨vX, 5, none⟩ = some (.int .i64 n1) := cell_of_row w3 _ 5 _ _ _ BkX
  have mX_6 : w3.cell? ⟨vX, 6, none⟩ = some (.int .i64 x0) := cell_of_row w3 _ 6 _ _ _ BkX
  have mX_7 : w3.cell? ⟨vX, 7, none⟩ = some (.int .i64 x1) := cell_of_row w3 _ 7 _ _ _ BkX
  have mX_8 : w3.cell? ⟨vX, 8, none⟩ = some (.int .i64 x2) := cell_of_row w3 _ 8 _ _ _ BkX
  have mX_9 : w3.cell? ⟨vX, 9, none⟩ = some (.int .i64 x3) := cell_of_row w3 _ 9 _ _ _ BkX
  have mX_10 : w3.cell? ⟨vX, 10, none⟩ = some (.int .i64 x4) := cell_of_row w3 _ 10 _ _ _ BkX
  have mX_11 : w3.cell? ⟨vX, 11, none⟩ = some (.int .i64 n2) := cell_of_row w3 _ 11 _ _ _ BkX
  go_upto_region 5 with (fail)
  clear mX_0 mX_1 mX_2 mX_3 mX_4 mX_5 mX_6 mX_7 mX_8 mX_9 mX_10 mX_11
  clear BkX ltX
  go_wp2_with fail
  refine (shown3_any _).mono ?_
  rintro e w4 ⟨rfl, hk⟩
  replace Bk0 := (hk.block v0 lt0).trans Bk0
  replace lt0 := Nat.lt_of_lt_of_le lt0 hk.size
  replace Bk1 := (hk.block v1 lt1).trans Bk1
  replace lt1 := Nat.lt_of_lt_of_le lt1 hk.size
  replace S0 := S0.step hk
  replace hb := bstep hb hk
  clear hk
  go_upto_region 6 with (fail)
  have m0_0 : w4.cell? ⟨v0, 0, none⟩ = some (.slice A0 s0.M.W.length a0) := cell_of_row w4 _ 0 _ _ _ Bk0
  have m0_1 : w4.cell? ⟨v0, 1, none⟩ = some (.slice B0 s0.M.G.length b0) := cell_of_row w4 _ 1 _ _ _ Bk0
  have m0_2 : w4.cell? ⟨v0, 2, none⟩ = some (.bool s0.M.bad) := cell_of_row w4 _ 2 _ _ _ Bk0
  have m0_3 : w4.cell? ⟨v0, 3, none⟩ = some (.slice C0 s0.C.length c0) := cell_of_row w4 _ 3 _ _ _ Bk0
  have m0_4 : w4.cell? ⟨v0, 4, none⟩ = some (.slice L0 s0.L.length d0) := cell_of_row w4 _ 4 _ _ _ Bk0
  have HC := HMay.out
  rw [q0] at HC
  replace HC := hid HC
  go_wp2_with (go_at_call 26; refine (HC.out _ S0).mono ?_; rintro e wm ⟨rfl, hk⟩)
  go_ret
  exact ⟨rfl, bstep hb hk⟩

set_option maxRecDepth 100000 in
set_option maxHeartbeats 8000000 in
theorem walk_out (A0 B0 C0 L0 : Option Addr) (a0 b0 c0 d0 : Nat) (s0 : Sy) (n1 x0 x1 x2 x3 x4 n2 : Int) (w0 : World)
    (rW : Row w0 A0 s0.M.W) (rG : Row w0 B0 s0.M.G) (rC : RowC w0 C0 s0.C) (rL : RowE w0 L0 s0.L) (g0 : s0.M.W.length ≤ maxLen) (g1 : s0.M.G.length ≤ maxLen) (g2 : s0.C.length ≤ maxLen) (g3 : s0.L.length ≤ maxLen) (q0 : syMays s0 = true) (h1 : syHas s0 n1 = false) (hq : n1 < 0 ∨ (s0.C.length : Int) ≤ n1) :
    Calls Try.prog 5 #[.agg #[.slice A0 s0.M.W.length a0, .slice B0 s0.M.G.length b0, .bool s0.M.bad, .slice C0 s0.C.length c0, .slice L0 s0.L.length d0, .int .i64 n1, .int .i64 x0, .int .i64 x1, .int .i64 x2, .int .i64 x3, .int .i64 x4, .int .i64 n2]] w0 fun e w' => e = .returned (.bool true) ∧ Below w0.heap.size w0 w' := by
  rcases hq with q | q
  all_goals
    have S0 : RS w0 s0 A0 B0 C0 L0 := ⟨rW, rG, rC, rL⟩
    have hb : Below w0.heap.size w0 w0 := Below.refl _ _
    have HMay := hid (show ∀ w, RS w s0 A0 B0 C0 L0 → Calls Try.prog 26 #[.agg #[.slice A0 s0.M.W.length a0, .slice B0 s0.M.G.length b0, .bool s0.M.bad, .slice C0 s0.C.length c0, .slice L0 s0.L.length d0], .int .i64 60] w fun e w' => e = .returned (.bool (syMays s0)) ∧ Below w.heap.size w w' from fun w h => rmay3_any A0 B0 C0 L0 a0 b0 c0 d0 s0 w h.G h.C g1 g0 g2 g3)
    clear rW rG rC rL g0 g1 g2 g3
    go_enter Try.func5, Try.ntmps5
    go_upto_region 1 with (fail)
    have BkX := heap_alloc_new w0 (.cells #[.slice A0 s0.M.W.length a0, .slice B0 s0.M.G.length b0, .bool s0.M.bad, .slice C0 s0.C.length c0, .slice L0 s0.L.length d0, .int .i64 n1, .int .i64 x0, .int .i64 x1, .int .i64 x2, .int .i64 x3, .int .i64 x4, .int .i64 n2] 59)
    have ltX : w0.heap.size < (w0.alloc (.cells #[.slice A0 s0.M.W.length a0, .slice B0 s0.M.G.length b0, .bool s0.M.bad, .slice C0 s0.C.length c0, .slice L0 s0.L.length d0, .int .i64 n1, .int .i64 x0, .int .i64 x1, .int .i64 x2, .int .i64 x3, .int .i64 x4, .int .i64 n2] 59)).heap.size := by simp
    have hk : Below w0.heap.size w0 (w0.alloc (.cells #[.slice A0 s0.M.W.length a0, .slice B0 s0.M.G.length b0, .bool s0.M.bad, .slice C0 s0.C.length c0, .slice L0 s0.L.length d0, .int .i64 n1, .int .i64 x0, .int .i64 x1, .int .i64 x2, .int .i64 x3, .int .i64 x4, .int .i64 n2] 59)) := boxed _ _
    replace S0 := S0.step hk
    replace hb := bstep hb hk
    clear hk
    obtain ⟨vX, hv⟩ : ∃ v, w0.heap.size = v := ⟨_, rfl⟩
    rw [hv] at BkX ltX ⊢
    clear hv
    generalize (w0.alloc (.cells #[.slice A0 s0.M.W.length a0, .slice B0 s0.M.G.length b0, .bool s0.M.bad, .slice C0 s0.C.length c0, .slice L0 s0.L.length d0, .int .i64 n1, .int .i64 x0, .int .i64 x1, .int .i64 x2, .int .i64 x3, .int .i64 x4, .int .i64 n2] 59)) = w1 at *
    have mX_0 : w1.cell? ⟨vX, 0, none⟩ = some (.slice A0 s0.M.W.length a0) := cell_of_row w1 _ 0 _ _ _ BkX
    have mX_1 : w1.cell? ⟨vX, 1, none⟩ = some (.slice B0 s0.M.G.length b0) := cell_of_row w1 _ 1 _ _ _ BkX
    have mX_2 : w1.cell? ⟨vX, 2, none⟩ = some (.bool s0.M.bad) := cell_of_row w1 _ 2 _ _ _ BkX
    have mX_3 : w1.cell? ⟨vX, 3, none⟩ = some (.slice C0 s0.C.length c0) := cell_of_row w1 _ 3 _ _ _ BkX
    have mX_4 : w1.cell? ⟨vX, 4, none⟩ = some (.slice L0 s0.L.length d0) := cell_of_row w1 _ 4 _ _ _ BkX
    have mX_5 : w1.cell? ⟨vX, 5, none⟩ = some (.int .i64 n1) := cell_of_row w1 _ 5 _ _ _ BkX
    have mX_6 : w1.cell? ⟨vX, 6, none⟩ = some (.int .i64 x0) := cell_of_row w1 _ 6 _ _ _ BkX
    have mX_7 : w1.cell? ⟨vX, 7, none⟩ = some (.int .i64 x1) := cell_of_row w1 _ 7 _ _ _ BkX
    have mX_8 : w1.cell? ⟨vX, 8, none⟩ = some (.int .i64 x2) := cell_of_row w1 _ 8 _ _ _ BkX
    have mX_9 : w1.cell? ⟨vX, 9, none⟩ = some (.int .i64 x3) := cell_of_row w1 _ 9 _ _ _ BkX
    have mX_10 : w1.cell? ⟨vX, 10, none⟩ = some (.int .i64 x4) := cell_of_row w1 _ 10 _ _ _ BkX
    have mX_11 : w1.cell? ⟨vX, 11, none⟩ = some (.int .i64 n2) := cell_of_row w1 _ 11 _ _ _ BkX
    go_upto_region 2 with (fail)
    clear mX_0 mX_1 mX_2 mX_3 mX_4 mX_5 mX_6 mX_7 mX_8 mX_9 mX_10 mX_11
    have Bk0 := heap_alloc_new w1 (.cells #[.slice A0 s0.M.W.length a0, .slice B0 s0.M.G.length b0, .bool s0.M.bad, .slice C0 s0.C.length c0, .slice L0 s0.L.length d0] 28)
    have lt0 : w1.heap.size < (w1.alloc (.cells #[.slice A0 s0.M.W.length a0, .slice B0 s0.M.G.length b0, .bool s0.M.bad, .slice C0 s0.C.length c0, .slice L0 s0.L.length d0] 28)).heap.size := by simp
    have hk : Below w1.heap.size w1 (w1.alloc (.cells #[.slice A0 s0.M.W.length a0, .slice B0 s0.M.G.length b0, .bool s0.M.bad, .slice C0 s0.C.length c0, .slice L0 s0.L.length d0] 28)) := boxed _ _
    replace BkX := (hk.block vX ltX).trans BkX
    replace ltX := Nat.lt_of_lt_of_le ltX hk.size
    replace S0 := S0.step hk
    replace hb := bstep hb hk
    clear hk
    obtain ⟨v0, hv⟩ : ∃ v, w1.heap.size = v := ⟨_, rfl⟩
    rw [hv] at Bk0 lt0 ⊢
    clear hv
    generalize (w1.alloc (.cells #[.slice A0 s0.M.W.length a0, .slice B0 s0.M.G.length b0, .bool s0.M.bad, .slice C0 s0.C.length c0, .slice L0 s0.L.length d0] 28)) = w2 at *
    have mX_0 : w2.cell? ⟨vX, 0, none⟩ = some (.slice A0 s0.M.W.length a0) := cell_of_row w2 _ 0 _ _ _ BkX
    have mX_1 : w2.cell? ⟨vX, 1, none⟩ = some (.slice B0 s0.M.G.length b0) := cell_of_row w2 _ 1 _ _ _ BkX
    have mX_2 : w2.cell? ⟨vX, 2, none⟩ = some (.bool s0.M.bad) := cell_of_row w2 _ 2 _ _ _ BkX
    have mX_3 : w2.cell? ⟨vX, 3, none⟩ = some (.slice C0 s0.C.length c0) := cell_of_row w2 _ 3 _ _ _ BkX
    have mX_4 : w2.cell? ⟨vX, 4, none⟩ = some (.slice L0 s0.L.length d0) := cell_of_row w2 _ 4 _ _ _ BkX
    have mX_5 : w2.cell? ⟨vX, 5, none⟩ = some (.int .i64 n1) := cell_of_row w2 _ 5 _ _ _ BkX
    have mX_6 : w2.cell? ⟨vX, 6, none⟩ = some (.int .i64 x0) := cell_of_row w2 _ 6 _ _ _ BkX
    have mX_7 : w2.cell? ⟨vX, 7, none⟩ = some (.int .i64 x1) := cell_of_row w2 _ 7 _ _ _ BkX
    have mX_8 : w2.cell? ⟨vX, 8, none⟩ = some (.int .i64 x2) := cell_of_row w2 _ 8 _ _ _ BkX
    have mX_9 : w2.cell? ⟨vX, 9, none⟩ = some (.int .i64 x3) := cell_of_row w2 _ 9 _ _ _ BkX
    have mX_10 : w2.cell? ⟨vX, 10, none⟩ = some (.int .i64 x4) := cell_of_row w2 _ 10 _ _ _ BkX
    have mX_11 : w2.cell? ⟨vX, 11, none⟩ = some (.int .i64 n2) := cell_of_row w2 _ 11 _ _ _ BkX
    go_upto_region 4 with (fail)
    clear mX_0 mX_1 mX_2 mX_3 mX_4 mX_5 mX_6 mX_7 mX_8 mX_9 mX_10 mX_11
    have Bk1 := heap_alloc_new w2 (.cells #[.int .i64 x0, .int .i64 x1, .int .i64 x2, .int .i64 x3, .int .i64 x4] 56)
    have lt1 : w2.heap.size < (w2.alloc (.cells #[.int .i64 x0, .int .i64 x1, .int .i64 x2, .int .i64 x3, .int .i64 x4] 56)).heap.size := by simp
    have hk : Below w2.heap.size w2 (w2.alloc (.cells #[.int .i64 x0, .int .i64 x1, .int .i64 x2, .int .i64 x3, .int .i64 x4] 56)) := boxed _ _
    replace BkX := (hk.block vX ltX).trans BkX
    replace ltX := Nat.lt_of_lt_of_le ltX hk.size
    replace Bk0 := (hk.block v0 lt0).trans Bk0
    replace lt0 := Nat.lt_of_lt_of_le lt0 hk.size
    replace S0 := S0.step hk
    replace hb := bstep hb hk
    clear hk
    obtain ⟨v1, hv⟩ : ∃ v, w2.heap.size = v := ⟨_, rfl⟩
    rw [hv] at Bk1 lt1 ⊢
    clear hv
    generalize (w2.alloc (.cells #[.int .i64 x0, .int .i64 x1, .int .i64 x2, .int .i64 x3, .int .i64 x4] 56)) = w3 at *
    have mX_0 : w3.cell? ⟨vX, 0, none⟩ = some (.slice A0 s0.M.W.length a0) := cell_of_row w3 _ 0 _ _ _ BkX
    have mX_1 : w3.cell? ⟨vX, 1, none⟩ = some (.slice B0 s0.M.G.length b0) := cell_of_row w3 _ 1 _ _ _ BkX
    have mX_2 : w3.cell? ⟨vX, 2, none⟩ = some (.bool s0.M.bad) := cell_of_row w3 _ 2 _ _ _ BkX
    have mX_3 : w3.cell? ⟨vX, 3, none⟩ = some (.slice C0 s0.C.length c0) := cell_of_row w3 _ 3 _ _ _ BkX
    have mX_4 : w3.cell? ⟨vX, 4, none⟩ = some (.slice L0 s0.L.length d0) := cell_of_row w3 _ 4 _ _ _ BkX
    have mX_5 : w3.cell? ⟨vX, 5, none⟩ = some (.int .i64 n1) := cell_of_row w3 _ 5 _ _ _ BkX
    have mX_6 : w3.cell? ⟨vX, 6, none⟩ = some (.int .i64 x0) := cell_of_row w3 _ 6 _ _ _ BkX
    have mX_7 : w3.cell? ⟨vX, 7, none⟩ = some (.int .i64 x1) := cell_of_row w3 _ 7 _ _ _ BkX
    have mX_8 : w3.cell? ⟨vX, 8, none⟩ = some (.int .i64 x2) := cell_of_row w3 _ 8 _ _ _ BkX
    have mX_9 : w3.cell? ⟨vX, 9, none⟩ = some (.int .i64 x3) := cell_of_row w3 _ 9 _ _ _ BkX
    have mX_10 : w3.cell? ⟨vX, 10, none⟩ = some (.int .i64 x4) := cell_of_row w3 _ 10 _ _ _ BkX
    have mX_11 : w3.cell? ⟨vX, 11, none⟩ = some (.int .i64 n2) := cell_of_row w3 _ 11 _ _ _ BkX
    go_upto_region 5 with (fail)
    clear mX_0 mX_1 mX_2 mX_3 mX_4 mX_5 mX_6 mX_7 mX_8 mX_9 mX_10 mX_11
    clear BkX ltX
    go_wp2_with fail
    refine (shown3_any _).mono ?_
    rintro e w4 ⟨rfl, hk⟩
    replace Bk0 := (hk.block v0 lt0).trans Bk0
    replace lt0 := Nat.lt_of_lt_of_le lt0 hk.size
    replace Bk1 := (hk.block v1 lt1).trans Bk1
    replace lt1 := Nat.lt_of_lt_of_le lt1 hk.size
    replace S0 := S0.step hk
    replace hb := bstep hb hk
    clear hk
    go_upto_region 6 with (fail)
    have m0_0 : w4.cell? ⟨v0, 0, none⟩ = some (.slice A0 s0.M.W.length a0) := cell_of_row w4 _ 0 _ _ _ Bk0
    have m0_1 : w4.cell? ⟨v0, 1, none⟩ = some (.slice B0 s0.M.G.length b0) := cell_of_row w4 _ 1 _ _ _ Bk0
    have m0_2 : w4.cell? ⟨v0, 2, none⟩ = some (.bool s0.M.bad) := cell_of_row w4 _ 2 _ _ _ Bk0
    have m0_3 : w4.cell? ⟨v0, 3, none⟩ = some (.slice C0 s0.C.length c0) := cell_of_row w4 _ 3 _ _ _ Bk0
    have m0_4 : w4.cell? ⟨v0, 4, none⟩ = some (.slice L0 s0.L.length d0) := cell_of_row w4 _ 4 _ _ _ Bk0
    have HC := HMay.out
    rw [q0] at HC
    replace HC := hid HC
    have hmay : sySmall s0 = true ∧ syRight s0 = true := by simpa [syMays] using q0
    have HF := hid (few_of_small hmay.1)
    have HSM := hid (sySmall_few hmay.1)
    clear hmay q0
    go_upto_region 8 with (go_at_call 26; refine (HC.out _ S0).mono ?_; rintro e w5 ⟨rfl, hk⟩)
    clear m0_0 m0_1 m0_2 m0_3 m0_4
    replace Bk0 := (hk.block v0 lt0).trans Bk0
    replace lt0 := Nat.lt_of_lt_of_le lt0 hk.size
    replace Bk1 := (hk.block v1 lt1).trans Bk1
    replace lt1 := Nat.lt_of_lt_of_le lt1 hk.size
    replace S0 := S0.step hk
    replace hb := bstep hb hk
    clear hk
    clear HC HMay
    have el : pLog s0 n1 x1 x2 x3 x4 = s0 := by unfold pLog; rw [h1]; rfl
    have m0_0 : w5.cell? ⟨v0, 0, none⟩ = some (.slice A0 s0.M.W.length a0) := cell_of_row w5 _ 0 _ _ _ Bk0
    have m0_1 : w5.cell? ⟨v0, 1, none⟩ = some (.slice B0 s0.M.G.length b0) := cell_of_row w5 _ 1 _ _ _ Bk0
    have m0_2 : w5.cell? ⟨v0, 2, none⟩ = some (.bool s0.M.bad) := cell_of_row w5 _ 2 _ _ _ Bk0
    have m0_3 : w5.cell? ⟨v0, 3, none⟩ = some (.slice C0 s0.C.length c0) := cell_of_row w5 _ 3 _ _ _ Bk0
    have m0_4 : w5.cell? ⟨v0, 4, none⟩ = some (.slice L0 s0.L.length d0) := cell_of_row w5 _ 4 _ _ _ Bk0
    have m1_0 : w5.cell? ⟨v1, 0, none⟩ = some (.int .i64 x0) := cell_of_row w5 _ 0 _ _ _ Bk1
    have m1_1 : w5.cell? ⟨v1, 1, none⟩ = some (.int .i64 x1) := cell_of_row w5 _ 1 _ _ _ Bk1
    have m1_2 : w5.cell? ⟨v1, 2, none⟩ = some (.int .i64 x2) := cell_of_row w5 _ 2 _ _ _ Bk1
    have m1_3 : w5.cell? ⟨v1, 3, none⟩ = some (.int .i64 x3) := cell_of_row w5 _ 3 _ _ _ Bk1
    have m1_4 : w5.cell? ⟨v1, 4, none⟩ = some (.int .i64 x4) := cell_of_row w5 _ 4 _ _ _ Bk1
    go_wp2_with fail
    clear m0_0 m0_1 m0_2 m0_3 m0_4 m1_0 m1_1 m1_2 m1_3 m1_4
    have h := log_u A0 B0 C0 L0 a0 b0 c0 d0 s0 n1 x1 x2 x3 x4 w5 HF.out S0
    rw [el] at h
    refine h.mono ?_
    clear h el
    rintro e w6 ⟨A2, B2, C2, L2, a2, b2, c2, d2, rfl, rW, rG, rC, rL, hk⟩
    replace Bk0 := (hk.block v0 lt0).trans Bk0
    replace lt0 := Nat.lt_of_lt_of_le lt0 hk.size
    replace Bk1 := (hk.block v1 lt1).trans Bk1
    replace lt1 := Nat.lt_of_lt_of_le lt1 hk.size
    replace S0 := S0.step hk
    replace hb := bstep hb hk
    clear hk
    have S2 : RS w6 s0 A2 B2 C2 L2 := ⟨rW, rG, rC, rL⟩
    clear rW rG rC rL
    go_upto_region 9 with (fail)
    have Bk2 := heap_alloc_new w6 (.cells #[.slice A2 s0.M.W.length a2, .slice B2 s0.M.G.length b2, .bool s0.M.bad, .slice C2 s0.C.length c2, .slice L2 s0.L.length d2] 28)
    have lt2 : w6.heap.size < (w6.alloc (.cells #[.slice A2 s0.M.W.length a2, .slice B2 s0.M.G.length b2, .bool s0.M.bad, .slice C2 s0.C.length c2, .slice L2 s0.L.length d2] 28)).heap.size := by simp
    have hk : Below w6.heap.size w6 (w6.alloc (.cells #[.slice A2 s0.M.W.length a2, .slice B2 s0.M.G.length b2, .bool s0.M.bad, .slice C2 s0.C.length c2, .slice L2 s0.L.length d2] 28)) := boxed _ _
    replace Bk0 := (hk.block v0 lt0).trans Bk0
    replace lt0 := Nat.lt_of_lt_of_le lt0 hk.size
    replace Bk1 := (hk.block v1 lt1).trans Bk1
    replace lt1 := Nat.lt_of_lt_of_le lt1 hk.size
    replace S0 := S0.step hk
    replace S2 := S2.step hk
    replace hb := bstep hb hk
    clear hk
    obtain ⟨v2, hv⟩ : ∃ v, w6.heap.size = v := ⟨_, rfl⟩
    rw [hv] at Bk2 lt2 ⊢
    clear hv
    generalize (w6.alloc (.cells #[.slice A2 s0.M.W.length a2, .slice B2 s0.M.G.length b2, .bool s0.M.bad, .slice C2 s0.C.length c2, .slice L2 s0.L.length d2] 28)) = w7 at *
    have HH := hid h1
    clear h1
    have m0_0 : w7.cell? ⟨v0, 0, none⟩ = some (.slice A0 s0.M.W.length a0) := cell_of_row w7 _ 0 _ _ _ Bk0
    have m0_1 : w7.cell? ⟨v0, 1, none⟩ = some (.slice B0 s0.M.G.length b0) := cell_of_row w7 _ 1 _ _ _ Bk0
    have m0_2 : w7.cell? ⟨v0, 2, none⟩ = some (.bool s0.M.bad) := cell_of_row w7 _ 2 _ _ _ Bk0
    have m0_3 : w7.cell? ⟨v0, 3, none⟩ = some (.slice C0 s0.C.length c0) := cell_of_row w7 _ 3 _ _ _ Bk0
    have m0_4 : w7.cell? ⟨v0, 4, none⟩ = some (.slice L0 s0.L.length d0) := cell_of_row w7 _ 4 _ _ _ Bk0
    go_upto_region 10 with (fail)
    go_wp2_with fail
    clear m0_0 m0_1 m0_2 m0_3 m0_4
    refine (top_out A0 B0 C0 L0 a0 b0 c0 d0 s0 n1 w7 HF.out.2.2.1 HH.out).mono ?_
    rintro e w8 ⟨rfl, hk⟩
    replace Bk0 := (hk.block v0 lt0).trans Bk0
    replace lt0 := Nat.lt_of_lt_of_le lt0 hk.size
    replace Bk1 := (hk.block v1 lt1).trans Bk1
    replace lt1 := Nat.lt_of_lt_of_le lt1 hk.size
    replace Bk2 := (hk.block v2 lt2).trans Bk2
    replace lt2 := Nat.lt_of_lt_of_le lt2 hk.size
    replace S0 := S0.step hk
    replace S2 := S2.step hk
    replace hb := bstep hb hk
    clear hk
    go_upto_region 11 with (fail)
    have Bk3 := heap_alloc_new w8 (.cells #[.int .i64 0, .int .i64 0, .int .i64 0, .int .i64 0, .int .i64 0, .int .i64 0, .int .i64 0, .int .i64 0, .int .i64 0, .int .i64 0, .slice none 0 0] 42)
    have lt3 : w8.heap.size < (w8.alloc (.cells #[.int .i64 0, .int .i64 0, .int .i64 0, .int .i64 0, .int .i64 0, .int .i64 0, .int .i64 0, .int .i64 0, .int .i64 0, .int .i64 0, .slice none 0 0] 42)).heap.size := by simp
    have hk : Below w8.heap.size w8 (w8.alloc (.cells #[.int .i64 0, .int .i64 0, .int .i64 0, .int .i64 0, .int .i64 0, .int .i64 0, .int .i64 0, .int .i64 0, .int .i64 0, .int .i64 0, .slice none 0 0] 42)) := boxed _ _
    replace Bk0 := (hk.block v0 lt0).trans Bk0
    replace lt0 := Nat.lt_of_lt_of_le lt0 hk.size
    replace Bk1 := (hk.block v1 lt1).trans Bk1
    replace lt1 := Nat.lt_of_lt_of_le lt1 hk.size
    replace Bk2 := (hk.block v2 lt2).trans Bk2
    replace lt2 := Nat.lt_of_lt_of_le lt2 hk.size
    replace S0 := S0.step hk
    replace S2 := S2.step hk
    replace hb := bstep hb hk
    clear hk
    obtain ⟨v3, hv⟩ : ∃ v, w8.heap.size = v := ⟨_, rfl⟩
    rw [hv] at Bk3 lt3 ⊢
    clear hv
    generalize (w8.alloc (.cells #[.int .i64 0, .int .i64 0, .int .i64 0, .int .i64 0, .int .i64 0, .int .i64 0, .int .i64 0, .int .i64 0, .int .i64 0, .int .i64 0, .slice none 0 0] 42)) = w9 at *
    have HA := hid (show ∀ w A9 B9 C9 L9 a9 b9 c9 d9, RS w s0 A9 B9 C9 L9 → RS w s0 A0 B0 C0 L0 → Calls Try.prog 20 #[.agg #[.slice A9 s0.M.W.length a9, .slice B9 s0.M.G.length b9, .bool s0.M.bad, .slice C9 s0.C.length c9, .slice L9 s0.L.length d9], .agg #[.slice A0 s0.M.W.length a0, .slice B0 s0.M.G.length b0, .bool s0.M.bad, .slice C0 s0.C.length c0, .slice L0 s0.L.length d0]] w fun e w' => e = .returned (.bool true) ∧ Below w.heap.size w w' from fun w A9 B9 C9 L9 a9 b9 c9 d9 h h' => by have := rsame_u A9 B9 C9 L9 A0 B0 C0 L0 a9 b9 c9 d9 a0 b0 c0 d0 s0 s0 w HF.out h h'; rwa [sySame_self] at this)
    have HPC := hid (show ∀ w, RS w s0 A0 B0 C0 L0 → Calls Try.prog 27 #[.agg #[.slice A0 s0.M.W.length a0, .slice B0 s0.M.G.length b0, .bool s0.M.bad, .slice C0 s0.C.length c0, .slice L0 s0.L.length d0], .int .i64 n1, .int .i64 n2, .slice none 0 0] w (RetSys w s0) from fun w h => call_out A0 B0 C0 L0 a0 b0 c0 d0 s0 n1 n2 [] none 0 HH.out w h.W h.G h.C h.L HF.out.1 HF.out.2.1 HF.out.2.2.1 (by have := HF.out.2.2.2.1; omega) HF.out.2.2.2.2)
    have HPS := hid (show ∀ w, RS w s0 A0 B0 C0 L0 → Calls Try.prog 28 #[.agg #[.slice A0 s0.M.W.length a0, .slice B0 s0.M.G.length b0, .bool s0.M.bad, .slice C0 s0.C.length c0, .slice L0 s0.L.length d0], .int .i64 n1, .agg #[.int .i64 0, .int .i64 0, .int .i64 0, .int .i64 0, .int .i64 0, .int .i64 0, .int .i64 0, .int .i64 0, .int .i64 0, .int .i64 0, .slice none 0 0]] w (RetSys w s0) from fun w h => set_out A0 B0 C0 L0 a0 b0 c0 d0 s0 n1 none 0 0 0 0 0 0 0 0 0 0 0 [] HH.out w h.W h.G h.C h.L HF.out.1 HF.out.2.1 HF.out.2.2.1 (by have := HF.out.2.2.2.1; omega) HF.out.2.2.2.2)
    have HPB := hid (show ∀ w, RS w s0 A0 B0 C0 L0 → Calls Try.prog 29 #[.agg #[.slice A0 s0.M.W.length a0, .slice B0 s0.M.G.length b0, .bool s0.M.bad, .slice C0 s0.C.length c0, .slice L0 s0.L.length d0], .int .i64 n1, .int .i64 n2, .int .i64 0] w (RetSys w s0) from fun w h => back_out A0 B0 C0 L0 a0 b0 c0 d0 s0 n1 n2 0 HH.out w h.W h.G h.C h.L HF.out.1 HF.out.2.1 HF.out.2.2.1 (by have := HF.out.2.2.2.1; omega) HF.out.2.2.2.2)
    have m0_0 : w9.cell? ⟨v0, 0, none⟩ = some (.slice A0 s0.M.W.length a0) := cell_of_row w9 _ 0 _ _ _ Bk0
    have m0_1 : w9.cell? ⟨v0, 1, none⟩ = some (.slice B0 s0.M.G.length b0) := cell_of_row w9 _ 1 _ _ _ Bk0
    have m0_2 : w9.cell? ⟨v0, 2, none⟩ = some (.bool s0.M.bad) := cell_of_row w9 _ 2 _ _ _ Bk0
    have m0_3 : w9.cell? ⟨v0, 3, none⟩ = some (.slice C0 s0.C.length c0) := cell_of_row w9 _ 3 _ _ _ Bk0
    have m0_4 : w9.cell? ⟨v0, 4, none⟩ = some (.slice L0 s0.L.length d0) := cell_of_row w9 _ 4 _ _ _ Bk0
    have m2_0 : w9.cell? ⟨v2, 0, none⟩ = some (.slice A2 s0.M.W.length a2) := cell_of_row w9 _ 0 _ _ _ Bk2
    have m2_1 : w9.cell? ⟨v2, 1, none⟩ = some (.slice B2 s0.M.G.length b2) := cell_of_row w9 _ 1 _ _ _ Bk2
    have m2_2 : w9.cell? ⟨v2, 2, none⟩ = some (.bool s0.M.bad) := cell_of_row w9 _ 2 _ _ _ Bk2
    have m2_3 : w9.cell? ⟨v2, 3, none⟩ = some (.slice C2 s0.C.length c2) := cell_of_row w9 _ 3 _ _ _ Bk2
    have m2_4 : w9.cell? ⟨v2, 4, none⟩ = some (.slice L2 s0.L.length d2) := cell_of_row w9 _ 4 _ _ _ Bk2
    have KS := hid (show ∀ w', Below w9.heap.size w9 w' → (w'.cell? ⟨v0, 0, none⟩ = some (.slice A0 s0.M.W.length a0) ∧ w'.cell? ⟨v0, 1, none⟩ = some (.slice B0 s0.M.G.length b0) ∧ w'.cell? ⟨v0, 2, none⟩ = some (.bool s0.M.bad) ∧ w'.cell? ⟨v0, 3, none⟩ = some (.slice C0 s0.C.length c0) ∧ w'.cell? ⟨v0, 4, none⟩ = some (.slice L0 s0.L.length d0) ∧ w'.cell? ⟨v2, 0, none⟩ = some (.slice A2 s0.M.W.length a2) ∧ w'.cell? ⟨v2, 1, none⟩ = some (.slice B2 s0.M.G.length b2) ∧ w'.cell? ⟨v2, 2, none⟩ = some (.bool s0.M.bad) ∧ w'.cell? ⟨v2, 3, none⟩ = some (.slice C2 s0.C.length c2) ∧ w'.cell? ⟨v2, 4, none⟩ = some (.slice L2 s0.L.length d2)) from fun w' h => ⟨(h.cell lt0).trans m0_0, (h.cell lt0).trans m0_1, (h.cell lt0).trans m0_2, (h.cell lt0).trans m0_3, (h.cell lt0).trans m0_4, (h.cell lt2).trans m2_0, (h.cell lt2).trans m2_1, (h.cell lt2).trans m2_2, (h.cell lt2).trans m2_3, (h.cell lt2).trans m2_4⟩)
    go_region_held3 (fun w' => w'.cell? ⟨v0, 0, none⟩ = some (.slice A0 s0.M.W.length a0) ∧ w'.cell? ⟨v0, 1, none⟩ = some (.slice B0 s0.M.G.length b0) ∧ w'.cell? ⟨v0, 2, none⟩ = some (.bool s0.M.bad) ∧ w'.cell? ⟨v0, 3, none⟩ = some (.slice C0 s0.C.length c0) ∧ w'.cell? ⟨v0, 4, none⟩ = some (.slice L0 s0.L.length d0) ∧ w'.cell? ⟨v2, 0, none⟩ = some (.slice A2 s0.M.W.length a2) ∧ w'.cell? ⟨v2, 1, none⟩ = some (.slice B2 s0.M.G.length b2) ∧ w'.cell? ⟨v2, 2, none⟩ = some (.bool s0.M.bad) ∧ w'.cell? ⟨v2, 3, none⟩ = some (.slice C2 s0.C.length c2) ∧ w'.cell? ⟨v2, 4, none⟩ = some (.slice L2 s0.L.length d2)) (exact KS.out _ (by repeat (first | (with_reducible exact Below.refl _ _) | (with_reducible refine Below.drew ?_) | (with_reducible refine bstep ?_ (boxed _ _)) | (with_reducible refine bstep ?_ hk7) | (with_reducible refine bstep ?_ hk6) | (with_reducible refine bstep ?_ hk5) | (with_reducible refine bstep ?_ hk4) | (with_reducible refine bstep ?_ hk3) | (with_reducible refine bstep ?_ hk2) | (with_reducible refine bstep ?_ hk1))))
      (first | (go_at_call 27; (with_reducible refine (HPC.out _ (S0.step (by repeat (first | (with_reducible exact Below.refl _ _) | (with_reducible refine Below.drew ?_) | (with_reducible refine bstep ?_ (boxed _ _)) | (with_reducible refine bstep ?_ hk7) | (with_reducible refine bstep ?_ hk6) | (with_reducible refine bstep ?_ hk5) | (with_reducible refine bstep ?_ hk4) | (with_reducible refine bstep ?_ hk3) | (with_reducible refine bstep ?_ hk2) | (with_reducible refine bstep ?_ hk1))))).mono ?_); rintro e wk2 ⟨A4, B4, C4, L4, a4, b4, c4, d4, rfl, rW, rG, rC, rL, hk2⟩; have S4 : RS wk2 s0 A4 B4 C4 L4 := ⟨rW, rG, rC, rL⟩; clear rW rG rC rL) | (go_at_call 28; (with_reducible refine (HPS.out _ (S0.step (by repeat (first | (with_reducible exact Below.refl _ _) | (with_reducible refine Below.drew ?_) | (with_reducible refine bstep ?_ (boxed _ _)) | (with_reducible refine bstep ?_ hk7) | (with_reducible refine bstep ?_ hk6) | (with_reducible refine bstep ?_ hk5) | (with_reducible refine bstep ?_ hk4) | (with_reducible refine bstep ?_ hk3) | (with_reducible refine bstep ?_ hk2) | (with_reducible refine bstep ?_ hk1))))).mono ?_); rintro e wk4 ⟨A5, B5, C5, L5, a5, b5, c5, d5, rfl, rW, rG, rC, rL, hk4⟩; have S5 : RS wk4 s0 A5 B5 C5 L5 := ⟨rW, rG, rC, rL⟩; clear rW rG rC rL) | (go_at_call 29; (with_reducible refine (HPB.out _ (S0.step (by repeat (first | (with_reducible exact Below.refl _ _) | (with_reducible refine Below.drew ?_) | (with_reducible refine bstep ?_ (boxed _ _)) | (with_reducible refine bstep ?_ hk7) | (with_reducible refine bstep ?_ hk6) | (with_reducible refine bstep ?_ hk5) | (with_reducible refine bstep ?_ hk4) | (with_reducible refine bstep ?_ hk3) | (with_reducible refine bstep ?_ hk2) | (with_reducible refine bstep ?_ hk1))))).mono ?_); rintro e wk6 ⟨A6, B6, C6, L6, a6, b6, c6, d6, rfl, rW, rG, rC, rL, hk6⟩; have S6 : RS wk6 s0 A6 B6 C6 L6 := ⟨rW, rG, rC, rL⟩; clear rW rG rC rL) | (go_at_call 20; (with_reducible refine (HA.out _ _ _ _ _ _ _ _ _ (S6.step (by repeat (first | (with_reducible exact Below.refl _ _) | (with_reducible refine Below.drew ?_) | (with_reducible refine bstep ?_ (boxed _ _)) | (with_reducible refine bstep ?_ hk7) | (with_reducible refine bstep ?_ hk6) | (with_reducible refine bstep ?_ hk5) | (with_reducible refine bstep ?_ hk4) | (with_reducible refine bstep ?_ hk3) | (with_reducible refine bstep ?_ hk2) | (with_reducible refine bstep ?_ hk1)))) (S0.step (by repeat (first | (with_reducible exact Below.refl _ _) | (with_reducible refine Below.drew ?_) | (with_reducible refine bstep ?_ (boxed _ _)) | (with_reducible refine bstep ?_ hk7) | (with_reducible refine bstep ?_ hk6) | (with_reducible refine bstep ?_ hk5) | (with_reducible refine bstep ?_ hk4) | (with_reducible refine bstep ?_ hk3) | (with_reducible refine bstep ?_ hk2) | (with_reducible refine bstep ?_ hk1))))).mono ?_); rintro e wk7 ⟨rfl, hk7⟩) | (go_at_call 20; (with_reducible refine (HA.out _ _ _ _ _ _ _ _ _ (S5.step (by repeat (first | (with_reducible exact Below.refl _ _) | (with_reducible refine Below.drew ?_) | (with_reducible refine bstep ?_ (boxed _ _)) | (with_reducible refine bstep ?_ hk7) | (with_reducible refine bstep ?_ hk6) | (with_reducible refine bstep ?_ hk5) | (with_reducible refine bstep ?_ hk4) | (with_reducible refine bstep ?_ hk3) | (with_reducible refine bstep ?_ hk2) | (with_reducible refine bstep ?_ hk1)))) (S0.step (by repeat (first | (with_reducible exact Below.refl _ _) | (with_reducible refine Below.drew ?_) | (with_reducible refine bstep ?_ (boxed _ _)) | (with_reducible refine bstep ?_ hk7) | (with_reducible refine bstep ?_ hk6) | (with_reducible refine bstep ?_ hk5) | (with_reducible refine bstep ?_ hk4) | (with_reducible refine bstep ?_ hk3) | (with_reducible refine bstep ?_ hk2) | (with_reducible refine bstep ?_ hk1))))).mono ?_); rintro e wk5 ⟨rfl, hk5⟩) | (go_at_call 20; (with_reducible refine (HA.out _ _ _ _ _ _ _ _ _ (S4.step (by repeat (first | (with_reducible exact Below.refl _ _) | (with_reducible refine Below.drew ?_) | (with_reducible refine bstep ?_ (boxed _ _)) | (with_reducible refine bstep ?_ hk7) | (with_reducible refine bstep ?_ hk6) | (with_reducible refine bstep ?_ hk5) | (with_reducible refine bstep ?_ hk4) | (with_reducible refine bstep ?_ hk3) | (with_reducible refine bstep ?_ hk2) | (with_reducible refine bstep ?_ hk1)))) (S0.step (by repeat (first | (with_reducible exact Below.refl _ _) | (with_reducible refine Below.drew ?_) | (with_reducible refine bstep ?_ (boxed _ _)) | (with_reducible refine bstep ?_ hk7) | (with_reducible refine bstep ?_ hk6) | (with_reducible refine bstep ?_ hk5) | (with_reducible refine bstep ?_ hk4) | (with_reducible refine bstep ?_ hk3) | (with_reducible refine bstep ?_ hk2) | (with_reducible refine bstep ?_ hk1))))).mono ?_); rintro e wk3 ⟨rfl, hk3⟩) | (go_at_call 20; (with_reducible refine (HA.out _ _ _ _ _ _ _ _ _ (S2.step (by repeat (first | (with_reducible exact Below.refl _ _) | (with_reducible refine Below.drew ?_) | (with_reducible refine bstep ?_ (boxed _ _)) | (with_reducible refine bstep ?_ hk7) | (with_reducible refine bstep ?_ hk6) | (with_reducible refine bstep ?_ hk5) | (with_reducible refine bstep ?_ hk4) | (with_reducible refine bstep ?_ hk3) | (with_reducible refine bstep ?_ hk2) | (with_reducible refine bstep ?_ hk1)))) (S0.step (by repeat (first | (with_reducible exact Below.refl _ _) | (with_reducible refine Below.drew ?_) | (with_reducible refine bstep ?_ (boxed _ _)) | (with_reducible refine bstep ?_ hk7) | (with_reducible refine bstep ?_ hk6) | (with_reducible refine bstep ?_ hk5) | (with_reducible refine bstep ?_ hk4) | (with_reducible refine bstep ?_ hk3) | (with_reducible refine bstep ?_ hk2) | (with_reducible refine bstep ?_ hk1))))).mono ?_); rintro e wk1 ⟨rfl, hk1⟩))
    rename_i hHeld
    have hbw : Below w9.heap.size w9 wk7 := (by repeat (first | (with_reducible exact Below.refl _ _) | (with_reducible refine Below.drew ?_) | (with_reducible refine bstep ?_ (boxed _ _)) | (with_reducible refine bstep ?_ hk7) | (with_reducible refine bstep ?_ hk6) | (with_reducible refine bstep ?_ hk5) | (with_reducible refine bstep ?_ hk4) | (with_reducible refine bstep ?_ hk3) | (with_reducible refine bstep ?_ hk2) | (with_reducible refine bstep ?_ hk1)))
    clear hHeld KS hk1 hk2 hk3 hk4 hk5 hk6 hk7
    clear m0_0 m0_1 m0_2 m0_3 m0_4 m2_0 m2_1 m2_2 m2_3 m2_4
    replace Bk0 := (hbw.block v0 lt0).trans Bk0
    replace lt0 := Nat.lt_of_lt_of_le lt0 hbw.size
    replace Bk1 := (hbw.block v1 lt1).trans Bk1
    replace lt1 := Nat.lt_of_lt_of_le lt1 hbw.size
    replace Bk2 := (hbw.block v2 lt2).trans Bk2
    replace lt2 := Nat.lt_of_lt_of_le lt2 hbw.size
    replace Bk3 := (hbw.block v3 lt3).trans Bk3
    replace lt3 := Nat.lt_of_lt_of_le lt3 hbw.size
    replace S0 := S0.step hbw
    replace S2 := S2.step hbw
    replace hb := bstep hb hbw
    clear hbw
    generalize wk7 = w10 at *
    go_wp2_with fail
    go_ret
    exact ⟨rfl, hb⟩

set_option maxRecDepth 100000 in
set_option maxHeartbeats 8000000 in
theorem walk_in (A0 B0 C0 L0 : Option Addr) (a0 b0 c0 d0 : Nat) (s0 : Sy) (k : Nat) (x0 x1 x2 x3 x4 n2 : Int) (w0 : World)
    (rW : Row w0 A0 s0.M.W) (rG : Row w0 B0 s0.M.G) (rC : RowC w0 C0 s0.C) (rL : RowE w0 L0 s0.L) (g0 : s0.M.W.length ≤ maxLen) (g1 : s0.M.G.length ≤ maxLen) (g2 : s0.C.length ≤ maxLen) (g3 : s0.L.length ≤ maxLen) (q0 : syMays s0 = true) (hkl : k < s0.C.length) :
    Calls Try.prog 5 #[.agg #[.slice A0 s0.M.W.length a0, .slice B0 s0.M.G.length b0, .bool s0.M.bad, .slice C0 s0.C.length c0, .slice L0 s0.L.length d0, .int .i64 (k : Int), .int .i64 x0, .int .i64 x1, .int .i64 x2, .int .i64 x3, .int .i64 x4, .int .i64 n2]] w0 fun e w' => e = .returned (.bool true) ∧ Below w0.heap.size w0 w' := by
  have S0 : RS w0 s0 A0 B0 C0 L0 := ⟨rW, rG, rC, rL⟩
  have hb : Below w0.heap.size w0 w0 := Below.refl _ _
  have HMay := hid (show ∀ w, RS w s0 A0 B0 C0 L0 → Calls Try.prog 26 #[.agg #[.slice A0 s0.M.W.length a0, .slice B0 s0.M.G.length b0, .bool s0.M.bad, .slice C0 s0.C.length c0, .slice L0 s0.L.length d0], .int .i64 60] w fun e w' => e = .returned (.bool (syMays s0)) ∧ Below w.heap.size w w' from fun w h => rmay3_any A0 B0 C0 L0 a0 b0 c0 d0 s0 w h.G h.C g1 g0 g2 g3)
  clear rW rG rC rL g0 g1 g2 g3
  go_enter Try.func5, Try.ntmps5
  go_upto_region 1 with (fail)
  have BkX := heap_alloc_new w0 (.cells #[.slice A0 s0.M.W.length a0, .slice B0 s0.M.G.length b0, .bool s0.M.bad, .slice C0 s0.C.length c0, .slice L0 s0.L.length d0, .int .i64 (k : Int), .int .i64 x0, .int .i64 x1, .int .i64 x2, .int .i64 x3, .int .i64 x4, .int .i64 n2] 59)
  have ltX : w0.heap.size < (w0.alloc (.cells #[.slice A0 s0.M.W.length a0, .slice B0 s0.M.G.length b0, .bool s0.M.bad, .slice C0 s0.C.length c0, .slice L0 s0.L.length d0, .int .i64 (k : Int), .int .i64 x0, .int .i64 x1, .int .i64 x2, .int .i64 x3, .int .i64 x4, .int .i64 n2] 59)).heap.size := by simp
  have hk : Below w0.heap.size w0 (w0.alloc (.cells #[.slice A0 s0.M.W.length a0, .slice B0 s0.M.G.length b0, .bool s0.M.bad, .slice C0 s0.C.length c0, .slice L0 s0.L.length d0, .int .i64 (k : Int), .int .i64 x0, .int .i64 x1, .int .i64 x2, .int .i64 x3, .int .i64 x4, .int .i64 n2] 59)) := boxed _ _
  replace S0 := S0.step hk
  replace hb := bstep hb hk
  clear hk
  obtain ⟨vX, hv⟩ : ∃ v, w0.heap.size = v := ⟨_, rfl⟩
  rw [hv] at BkX ltX ⊢
  clear hv
  generalize (w0.alloc (.cells #[.slice A0 s0.M.W.length a0, .slice B0 s0.M.G.length b0, .bool s0.M.bad, .slice C0 s0.C.length c0, .slice L0 s0.L.length d0, .int .i64 (k : Int), .int .i64 x0, .int .i64 x1, .int .i64 x2, .int .i64 x3, .int .i64 x4, .int .i64 n2] 59)) = w1 at *
  have mX_0 : w1.cell? ⟨vX, 0, none⟩ = some (.slice A0 s0.M.W.length a0) := cell_of_row w1 _ 0 _ _ _ BkX
  have mX_1 : w1.cell? ⟨vX, 1, none⟩ = some (.slice B0 s0.M.G.length b0) := cell_of_row w1 _ 1 _ _ _ BkX
  have mX_2 : w1.cell? ⟨vX, 2, none⟩ = some (.bool s0.M.bad) := cell_of_row w1 _ 2 _ _ _ BkX
  have mX_3 : w1.cell? ⟨vX, 3, none⟩ = some (.slice C0 s0.C.length c0) := cell_of_row w1 _ 3 _ _ _ BkX
  have mX_4 : w1.cell? ⟨vX, 4, none⟩ = some (.slice L0 s0.L.length d0) := cell_of_row w1 _ 4 _ _ _ BkX
  have mX_5 : w1.cell? ⟨vX, 5, none⟩ = some (.int .i64 (k : Int)) := cell_of_row w1 _ 5 _ _ _ BkX
  have mX_6 : w1.cell? ⟨vX, 6, none⟩ = some (.int .i64 x0) := cell_of_row w1 _ 6 _ _ _ BkX
  have mX_7 : w1.cell? ⟨vX, 7, none⟩ = some (.int .i64 x1) := cell_of_row w1 _ 7 _ _ _ BkX
  have mX_8 : w1.cell? ⟨vX, 8, none⟩ = some (.int .i64 x2) := cell_of_row w1 _ 8 _ _ _ BkX
  have mX_9 : w1.cell? ⟨vX, 9, none⟩ = some (.int .i64 x3) := cell_of_row w1 _ 9 _ _ _ BkX
  have mX_10 : w1.cell? ⟨vX, 10, none⟩ = some (.int .i64 x4) := cell_of_row w1 _ 10 _ _ _ BkX
  have mX_11 : w1.cell? ⟨vX, 11, none⟩ = some (.int .i64 n2) := cell_of_row w1 _ 11 _ _ _ BkX
  go_upto_region 2 with (fail)
  clear mX_0 mX_1 mX_2 mX_3 mX_4 mX_5 mX_6 mX_7 mX_8 mX_9 mX_10 mX_11
  have Bk0 := heap_alloc_new w1 (.cells #[.slice A0 s0.M.W.length a0, .slice B0 s0.M.G.length b0, .bool s0.M.bad, .slice C0 s0.C.length c0, .slice L0 s0.L.length d0] 28)
  have lt0 : w1.heap.size < (w1.alloc (.cells #[.slice A0 s0.M.W.length a0, .slice B0 s0.M.G.length b0, .bool s0.M.bad, .slice C0 s0.C.length c0, .slice L0 s0.L.length d0] 28)).heap.size := by simp
  have hk : Below w1.heap.size w1 (w1.alloc (.cells #[.slice A0 s0.M.W.length a0, .slice B0 s0.M.G.length b0, .bool s0.M.bad, .slice C0 s0.C.length c0, .slice L0 s0.L.length d0] 28)) := boxed _ _
  replace BkX := (hk.block vX ltX).trans BkX
  replace ltX := Nat.lt_of_lt_of_le ltX hk.size
  replace S0 := S0.step hk
  replace hb := bstep hb hk
  clear hk
  obtain ⟨v0, hv⟩ : ∃ v, w1.heap.size = v := ⟨_, rfl⟩
  rw [hv] at Bk0 lt0 ⊢
  clear hv
  generalize (w1.alloc (.cells #[.slice A0 s0.M.W.length a0, .slice B0 s0.M.G.length b0, .bool s0.M.bad, .slice C0 s0.C.length c0, .slice L0 s0.L.length d0] 28)) = w2 at *
  have mX_0 : w2.cell? ⟨vX, 0, none⟩ = some (.slice A0 s0.M.W.length a0) := cell_of_row w2 _ 0 _ _ _ BkX
  have mX_1 : w2.cell? ⟨vX, 1, none⟩ = some (.slice B0 s0.M.G.length b0) := cell_of_row w2 _ 1 _ _ _ BkX
  have mX_2 : w2.cell? ⟨vX, 2, none⟩ = some (.bool s0.M.bad) := cell_of_row w2 _ 2 _ _ _ BkX
  have mX_3 : w2.cell? ⟨vX, 3, none⟩ = some (.slice C0 s0.C.length c0) := cell_of_row w2 _ 3 _ _ _ BkX
  have mX_4 : w2.cell? ⟨vX, 4, none⟩ = some (.slice L0 s0.L.length d0) := cell_of_row w2 _ 4 _ _ _ BkX
  have mX_5 : w2.cell? ⟨vX, 5, none⟩ = some (.int .i64 (k : Int)) := cell_of_row w2 _ 5 _ _ _ BkX
  have mX_6 : w2.cell? ⟨vX, 6, none⟩ = some (.int .i64 x0) := cell_of_row w2 _ 6 _ _ _ BkX
  have mX_7 : w2.cell? ⟨vX, 7, none⟩ = some (.int .i64 x1) := cell_of_row w2 _ 7 _ _ _ BkX
  have mX_8 : w2.cell? ⟨vX, 8, none⟩ = some (.int .i64 x2) := cell_of_row w2 _ 8 _ _ _ BkX
  have mX_9 : w2.cell? ⟨vX, 9, none⟩ = some (.int .i64 x3) := cell_of_row w2 _ 9 _ _ _ BkX
  have mX_10 : w2.cell? ⟨vX, 10, none⟩ = some (.int .i64 x4) := cell_of_row w2 _ 10 _ _ _ BkX
  have mX_11 : w2.cell? ⟨vX, 11, none⟩ = some (.int .i64 n2) := cell_of_row w2 _ 11 _ _ _ BkX
  go_upto_region 4 with (fail)
  clear mX_0 mX_1 mX_2 mX_3 mX_4 mX_5 mX_6 mX_7 mX_8 mX_9 mX_10 mX_11
  have Bk1 := heap_alloc_new w2 (.cells #[.int .i64 x0, .int .i64 x1, .int .i64 x2, .int .i64 x3, .int .i64 x4] 56)
  have lt1 : w2.heap.size < (w2.alloc (.cells #[.int .i64 x0, .int .i64 x1, .int .i64 x2, .int .i64 x3, .int .i64 x4] 56)).heap.size := by simp
  have hk : Below w2.heap.size w2 (w2.alloc (.cells #[.int .i64 x0, .int .i64 x1, .int .i64 x2, .int .i64 x3, .int .i64 x4] 56)) := boxed _ _
  replace BkX := (hk.block vX ltX).trans BkX
  replace ltX := Nat.lt_of_lt_of_le ltX hk.size
  replace Bk0 := (hk.block v0 lt0).trans Bk0
  replace lt0 := Nat.lt_of_lt_of_le lt0 hk.size
  replace S0 := S0.step hk
  replace hb := bstep hb hk
  clear hk
  obtain ⟨v1, hv⟩ : ∃ v, w2.heap.size = v := ⟨_, rfl⟩
  rw [hv] at Bk1 lt1 ⊢
  clear hv
  generalize (w2.alloc (.cells #[.int .i64 x0, .int .i64 x1, .int .i64 x2, .int .i64 x3, .int .i64 x4] 56)) = w3 at *
  have mX_0 : w3.cell? ⟨vX, 0, none⟩ = some (.slice A0 s0.M.W.length a0) := cell_of_row w3 _ 0 _ _ _ BkX
  have mX_1 : w3.cell? ⟨vX, 1, none⟩ = some (.slice B0 s0.M.G.length b0) := cell_of_row w3 _ 1 _ _ _ BkX
  have mX_2 : w3.cell? ⟨vX, 2, none⟩ = some (.bool s0.M.bad) := cell_of_row w3 _ 2 _ _ _ BkX
  have mX_3 : w3.cell? ⟨vX, 3, none⟩ = some (.slice C0 s0.C.length c0) := cell_of_row w3 _ 3 _ _ _ BkX
  have mX_4 : w3.cell? ⟨vX, 4, none⟩ = some (.slice L0 s0.L.length d0) := cell_of_row w3 _ 4 _ _ _ BkX
  have mX_5 : w3.cell? ⟨vX, 5, none⟩ = some (.int .i64 (k : Int)) := cell_of_row w3 _ 5 _ _ _ BkX
  have mX_6 : w3.cell? ⟨vX, 6, none⟩ = some (.int .i64 x0) := cell_of_row w3 _ 6 _ _ _ BkX
  have mX_7 : w3.cell? ⟨vX, 7, none⟩ = some (.int .i64 x1) := cell_of_row w3 _ 7 _ _ _ BkX
  have mX_8 : w3.cell? ⟨vX, 8, none⟩ = some (.int .i64 x2) := cell_of_row w3 _ 8 _ _ _ BkX
  have mX_9 : w3.cell? ⟨vX, 9, none⟩ = some (.int .i64 x3) := cell_of_row w3 _ 9 _ _ _ BkX
  have mX_10 : w3.cell? ⟨vX, 10, none⟩ = some (.int .i64 x4) := cell_of_row w3 _ 10 _ _ _ BkX
  have mX_11 : w3.cell? ⟨vX, 11, none⟩ = some (.int .i64 n2) := cell_of_row w3 _ 11 _ _ _ BkX
  go_upto_region 5 with (fail)
  clear mX_0 mX_1 mX_2 mX_3 mX_4 mX_5 mX_6 mX_7 mX_8 mX_9 mX_10 mX_11
  clear BkX ltX
  go_wp2_with fail
  refine (shown3_any _).mono ?_
  rintro e w4 ⟨rfl, hk⟩
  replace Bk0 := (hk.block v0 lt0).trans Bk0
  replace lt0 := Nat.lt_of_lt_of_le lt0 hk.size
  replace Bk1 := (hk.block v1 lt1).trans Bk1
  replace lt1 := Nat.lt_of_lt_of_le lt1 hk.size
  replace S0 := S0.step hk
  replace hb := bstep hb hk
  clear hk
  go_upto_region 6 with (fail)
  have m0_0 : w4.cell? ⟨v0, 0, none⟩ = some (.slice A0 s0.M.W.length a0) := cell_of_row w4 _ 0 _ _ _ Bk0
  have m0_1 : w4.cell? ⟨v0, 1, none⟩ = some (.slice B0 s0.M.G.length b0) := cell_of_row w4 _ 1 _ _ _ Bk0
  have m0_2 : w4.cell? ⟨v0, 2, none⟩ = some (.bool s0.M.bad) := cell_of_row w4 _ 2 _ _ _ Bk0
  have m0_3 : w4.cell? ⟨v0, 3, none⟩ = some (.slice C0 s0.C.length c0) := cell_of_row w4 _ 3 _ _ _ Bk0
  have m0_4 : w4.cell? ⟨v0, 4, none⟩ = some (.slice L0 s0.L.length d0) := cell_of_row w4 _ 4 _ _ _ Bk0
  have HC := HMay.out
  rw [q0] at HC
  replace HC := hid HC
  have hmay : sySmall s0 = true ∧ syRight s0 = true := by simpa [syMays] using q0
  have HF := hid (few_of_small hmay.1)
  have HSM := hid (sySmall_few hmay.1)
  clear hmay q0
  go_upto_region 8 with (go_at_call 26; refine (HC.out _ S0).mono ?_; rintro e w5 ⟨rfl, hk⟩)
  clear m0_0 m0_1 m0_2 m0_3 m0_4
  replace Bk0 := (hk.block v0 lt0).trans Bk0
  replace lt0 := Nat.lt_of_lt_of_le lt0 hk.size
  replace Bk1 := (hk.block v1 lt1).trans Bk1
  replace lt1 := Nat.lt_of_lt_of_le lt1 hk.size
  replace S0 := S0.step hk
  replace hb := bstep hb hk
  clear hk
  clear HC HMay
  have m0_0 : w5.cell? ⟨v0, 0, none⟩ = some (.slice A0 s0.M.W.length a0) := cell_of_row w5 _ 0 _ _ _ Bk0
  have m0_1 : w5.cell? ⟨v0, 1, none⟩ = some (.slice B0 s0.M.G.length b0) := cell_of_row w5 _ 1 _ _ _ Bk0
  have m0_2 : w5.cell? ⟨v0, 2, none⟩ = some (.bool s0.M.bad) := cell_of_row w5 _ 2 _ _ _ Bk0
  have m0_3 : w5.cell? ⟨v0, 3, none⟩ = some (.slice C0 s0.C.length c0) := cell_of_row w5 _ 3 _ _ _ Bk0
  have m0_4 : w5.cell? ⟨v0, 4, none⟩ = some (.slice L0 s0.L.length d0) := cell_of_row w5 _ 4 _ _ _ Bk0
  have m1_0 : w5.cell? ⟨v1, 0, none⟩ = some (.int .i64 x0) := cell_of_row w5 _ 0 _ _ _ Bk1
  have m1_1 : w5.cell? ⟨v1, 1, none⟩ = some (.int .i64 x1) := cell_of_row w5 _ 1 _ _ _ Bk1
  have m1_2 : w5.cell? ⟨v1, 2, none⟩ = some (.int .i64 x2) := cell_of_row w5 _ 2 _ _ _ Bk1
  have m1_3 : w5.cell? ⟨v1, 3, none⟩ = some (.int .i64 x3) := cell_of_row w5 _ 3 _ _ _ Bk1
  have m1_4 : w5.cell? ⟨v1, 4, none⟩ = some (.int .i64 x4) := cell_of_row w5 _ 4 _ _ _ Bk1
  go_wp2_with fail
  clear m0_0 m0_1 m0_2 m0_3 m0_4 m1_0 m1_1 m1_2 m1_3 m1_4
  refine (log_in A0 B0 C0 L0 a0 b0 c0 d0 s0 k x1 x2 x3 x4 w5 HF.out S0 hkl).mono ?_
  rintro e w6 ⟨A2, B2, C2, L2, a2, b2, c2, d2, rfl, rW, rG, rC, rL, hcap, hk⟩
  replace Bk0 := (hk.block v0 lt0).trans Bk0
  replace lt0 := Nat.lt_of_lt_of_le lt0 hk.size
  replace Bk1 := (hk.block v1 lt1).trans Bk1
  replace lt1 := Nat.lt_of_lt_of_le lt1 hk.size
  replace S0 := S0.step hk
  replace hb := bstep hb hk
  clear hk
  go_upto_region 9 with (fail)
  have Bk2 := heap_alloc_new w6 (.cells #[.slice A2 s0.M.W.length a2, .slice B2 s0.M.G.length b2, .bool s0.M.bad, .slice C2 s0.C.length c2, .slice L2 (s0.L.length + 1) d2] 28)
  have lt2 : w6.heap.size < (w6.alloc (.cells #[.slice A2 s0.M.W.length a2, .slice B2 s0.M.G.length b2, .bool s0.M.bad, .slice C2 s0.C.length c2, .slice L2 (s0.L.length + 1) d2] 28)).heap.size := by simp
  have hk : Below w6.heap.size w6 (w6.alloc (.cells #[.slice A2 s0.M.W.length a2, .slice B2 s0.M.G.length b2, .bool s0.M.bad, .slice C2 s0.C.length c2, .slice L2 (s0.L.length + 1) d2] 28)) := boxed _ _
  have ne0_2 : v0 ≠ w6.heap.size := Nat.ne_of_lt lt0
  have nw2 : w0.heap.size ≤ w6.heap.size := hb.size
  replace Bk0 := (hk.block v0 lt0).trans Bk0
  replace lt0 := Nat.lt_of_lt_of_le lt0 hk.size
  replace Bk1 := (hk.block v1 lt1).trans Bk1
  replace lt1 := Nat.lt_of_lt_of_le lt1 hk.size
  replace S0 := S0.step hk
  replace rW := rW.step hk
  replace rG := rG.step hk
  replace rC := rC.step hk
  replace rL := rL.step hk
  replace hb := bstep hb hk
  clear hk
  obtain ⟨v2, hv⟩ : ∃ v, w6.heap.size = v := ⟨_, rfl⟩
  rw [hv] at Bk2 lt2 nw2 ne0_2 ⊢
  clear hv
  generalize (w6.alloc (.cells #[.slice A2 s0.M.W.length a2, .slice B2 s0.M.G.length b2, .bool s0.M.bad, .slice C2 s0.C.length c2, .slice L2 (s0.L.length + 1) d2] 28)) = w7 at *
  have kl : (k : Int) < (s0.C.length : Int) := by omega
  have hL9 : s0.L.length ≤ 200 := HSM.out.2.2.2.1
  have m0_0 : w7.cell? ⟨v0, 0, none⟩ = some (.slice A0 s0.M.W.length a0) := cell_of_row w7 _ 0 _ _ _ Bk0
  have m0_1 : w7.cell? ⟨v0, 1, none⟩ = some (.slice B0 s0.M.G.length b0) := cell_of_row w7 _ 1 _ _ _ Bk0
  have m0_2 : w7.cell? ⟨v0, 2, none⟩ = some (.bool s0.M.bad) := cell_of_row w7 _ 2 _ _ _ Bk0
  have m0_3 : w7.cell? ⟨v0, 3, none⟩ = some (.slice C0 s0.C.length c0) := cell_of_row w7 _ 3 _ _ _ Bk0
  have m0_4 : w7.cell? ⟨v0, 4, none⟩ = some (.slice L0 s0.L.length d0) := cell_of_row w7 _ 4 _ _ _ Bk0
  go_upto_region 12 with (fail)
  clear m0_0 m0_1 m0_2 m0_3 m0_4
  obtain ⟨gb, go, eL, hbl, hat⟩ := rL (by simp)
  subst eL
  obtain ⟨y0, _, _, _, y4⟩ := hat s0.L.length ⟨k, x1, x2, x3, x4⟩ (by simp)
  clear hat
  have m0_0 : w7.cell? ⟨v0, 0, none⟩ = some (.slice A0 s0.M.W.length a0) := cell_of_row w7 _ 0 _ _ _ Bk0
  have m0_1 : w7.cell? ⟨v0, 1, none⟩ = some (.slice B0 s0.M.G.length b0) := cell_of_row w7 _ 1 _ _ _ Bk0
  have m0_2 : w7.cell? ⟨v0, 2, none⟩ = some (.bool s0.M.bad) := cell_of_row w7 _ 2 _ _ _ Bk0
  have m0_3 : w7.cell? ⟨v0, 3, none⟩ = some (.slice C0 s0.C.length c0) := cell_of_row w7 _ 3 _ _ _ Bk0
  have m0_4 : w7.cell? ⟨v0, 4, none⟩ = some (.slice L0 s0.L.length d0) := cell_of_row w7 _ 4 _ _ _ Bk0
  have m0_f0 : w7.frozen? ⟨v0, 0, none⟩ = false := frozen_of_row w7 _ 0 _ _ Bk0
  have m0_f1 : w7.frozen? ⟨v0, 1, none⟩ = false := frozen_of_row w7 _ 1 _ _ Bk0
  have m0_f2 : w7.frozen? ⟨v0, 2, none⟩ = false := frozen_of_row w7 _ 2 _ _ Bk0
  have m0_f3 : w7.frozen? ⟨v0, 3, none⟩ = false := frozen_of_row w7 _ 3 _ _ Bk0
  have m0_f4 : w7.frozen? ⟨v0, 4, none⟩ = false := frozen_of_row w7 _ 4 _ _ Bk0
  have m1_0 : w7.cell? ⟨v1, 0, none⟩ = some (.int .i64 x0) := cell_of_row w7 _ 0 _ _ _ Bk1
  have m1_1 : w7.cell? ⟨v1, 1, none⟩ = some (.int .i64 x1) := cell_of_row w7 _ 1 _ _ _ Bk1
  have m1_2 : w7.cell? ⟨v1, 2, none⟩ = some (.int .i64 x2) := cell_of_row w7 _ 2 _ _ _ Bk1
  have m1_3 : w7.cell? ⟨v1, 3, none⟩ = some (.int .i64 x3) := cell_of_row w7 _ 3 _ _ _ Bk1
  have m1_4 : w7.cell? ⟨v1, 4, none⟩ = some (.int .i64 x4) := cell_of_row w7 _ 4 _ _ _ Bk1
  have m1_f0 : w7.frozen? ⟨v1, 0, none⟩ = false := frozen_of_row w7 _ 0 _ _ Bk1
  have m1_f1 : w7.frozen? ⟨v1, 1, none⟩ = false := frozen_of_row w7 _ 1 _ _ Bk1
  have m1_f2 : w7.frozen? ⟨v1, 2, none⟩ = false := frozen_of_row w7 _ 2 _ _ Bk1
  have m1_f3 : w7.frozen? ⟨v1, 3, none⟩ = false := frozen_of_row w7 _ 3 _ _ Bk1
  have m1_f4 : w7.frozen? ⟨v1, 4, none⟩ = false := frozen_of_row w7 _ 4 _ _ Bk1
  have m2_0 : w7.cell? ⟨v2, 0, none⟩ = some (.slice A2 s0.M.W.length a2) := cell_of_row w7 _ 0 _ _ _ Bk2
  have m2_1 : w7.cell? ⟨v2, 1, none⟩ = some (.slice B2 s0.M.G.length b2) := cell_of_row w7 _ 1 _ _ _ Bk2
  have m2_2 : w7.cell? ⟨v2, 2, none⟩ = some (.bool s0.M.bad) := cell_of_row w7 _ 2 _ _ _ Bk2
  have m2_3 : w7.cell? ⟨v2, 3, none⟩ = some (.slice C2 s0.C.length c2) := cell_of_row w7 _ 3 _ _ _ Bk2
  have m2_4 : w7.cell? ⟨v2, 4, none⟩ = some (.slice (some ⟨gb, go, none⟩) (s0.L.length + 1) d2) := cell_of_row w7 _ 4 _ _ _ Bk2
  have m2_f0 : w7.frozen? ⟨v2, 0, none⟩ = false := frozen_of_row w7 _ 0 _ _ Bk2
  have m2_f1 : w7.frozen? ⟨v2, 1, none⟩ = false := frozen_of_row w7 _ 1 _ _ Bk2
  have m2_f2 : w7.frozen? ⟨v2, 2, none⟩ = false := frozen_of_row w7 _ 2 _ _ Bk2
  have m2_f3 : w7.frozen? ⟨v2, 3, none⟩ = false := frozen_of_row w7 _ 3 _ _ Bk2
  have m2_f4 : w7.frozen? ⟨v2, 4, none⟩ = false := frozen_of_row w7 _ 4 _ _ Bk2
  have e1 : IntKind.i64.wrap ((s0.L.length : Int) + 1) = (s0.L.length : Int) + 1 := IntWalk.i64_in _ (by omega)
  have e2 : (0 : Int) ≤ (s0.L.length : Int) := by omega
  have e3 : ((s0.L.length : Int)).toNat = s0.L.length := by omega
  have e4 : (s0.L.length : Int) < ((s0.L.length + 1 : Nat) : Int) := by omega
  go_quiet (fail)
  clear e1 e2 e3 e4
  have hcap2 : s0.L.length ≤ d2 := by omega
  go_upto_region 15 with (fail)
  have tt : Turn (fun x => x = v2) w7 ((w7.drewN nq).setCell ⟨v2, 4, none⟩ (.slice (some ⟨gb, go, none⟩) s0.L.length d2)) := Turn.set (p := fun x => x = v2) ((Turn.refl _ _).drewN nq) rfl 4 _
  have N2 := noInt_sys Bk2
  have R0 := RS.turnN S0 tt N2
  have R2 := RS.turnN (RS.mk rW rG rC (RowE.pre rL) : RS w7 s0 A2 B2 C2 (some ⟨gb, go, none⟩)) tt N2
  have hb9 := hb.trans (tt.to_below hb.size (fun g hg => by omega))
  have c0_0 : ((w7.drewN nq).setCell ⟨v2, 4, none⟩ (.slice (some ⟨gb, go, none⟩) s0.L.length d2)).cell? ⟨v0, 0, none⟩ = some (.slice A0 s0.M.W.length a0) := (tt.cell lt0 ne0_2).trans m0_0
  have c0_1 : ((w7.drewN nq).setCell ⟨v2, 4, none⟩ (.slice (some ⟨gb, go, none⟩) s0.L.length d2)).cell? ⟨v0, 1, none⟩ = some (.slice B0 s0.M.G.length b0) := (tt.cell lt0 ne0_2).trans m0_1
  have c0_2 : ((w7.drewN nq).setCell ⟨v2, 4, none⟩ (.slice (some ⟨gb, go, none⟩) s0.L.length d2)).cell? ⟨v0, 2, none⟩ = some (.bool s0.M.bad) := (tt.cell lt0 ne0_2).trans m0_2
  have c0_3 : ((w7.drewN nq).setCell ⟨v2, 4, none⟩ (.slice (some ⟨gb, go, none⟩) s0.L.length d2)).cell? ⟨v0, 3, none⟩ = some (.slice C0 s0.C.length c0) := (tt.cell lt0 ne0_2).trans m0_3
  have c0_4 : ((w7.drewN nq).setCell ⟨v2, 4, none⟩ (.slice (some ⟨gb, go, none⟩) s0.L.length d2)).cell? ⟨v0, 4, none⟩ = some (.slice L0 s0.L.length d0) := (tt.cell lt0 ne0_2).trans m0_4
  have c2_0 : ((w7.drewN nq).setCell ⟨v2, 4, none⟩ (.slice (some ⟨gb, go, none⟩) s0.L.length d2)).cell? ⟨v2, 0, none⟩ = some (.slice A2 s0.M.W.length a2) := by simp [go_sem, m2_0]
  have c2_1 : ((w7.drewN nq).setCell ⟨v2, 4, none⟩ (.slice (some ⟨gb, go, none⟩) s0.L.length d2)).cell? ⟨v2, 1, none⟩ = some (.slice B2 s0.M.G.length b2) := by simp [go_sem, m2_1]
  have c2_2 : ((w7.drewN nq).setCell ⟨v2, 4, none⟩ (.slice (some ⟨gb, go, none⟩) s0.L.length d2)).cell? ⟨v2, 2, none⟩ = some (.bool s0.M.bad) := by simp [go_sem, m2_2]
  have c2_3 : ((w7.drewN nq).setCell ⟨v2, 4, none⟩ (.slice (some ⟨gb, go, none⟩) s0.L.length d2)).cell? ⟨v2, 3, none⟩ = some (.slice C2 s0.C.length c2) := by simp [go_sem, m2_3]
  have c2_4 : ((w7.drewN nq).setCell ⟨v2, 4, none⟩ (.slice (some ⟨gb, go, none⟩) s0.L.length d2)).cell? ⟨v2, 4, none⟩ = some (.slice (some ⟨gb, go, none⟩) s0.L.length d2) := by simp [go_sem, m2_4]
  clear m0_0 m0_1 m0_2 m0_3 m0_4 m0_f0 m0_f1 m0_f2 m0_f3 m0_f4 m1_0 m1_1 m1_2 m1_3 m1_4 m1_f0 m1_f1 m1_f2 m1_f3 m1_f4 m2_0 m2_1 m2_2 m2_3 m2_4 m2_f0 m2_f1 m2_f2 m2_f3 m2_f4
  clear tt N2 S0 rW rG rC rL y0 y4 hbl hb
  generalize ((w7.drewN nq).setCell ⟨v2, 4, none⟩ (.slice (some ⟨gb, go, none⟩) s0.L.length d2)) = w20 at *
  have HA := hid (show ∀ w A9 B9 C9 L9 a9 b9 c9 d9, RS w s0 A9 B9 C9 L9 → RS w s0 A0 B0 C0 L0 → Calls Try.prog 20 #[.agg #[.slice A9 s0.M.W.length a9, .slice B9 s0.M.G.length b9, .bool s0.M.bad, .slice C9 s0.C.length c9, .slice L9 s0.L.length d9], .agg #[.slice A0 s0.M.W.length a0, .slice B0 s0.M.G.length b0, .bool s0.M.bad, .slice C0 s0.C.length c0, .slice L0 s0.L.length d0]] w fun e w' => e = .returned (.bool true) ∧ Below w.heap.size w w' from fun w A9 B9 C9 L9 a9 b9 c9 d9 h h' => by have := rsame_u A9 B9 C9 L9 A0 B0 C0 L0 a9 b9 c9 d9 a0 b0 c0 d0 s0 s0 w HF.out h h'; rwa [sySame_self] at this)
  go_wp2_with (go_at_call 20; refine (HA.out _ _ _ _ _ _ _ _ _ R2 R0).mono ?_; rintro e w21 ⟨rfl, hk⟩)
  go_ret
  exact ⟨rfl, bstep hb9 hk⟩


theorem walk (A0 B0 C0 L0 : Option Addr) (a0 b0 c0 d0 : Nat) (s0 : Sy) (n1 x0 x1 x2 x3 x4 n2 : Int) (w0 : World)
    (rW : Row w0 A0 s0.M.W) (rG : Row w0 B0 s0.M.G) (rC : RowC w0 C0 s0.C) (rL : RowE w0 L0 s0.L) (g0 : s0.M.W.length ≤ maxLen) (g1 : s0.M.G.length ≤ maxLen) (g2 : s0.C.length ≤ maxLen) (g3 : s0.L.length ≤ maxLen) :
    Calls Try.prog 5 #[.agg #[.slice A0 s0.M.W.length a0, .slice B0 s0.M.G.length b0, .bool s0.M.bad, .slice C0 s0.C.length c0, .slice L0 s0.L.length d0, .int .i64 n1, .int .i64 x0, .int .i64 x1, .int .i64 x2, .int .i64 x3, .int .i64 x4, .int .i64 n2]] w0 fun e w' => e = .returned (.bool true) ∧ Below w0.heap.size w0 w' := by
  rcases q0 : syMays s0 with _ | _
  · exact walk_not A0 B0 C0 L0 a0 b0 c0 d0 s0 n1 x0 x1 x2 x3 x4 n2 w0 rW rG rC rL g0 g1 g2 g3 q0
  · rcases pAt_cases s0 n1 with ⟨h1, h1b, _⟩ | ⟨k, _, rfl, hk, _⟩
    · exact walk_out A0 B0 C0 L0 a0 b0 c0 d0 s0 n1 x0 x1 x2 x3 x4 n2 w0 rW rG rC rL g0 g1 g2 g3 q0 h1 h1b
    · exact walk_in A0 B0 C0 L0 a0 b0 c0 d0 s0 k x0 x1 x2 x3 x4 n2 w0 rW rG rC rL g0 g1 g2 g3 q0 hk

set_option maxRecDepth 100000 in
theorem lifted (os : Os) (started : os.Started) (H : Type) (enc : TypeId × Value → H) :
    ReturnsInHanded {} Try.checked os 5 .any (Rows.coreLogsSpec.pre6 enc Try.prog Try.f5 Rows.coreLogsRow.domain false) (Rows.coreLogsSpec.post enc Try.prog Try.f5 false true false false) := by
  refine returnsInHanded_of_change (C := Try.checked) own started (by kernel_rfl) Try.func5
    (ChangeSpec.witness6 (enc := enc) (C := Try.checked) false ⟨#[], #[.agg #[.slice none 0 0, .slice none 0 0, .bool false, .slice none 0 0, .slice none 0 0, .int .i64 0, .int .i64 0, .int .i64 0, .int .i64 0, .int .i64 0, .int .i64 0, .int .i64 0]], []⟩ 8 (by kernel_rfl) (by kernel_rfl) (by kernel_rfl) (by kernel_rfl)) ?_
  intro W base args ds gs before hval0 hW hcnd _
  have hval : ∀ (j : Nat) t v, Try.f5.params[j]? = some t → args[j]? = some v → Value.okWide Try.prog W .any base t v := hval0
  have hW' := hW
  obtain ⟨p, q, hA0, hV, rfl, hfz, hnd⟩ := hW
  have hA : DataW.TrodAll enc Try.prog W 0 (fun _ => true) true Try.f5.params.toList args.toList ds p := hA0
  rw [Try.params5] at hA hval
  obtain ⟨v0, vs0, d0, ds0, p0, q0, hargs, rfl, rfl, h0, r0⟩ := trodAll_cons hA
  obtain ⟨rfl, rfl, rfl⟩ := trodAll_nil r0
  obtain rfl : args = #[v0] := by cases args; simp_all
  obtain ⟨rfl, rfl⟩ := trodVars_none hV
  clear hA0 hval0
  obtain ⟨A0, B0, C0, L0, a0, b0, c0, d0, s0, n1, x0, x1, x2, x3, x4, n2, rfl, ⟨rW, rG, rC, rL, l0, l1, l2, l3⟩⟩ := open_logs (hval 0 _ v0 rfl rfl) h0
  refine (walk A0 B0 C0 L0 a0 b0 c0 d0 s0 n1 x0 x1 x2 x3 x4 n2 W rW rG rC rL l0 l1 l2 l3).mono fun e W' ⟨he, hb⟩ => ?_
  subst he
  exact ⟨_, rfl, law_post (tb := 4) (by kernel_rfl) (by kernel_rfl) (by kernel_rfl) Try.underlying4 rfl hW' rfl hb⟩

theorem over : Rows.coreLogsRow.holds Try.pinned (OpenSpec.ofChange Rows.coreLogsSpec) :=
  OpenClaim.holds_of_wide 5 Try.f5 rfl rfl rfl rfl rfl rfl rfl ⟨rfl, rfl, rfl, rfl, rfl⟩ rfl rfl rfl rfl rfl (by kernel_rfl) Try.func5 (by kernel_rfl)
    (of_decide_eq_true (by kernel_rfl)) (by unfold Func.isWrapper; first | (rw [if_pos (by decide +kernel)]; kernel_rfl) | (rw [if_neg (by decide +kernel)]; exact ⟨rfl, rfl⟩))
    (fun os started H enc _ => lifted os started H enc)
end CoreLogs

theorem coreLogs_holds : Rows.CoreLogsSaid := CoreLogs.over
#print axioms coreLogs_holds
end Go.Proofs.Ytpagekhgeahmaaa
