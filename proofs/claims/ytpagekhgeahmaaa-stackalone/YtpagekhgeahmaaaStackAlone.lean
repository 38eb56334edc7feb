/- For every uint8, the law StackAlone (a core that alone pops gets the nodes in the order of the list, and then none; pushed again, they come in the other order) returns true. No conditions. -/
import Derived.Test.YtpagekhgeahmaaaRows
import Derived.Test.YtpagekhgeahmaaaKSho
import Derived.Test.YtpagekhgeahmaaaNew4
import Derived.Test.YtpagekhgeahmaaaStkP
import Derived.Test.YtpagekhgeahmaaaKWal
import Derived.Test.YtpagekhgeahmaaaKBas
namespace Go.Proofs.Ytpagekhgeahmaaa
namespace StackAlone
open Go.ChangeShapes Go.WideShapes Go.ChangeAt Go.RowKit
set_option linter.unusedVariables false
set_option linter.unusedSimpArgs false

theorem own : ownKnob Try.prog.godebug = none := by kernel_rfl

/-- The variable (block v) holds a system. -/
def Holds (w0 : World) (v : Nat) (s : Sy) (wr : World) : Prop := ∃ (A B C L : Option Addr) (a b c d : Nat), wr.heap[v]? = some (.cells #[.slice A s.M.W.length a, .slice B s.M.G.length b, .bool s.M.bad, .slice C s.C.length c, .slice L s.L.length d] 28 (0, 0)) ∧ RS wr s A B C L ∧ Below w0.heap.size w0 wr
theorem Holds.put {w0 wk w9 : World} {v : Nat} {s t : Sy} {A B C L A9 B9 C9 L9 : Option Addr} {a b c d a9 b9 c9 d9 : Nat} (hv : w0.heap.size ≤ v) (hB : wk.heap[v]? = some (.cells #[.slice A s.M.W.length a, .slice B s.M.G.length b, .bool s.M.bad, .slice C s.C.length c, .slice L s.L.length d] 28 (0, 0))) (hb : Below w0.heap.size w0 wk) (hk : Below wk.heap.size wk w9) (rW : Row w9 A9 t.M.W) (rG : Row w9 B9 t.M.G) (rC : RowC w9 C9 t.C) (rL : RowE w9 L9 t.L) :
    Holds w0 v t ((((((w9.setCell ⟨v, 0, none⟩ (.slice A9 t.M.W.length a9)).setCell ⟨v, 1, none⟩ (.slice B9 t.M.G.length b9)).setCell ⟨v, 2, none⟩ (.bool t.M.bad)).setCell ⟨v, 3, none⟩ (.slice C9 t.C.length c9)).setCell ⟨v, 4, none⟩ (.slice L9 t.L.length d9))) := by
  have lz : v < wk.heap.size := (Array.getElem?_eq_some_iff.1 hB).1
  have K9 := (hk.block v lz).trans hB
  exact ⟨A9, B9, C9, L9, a9, b9, c9, d9, blk5 K9 _ _ _ _ _, (RS.mk rW rG rC rL).turnN (turn5 _ _ _ _ _ _ _) (noInt_sys K9), (bstep hb hk).trans ((turn5 _ _ _ _ _ _ _).to_below (bstep hb hk).size (fun g hg => by rw [hg]; exact hv))⟩
def RA (w0 : World) (v n : Nat) (i : Value) (wr : World) : Prop := ∃ k : Nat, k ≤ n + 1 ∧ i = .int .i64 ((k : Int) + 1) ∧ Holds w0 v (stA n k) wr
def RB (w0 : World) (v n : Nat) (i : Value) (wr : World) : Prop := ∃ k : Nat, k ≤ n ∧ i = .int .i64 ((k : Int) + 1) ∧ Holds w0 v (stB n k) wr
def RI (w0 : World) (v : Nat) (s : Sy) (i : Value) (wr : World) : Prop := ∃ j : Nat, j ≤ 3 ∧ i = .int .i64 j ∧ Holds w0 v (stepN j s) wr
set_option maxRecDepth 100000 in
set_option maxHeartbeats 8000000 in
theorem walk (x : Int) (w0 : World) (u0 : 0 ≤ x) (u1 : x ≤ 255) :
    Calls Try.prog 12 #[.int .u8 x] w0 fun e w' => e = .returned (.bool true) ∧ Below w0.heap.size w0 w' := by
  have hb : Below w0.heap.size w0 w0 := Below.refl _ _
  obtain ⟨n, hn⟩ : ∃ n : Nat, 1 + x % 40 = (n : Int) := ⟨(1 + x % 40).toNat, by omega⟩
  have n1 : 1 ≤ n := by omega
  have n2 : n ≤ 40 := by omega
  have HN := hid (show ∀ w, Calls Try.prog 49 #[.int .i64 1, .int .i64 (n : Int)] w (RetSys w (stA n 0)) from fun w => rnew4_any 1 n w n1 (by omega) (by omega) (by omega))
  have HCA := hid (show ∀ (k : Nat) (A B C L : Option Addr) (a b c d : Nat) (w : World), k ≤ n + 1 → RS w (stA n k) A B C L → Calls Try.prog 31 #[.agg #[.slice A (stA n k).M.W.length a, .slice B (stA n k).M.G.length b, .bool (stA n k).M.bad, .slice C (stA n k).C.length c, .slice L (stA n k).L.length d], .int .i64 0, .int .i64 1, .int .i64 0, .int .i64 0, .int .i64 0] w (RetSys w (pCall (stA n k) 0 (fr1 1 0 0 0))) from fun k A B C L a b c d w hk k1 => rcall_u A B C L a b c d (stA n k) 0 1 0 0 0 w (stA_ok n1 (by omega) hk).few k1)
  have HCB := hid (show ∀ (k : Nat) (A B C L : Option Addr) (a b c d : Nat) (w : World), k ≤ n → RS w (stB n k) A B C L → Calls Try.prog 31 #[.agg #[.slice A (stB n k).M.W.length a, .slice B (stB n k).M.G.length b, .bool (stB n k).M.bad, .slice C (stB n k).C.length c, .slice L (stB n k).L.length d], .int .i64 0, .int .i64 2, .int .i64 ((k : Int) + 1), .int .i64 0, .int .i64 0] w (RetSys w (pCall (stB n k) 0 (fr1 2 0 ((k : Int) + 1) 0))) from fun k A B C L a b c d w hk k1 => rcall_u A B C L a b c d (stB n k) 0 2 ((k : Int) + 1) 0 0 w (stB_ok n1 (by omega) hk).few k1)
  have HST := hid (show ∀ (s : Sy) (j : Nat) (A B C L : Option Addr) (a b c d : Nat) (w : World), Ok4 1 s → j < 3 → RS w (stepN j s) A B C L → Calls Try.prog 44 #[.agg #[.slice A (stepN j s).M.W.length a, .slice B (stepN j s).M.G.length b, .bool (stepN j s).M.bad, .slice C (stepN j s).C.length c, .slice L (stepN j s).L.length d], .int .i64 0] w (RetSys w (stepN (j + 1) s)) from fun s j A B C L a b c d w hs hj k1 => by have h8 := stepN_ok hs j (by omega); exact step_any A B C L a b c d (stepN j s) 0 w h8.few h8.g k1 (by have := h8.l; omega))
  obtain ⟨t9, ht9⟩ : ∃ t, t = stB n n := ⟨_, rfl⟩
  obtain ⟨M9, v9, e9, eq9, J9⟩ := stB_at n1 (by omega) n (Nat.le_refl _)
  have ok9 := stB_ok n1 (by omega) (Nat.le_refl n)
  rw [← ht9] at eq9 ok9
  have hM9 : t9.M = M9 := by rw [eq9]; rfl
  have HWK := hid (show ∀ (A B : Option Addr) (a b : Nat) (w : World), Row w A t9.M.W → Row w B t9.M.G → Calls Try.prog 37 #[.agg #[.slice A t9.M.W.length a, .slice B t9.M.G.length b, .bool t9.M.bad]] w (RetInts w (down n n) true) from fun A B a b w k1 k2 => by have h9 := walk_any A B a b t9.M w k1 k2 ok9.few.1 ok9.few.2.1 ok9.g (by rw [hM9]; exact J9.ia.inn); rw [show pWalk t9.M = some (down n n) by rw [hM9]; exact J9.walk (by omega)] at h9; exact h9)
  have hbad : t9.M.bad = false := by rw [hM9]; exact J9.ia.bad
  have hlen9 : t9.M.W.length = 128 + 4 * n := by rw [hM9]; exact J9.ia.w
  have hhd : t9.M.W.getD 0 0 = pWord (2 * (n : Int)) n 0 := by rw [hM9, J9.hd]; congr 1; omega
  have HB9 := hid hbad
  have HL9 := hid hlen9
  have HD9 := hid hhd
  have HT9 := hid ht9
  clear ht9 eq9 ok9 J9 hM9 hbad hlen9 hhd
  go_enter Try.func12, Try.ntmps12
  go_upto_region 1 with (fail)
  go_wp2_with fail
  refine (shown4_any _).mono ?_
  rintro e w1 ⟨rfl, hk⟩
  replace hb := bstep hb hk
  clear hk
  go_upto_region 3 with (fail)
  go_wp2_with fail
  refine (HN.out _).mono ?_
  rintro e w2 ⟨A5, B5, C5, L5, a5, b5, c5, d5, rfl, rW, rG, rC, rL, hk⟩
  replace hb := bstep hb hk
  clear hk
  have S5 : RS w2 (stA n 0) A5 B5 C5 L5 := ⟨rW, rG, rC, rL⟩
  clear rW rG rC rL
  go_upto_region 4 with (fail)
  have Bk5 := heap_alloc_new w2 (.cells #[.slice A5 (stA n 0).M.W.length a5, .slice B5 (stA n 0).M.G.length b5, .bool (stA n 0).M.bad, .slice C5 (stA n 0).C.length c5, .slice L5 (stA n 0).L.length d5] 28)
  have lt5 : w2.heap.size < (w2.alloc (.cells #[.slice A5 (stA n 0).M.W.length a5, .slice B5 (stA n 0).M.G.length b5, .bool (stA n 0).M.bad, .slice C5 (stA n 0).C.length c5, .slice L5 (stA n 0).L.length d5] 28)).heap.size := by simp
  have hk : Below w2.heap.size w2 (w2.alloc (.cells #[.slice A5 (stA n 0).M.W.length a5, .slice B5 (stA n 0).M.G.length b5, .bool (stA n 0).M.bad, .slice C5 (stA n 0).C.length c5, .slice L5 (stA n 0).L.length d5] 28)) := boxed _ _
  have nw5 : w0.heap.size ≤ w2.heap.size := hb.size
  replace S5 := S5.step hk
  replace hb := bstep hb hk
  clear hk
  obtain ⟨v5, hv⟩ : ∃ v, w2.heap.size = v := ⟨_, rfl⟩
  replace nw5 := Nat.le_trans nw5 (Nat.le_of_eq hv)
  rw [hv] at Bk5 lt5 ⊢
  clear hv
  generalize (w2.alloc (.cells #[.slice A5 (stA n 0).M.W.length a5, .slice B5 (stA n 0).M.G.length b5, .bool (stA n 0).M.bad, .slice C5 (stA n 0).C.length c5, .slice L5 (stA n 0).L.length d5] 28)) = w3 at *
  have HH : Holds w0 v5 (stA n 0) w3 := ⟨A5, B5, C5, L5, a5, b5, c5, d5, Bk5, S5, hb⟩
  clear Bk5 lt5 S5 hb
  go_wp2_with fail
  go_loopw [6] (fun i wr => RA w0 v5 n i wr) (fun i _ => n + 2 - (intOf i).toNat)
  case atStart => exact ⟨0, by omega, by go_num, HH⟩
  case round =>
    clear HH
    obtain ⟨k, hk1, rfl, A, B, C, L, a, b, c, d, kB, kS, kb⟩ := hrel
    have lz : v5 < wr.heap.size := (Array.getElem?_eq_some_iff.1 kB).1
    by_cases hlt : k ≤ n
    · have kl : (k : Int) + 1 ≤ (n : Int) + 1 := by omega
      have p0 : wr.cell? ⟨v5, 0, none⟩ = some (.slice A (stA n k).M.W.length a) := cell_of_row wr _ 0 _ _ _ kB
      have p1 : wr.cell? ⟨v5, 1, none⟩ = some (.slice B (stA n k).M.G.length b) := cell_of_row wr _ 1 _ _ _ kB
      have p2 : wr.cell? ⟨v5, 2, none⟩ = some (.bool (stA n k).M.bad) := cell_of_row wr _ 2 _ _ _ kB
      have p3 : wr.cell? ⟨v5, 3, none⟩ = some (.slice C (stA n k).C.length c) := cell_of_row wr _ 3 _ _ _ kB
      have p4 : wr.cell? ⟨v5, 4, none⟩ = some (.slice L (stA n k).L.length d) := cell_of_row wr _ 4 _ _ _ kB
      obtain ⟨s7, hs7⟩ : ∃ s, s = (pCall (stA n k) 0 (fr1 1 0 0 0)) := ⟨_, rfl⟩
      have HC7 := hid (show ∀ (A B C L : Option Addr) (a b c d : Nat) (w : World), RS w (stA n k) A B C L → Calls Try.prog 31 #[.agg #[.slice A (stA n k).M.W.length a, .slice B (stA n k).M.G.length b, .bool (stA n k).M.bad, .slice C (stA n k).C.length c, .slice L (stA n k).L.length d], .int .i64 0, .int .i64 1, .int .i64 0, .int .i64 0, .int .i64 0] w (RetSys w s7) from fun A B C L a b c d w k1 => by rw [hs7]; exact HCA.out k A B C L a b c d w hk1 k1)
      have OK7 := hid (show Ok4 1 s7 by rw [hs7]; exact (stA_ok n1 (by omega) (by omega)).call (by simp [fr1]) 0)
      have HS7 := hid hs7
      clear hs7
      go_upto_region 8 with (go_at_call 31; (with_reducible refine (HC7.out A B C L a b c d _ kS).mono ?_); rintro e w9 ⟨A9, B9, C9, L9, a9, b9, c9, d9, rfl, rW, rG, rC, rL, hk⟩; have K9 := (hk.block v5 lz).trans kB; have y0 : w9.cell? ⟨v5, 0, none⟩ = some (.slice A (stA n k).M.W.length a) := cell_of_row w9 _ 0 _ _ _ K9; have y1 : w9.cell? ⟨v5, 1, none⟩ = some (.slice B (stA n k).M.G.length b) := cell_of_row w9 _ 1 _ _ _ K9; have y2 : w9.cell? ⟨v5, 2, none⟩ = some (.bool (stA n k).M.bad) := cell_of_row w9 _ 2 _ _ _ K9; have y3 : w9.cell? ⟨v5, 3, none⟩ = some (.slice C (stA n k).C.length c) := cell_of_row w9 _ 3 _ _ _ K9; have y4 : w9.cell? ⟨v5, 4, none⟩ = some (.slice L (stA n k).L.length d) := cell_of_row w9 _ 4 _ _ _ K9; have yf0 : w9.frozen? ⟨v5, 0, none⟩ = false := frozen_of_row w9 _ 0 _ _ K9; have yf1 : w9.frozen? ⟨v5, 1, none⟩ = false := frozen_of_row w9 _ 1 _ _ K9; have yf2 : w9.frozen? ⟨v5, 2, none⟩ = false := frozen_of_row w9 _ 2 _ _ K9; have yf3 : w9.frozen? ⟨v5, 3, none⟩ = false := frozen_of_row w9 _ 3 _ _ K9; have yf4 : w9.frozen? ⟨v5, 4, none⟩ = false := frozen_of_row w9 _ 4 _ _ K9)
      have HH : Holds w0 v5 (stepN 0 s7) ((((((w9.setCell ⟨v5, 0, none⟩ (.slice A9 s7.M.W.length a9)).setCell ⟨v5, 1, none⟩ (.slice B9 s7.M.G.length b9)).setCell ⟨v5, 2, none⟩ (.bool s7.M.bad)).setCell ⟨v5, 3, none⟩ (.slice C9 s7.C.length c9)).setCell ⟨v5, 4, none⟩ (.slice L9 s7.L.length d9))) := Holds.put nw5 kB kb hk rW rG rC rL
      clear p0 p1 p2 p3 p4 K9 rW rG rC rL hk kB kS kb lz y0 yf0 y1 yf1 y2 yf2 y3 yf3 y4 yf4
      generalize (((((w9.setCell ⟨v5, 0, none⟩ (.slice A9 s7.M.W.length a9)).setCell ⟨v5, 1, none⟩ (.slice B9 s7.M.G.length b9)).setCell ⟨v5, 2, none⟩ (.bool s7.M.bad)).setCell ⟨v5, 3, none⟩ (.slice C9 s7.C.length c9)).setCell ⟨v5, 4, none⟩ (.slice L9 s7.L.length d9)) = w10 at *
      go_wp2_with fail
      go_loopw [7] (fun i wr => RI w0 v5 s7 i wr) (fun i _ => 3 - (intOf i).toNat)
      case atStart => exact ⟨0, by omega, rfl, HH⟩
      case round =>
        clear HH
        obtain ⟨j, hj1, rfl, A, B, C, L, a, b, c, d, kB, kS, kb⟩ := hrel
        have lz : v5 < wr.heap.size := (Array.getElem?_eq_some_iff.1 kB).1
        by_cases hj : j < 3
        · have jl : (j : Int) < 3 := by omega
          have p0 : wr.cell? ⟨v5, 0, none⟩ = some (.slice A (stepN j s7).M.W.length a) := cell_of_row wr _ 0 _ _ _ kB
          have p1 : wr.cell? ⟨v5, 1, none⟩ = some (.slice B (stepN j s7).M.G.length b) := cell_of_row wr _ 1 _ _ _ kB
          have p2 : wr.cell? ⟨v5, 2, none⟩ = some (.bool (stepN j s7).M.bad) := cell_of_row wr _ 2 _ _ _ kB
          have p3 : wr.cell? ⟨v5, 3, none⟩ = some (.slice C (stepN j s7).C.length c) := cell_of_row wr _ 3 _ _ _ kB
          have p4 : wr.cell? ⟨v5, 4, none⟩ = some (.slice L (stepN j s7).L.length d) := cell_of_row wr _ 4 _ _ _ kB
          go_wp2_with (go_at_call 44; (with_reducible refine (HST.out s7 j A B C L a b c d _ OK7.out hj kS).mono ?_); rintro e w9 ⟨A9, B9, C9, L9, a9, b9, c9, d9, rfl, rW, rG, rC, rL, hk⟩; have K9 := (hk.block v5 lz).trans kB; have y0 : w9.cell? ⟨v5, 0, none⟩ = some (.slice A (stepN j s7).M.W.length a) := cell_of_row w9 _ 0 _ _ _ K9; have y1 : w9.cell? ⟨v5, 1, none⟩ = some (.slice B (stepN j s7).M.G.length b) := cell_of_row w9 _ 1 _ _ _ K9; have y2 : w9.cell? ⟨v5, 2, none⟩ = some (.bool (stepN j s7).M.bad) := cell_of_row w9 _ 2 _ _ _ K9; have y3 : w9.cell? ⟨v5, 3, none⟩ = some (.slice C (stepN j s7).C.length c) := cell_of_row w9 _ 3 _ _ _ K9; have y4 : w9.cell? ⟨v5, 4, none⟩ = some (.slice L (stepN j s7).L.length d) := cell_of_row w9 _ 4 _ _ _ K9; have yf0 : w9.frozen? ⟨v5, 0, none⟩ = false := frozen_of_row w9 _ 0 _ _ K9; have yf1 : w9.frozen? ⟨v5, 1, none⟩ = false := frozen_of_row w9 _ 1 _ _ K9; have yf2 : w9.frozen? ⟨v5, 2, none⟩ = false := frozen_of_row w9 _ 2 _ _ K9; have yf3 : w9.frozen? ⟨v5, 3, none⟩ = false := frozen_of_row w9 _ 3 _ _ K9; have yf4 : w9.frozen? ⟨v5, 4, none⟩ = false := frozen_of_row w9 _ 4 _ _ K9)
          go_roundw
          case rel => exact ⟨j + 1, by omega, by go_num, Holds.put nw5 kB kb hk rW rG rC rL⟩
          case measure => simp [intOf]; omega
        · have j3 : j = 3 := by omega
          subst j3
          have hst : stepN 3 s7 = stA n (k + 1) := by rw [HS7.out]; rfl
          rw [hst] at kB kS
          clear hst
          obtain ⟨t7, ht7⟩ : ∃ t, t = stA n (k + 1) := ⟨_, rfl⟩
          have hcs : ∃ v e, t7.C = [⟨[], v, e, 0, 0, 0, []⟩] ∧ (k < n → v = (k : Int) + 1 ∧ e = 0) ∧ (k = n → e = 2) := by
            rw [ht7]
            rcases Nat.lt_or_ge k n with q | q
            · obtain ⟨M, v, eq, _, hv⟩ := stA_at n1 (by omega) (k + 1) (by omega)
              exact ⟨v, 0, by rw [eq]; rfl, fun _ => ⟨by rw [hv (by omega)]; omega, rfl⟩, fun h => by omega⟩
            · obtain ⟨M, eq, _⟩ := stA_end n1 (show n ≤ 200 by omega)
              have : k = n := by omega
              subst this
              exact ⟨0, 2, by rw [eq]; rfl, fun h => by omega, fun _ => rfl⟩
          obtain ⟨v7, e7, hC7, hq1, hq2⟩ := hcs
          have HT7 := hid ht7
          rw [← ht7] at kB kS
          clear ht7
          obtain ⟨bC, oC, eC, hbC, hatC⟩ := kS.C (by rw [hC7]; simp)
          obtain ⟨AFx, ARx, cFx, cRx, hcx, _, _⟩ := (hatC 0 _ (by rw [hC7]; rfl)).cs
          subst eC
          clear hatC
          have x0 : wr.cell? ⟨bC, oC, none⟩ = some (.slice AFx 0 cFx) := by have h := hcx 0 _ rfl; simpa using h
          have x1 : wr.cell? ⟨bC, oC + 1, none⟩ = some (.int .i64 v7) := by have h := hcx 1 _ rfl; simpa using h
          have x2 : wr.cell? ⟨bC, oC + 2, none⟩ = some (.int .i64 e7) := by have h := hcx 2 _ rfl; simpa using h
          have hL7 : t7.C.length = 1 := by rw [hC7]; rfl
          have hq : ((t7.C.length : Int) != 1) = false := by rw [hL7]; rfl
          have hi : (0 : Int) < (t7.C.length : Int) := by rw [hL7]; omega
          have hi2 : 0 < t7.C.length := by rw [hL7]; omega
          clear hL7 hcx hC7
          have p0 : wr.cell? ⟨v5, 0, none⟩ = some (.slice A t7.M.W.length a) := cell_of_row wr _ 0 _ _ _ kB
          have p1 : wr.cell? ⟨v5, 1, none⟩ = some (.slice B t7.M.G.length b) := cell_of_row wr _ 1 _ _ _ kB
          have p2 : wr.cell? ⟨v5, 2, none⟩ = some (.bool t7.M.bad) := cell_of_row wr _ 2 _ _ _ kB
          have p3 : wr.cell? ⟨v5, 3, none⟩ = some (.slice (some ⟨bC, oC, none⟩) t7.C.length c) := cell_of_row wr _ 3 _ _ _ kB
          have p4 : wr.cell? ⟨v5, 4, none⟩ = some (.slice L t7.L.length d) := cell_of_row wr _ 4 _ _ _ kB
          have KB := hid kB
          have KS := hid kS
          clear kB kS
          rcases Nat.lt_or_ge k n with q | q
          · obtain ⟨rfl, rfl⟩ := hq1 q
            have y1 : (k : Int) + 1 ≤ (n : Int) := by omega
            have y2 : ¬ (n : Int) < (k : Int) + 1 := by omega
            clear hq1 hq2
            go_wp2_with fail
            go_roundw
            case rel => exact ⟨k + 1, by omega, by go_num, by rw [← HT7.out]; exact ⟨A, B, _, L, a, b, c, d, KB.out, KS.out, kb⟩⟩
            case measure => simp [intOf]; omega
          · have qn : k = n := by omega
            obtain rfl := hq2 qn
            have y1 : (n : Int) < (k : Int) + 1 := by omega
            clear hq1 hq2
            have QN := hid qn
            clear qn
            go_wp2_with fail
            go_roundw
            case rel => exact ⟨k + 1, by omega, by go_num, by rw [← HT7.out]; exact ⟨A, B, _, L, a, b, c, d, KB.out, KS.out, kb⟩⟩
            case measure => simp [intOf]; omega
    · have kl : (n : Int) + 1 < (k : Int) + 1 := by omega
      have kn : k = n + 1 := by omega
      subst kn
      have HH : Holds w0 v5 (stB n 0) wr := ⟨A, B, C, L, a, b, c, d, kB, kS, kb⟩
      clear kB kS kb lz
      go_wp2_with fail
      go_loopw [8] (fun i wr => RB w0 v5 n i wr) (fun i _ => n + 1 - (intOf i).toNat)
      case atStart => exact ⟨0, by omega, by go_num, HH⟩
      case round =>
        clear HH
        obtain ⟨k, hk1, rfl, A, B, C, L, a, b, c, d, kB, kS, kb⟩ := hrel
        have lz : v5 < wr.heap.size := (Array.getElem?_eq_some_iff.1 kB).1
        by_cases hlt : k < n
        · have kl2 : (k : Int) + 1 ≤ (n : Int) := by omega
          have p0 : wr.cell? ⟨v5, 0, none⟩ = some (.slice A (stB n k).M.W.length a) := cell_of_row wr _ 0 _ _ _ kB
          have p1 : wr.cell? ⟨v5, 1, none⟩ = some (.slice B (stB n k).M.G.length b) := cell_of_row wr _ 1 _ _ _ kB
          have p2 : wr.cell? ⟨v5, 2, none⟩ = some (.bool (stB n k).M.bad) := cell_of_row wr _ 2 _ _ _ kB
          have p3 : wr.cell? ⟨v5, 3, none⟩ = some (.slice C (stB n k).C.length c) := cell_of_row wr _ 3 _ _ _ kB
          have p4 : wr.cell? ⟨v5, 4, none⟩ = some (.slice L (stB n k).L.length d) := cell_of_row wr _ 4 _ _ _ kB
          obtain ⟨s7, hs7⟩ : ∃ s, s = (pCall (stB n k) 0 (fr1 2 0 ((k : Int) + 1) 0)) := ⟨_, rfl⟩
          have HC7 := hid (show ∀ (A B C L : Option Addr) (a b c d : Nat) (w : World), RS w (stB n k) A B C L → Calls Try.prog 31 #[.agg #[.slice A (stB n k).M.W.length a, .slice B (stB n k).M.G.length b, .bool (stB n k).M.bad, .slice C (stB n k).C.length c, .slice L (stB n k).L.length d], .int .i64 0, .int .i64 2, .int .i64 ((k : Int) + 1), .int .i64 0, .int .i64 0] w (RetSys w s7) from fun A B C L a b c d w k1 => by rw [hs7]; exact HCB.out k A B C L a b c d w hk1 k1)
          have OK7 := hid (show Ok4 1 s7 by rw [hs7]; exact (stB_ok n1 (by omega) (by omega)).call (by simp [fr1]) 0)
          have HS7 := hid hs7
          clear hs7
          go_upto_region 18 with (go_at_call 31; (with_reducible refine (HC7.out A B C L a b c d _ kS).mono ?_); rintro e w9 ⟨A9, B9, C9, L9, a9, b9, c9, d9, rfl, rW, rG, rC, rL, hk⟩; have K9 := (hk.block v5 lz).trans kB; have y0 : w9.cell? ⟨v5, 0, none⟩ = some (.slice A (stB n k).M.W.length a) := cell_of_row w9 _ 0 _ _ _ K9; have y1 : w9.cell? ⟨v5, 1, none⟩ = some (.slice B (stB n k).M.G.length b) := cell_of_row w9 _ 1 _ _ _ K9; have y2 : w9.cell? ⟨v5, 2, none⟩ = some (.bool (stB n k).M.bad) := cell_of_row w9 _ 2 _ _ _ K9; have y3 : w9.cell? ⟨v5, 3, none⟩ = some (.slice C (stB n k).C.length c) := cell_of_row w9 _ 3 _ _ _ K9; have y4 : w9.cell? ⟨v5, 4, none⟩ = some (.slice L (stB n k).L.length d) := cell_of_row w9 _ 4 _ _ _ K9; have yf0 : w9.frozen? ⟨v5, 0, none⟩ = false := frozen_of_row w9 _ 0 _ _ K9; have yf1 : w9.frozen? ⟨v5, 1, none⟩ = false := frozen_of_row w9 _ 1 _ _ K9; have yf2 : w9.frozen? ⟨v5, 2, none⟩ = false := frozen_of_row w9 _ 2 _ _ K9; have yf3 : w9.frozen? ⟨v5, 3, none⟩ = false := frozen_of_row w9 _ 3 _ _ K9; have yf4 : w9.frozen? ⟨v5, 4, none⟩ = false := frozen_of_row w9 _ 4 _ _ K9)
          have HH : Holds w0 v5 (stepN 0 s7) ((((((w9.setCell ⟨v5, 0, none⟩ (.slice A9 s7.M.W.length a9)).setCell ⟨v5, 1, none⟩ (.slice B9 s7.M.G.length b9)).setCell ⟨v5, 2, none⟩ (.bool s7.M.bad)).setCell ⟨v5, 3, none⟩ (.slice C9 s7.C.length c9)).setCell ⟨v5, 4, none⟩ (.slice L9 s7.L.length d9))) := Holds.put nw5 kB kb hk rW rG rC rL
          clear p0 p1 p2 p3 p4 K9 rW rG rC rL hk kB kS kb lz y0 yf0 y1 yf1 y2 yf2 y3 yf3 y4 yf4
          generalize (((((w9.setCell ⟨v5, 0, none⟩ (.slice A9 s7.M.W.length a9)).setCell ⟨v5, 1, none⟩ (.slice B9 s7.M.G.length b9)).setCell ⟨v5, 2, none⟩ (.bool s7.M.bad)).setCell ⟨v5, 3, none⟩ (.slice C9 s7.C.length c9)).setCell ⟨v5, 4, none⟩ (.slice L9 s7.L.length d9)) = w10 at *
          go_wp2_with fail
          go_loopw [9] (fun i wr => RI w0 v5 s7 i wr) (fun i _ => 3 - (intOf i).toNat)
          case atStart => exact ⟨0, by omega, rfl, HH⟩
          case round =>
            clear HH
            obtain ⟨j, hj1, rfl, A, B, C, L, a, b, c, d, kB, kS, kb⟩ := hrel
            have lz : v5 < wr.heap.size := (Array.getElem?_eq_some_iff.1 kB).1
            by_cases hj : j < 3
            · have jl : (j : Int) < 3 := by omega
              have p0 : wr.cell? ⟨v5, 0, none⟩ = some (.slice A (stepN j s7).M.W.length a) := cell_of_row wr _ 0 _ _ _ kB
              have p1 : wr.cell? ⟨v5, 1, none⟩ = some (.slice B (stepN j s7).M.G.length b) := cell_of_row wr _ 1 _ _ _ kB
              have p2 : wr.cell? ⟨v5, 2, none⟩ = some (.bool (stepN j s7).M.bad) := cell_of_row wr _ 2 _ _ _ kB
              have p3 : wr.cell? ⟨v5, 3, none⟩ = some (.slice C (stepN j s7).C.length c) := cell_of_row wr _ 3 _ _ _ kB
              have p4 : wr.cell? ⟨v5, 4, none⟩ = some (.slice L (stepN j s7).L.length d) := cell_of_row wr _ 4 _ _ _ kB
              go_wp2_with (go_at_call 44; (with_reducible refine (HST.out s7 j A B C L a b c d _ OK7.out hj kS).mono ?_); rintro e w9 ⟨A9, B9, C9, L9, a9, b9, c9, d9, rfl, rW, rG, rC, rL, hk⟩; have K9 := (hk.block v5 lz).trans kB; have y0 : w9.cell? ⟨v5, 0, none⟩ = some (.slice A (stepN j s7).M.W.length a) := cell_of_row w9 _ 0 _ _ _ K9; have y1 : w9.cell? ⟨v5, 1, none⟩ = some (.slice B (stepN j s7).M.G.length b) := cell_of_row w9 _ 1 _ _ _ K9; have y2 : w9.cell? ⟨v5, 2, none⟩ = some (.bool (stepN j s7).M.bad) := cell_of_row w9 _ 2 _ _ _ K9; have y3 : w9.cell? ⟨v5, 3, none⟩ = some (.slice C (stepN j s7).C.length c) := cell_of_row w9 _ 3 _ _ _ K9; have y4 : w9.cell? ⟨v5, 4, none⟩ = some (.slice L (stepN j s7).L.length d) := cell_of_row w9 _ 4 _ _ _ K9; have yf0 : w9.frozen? ⟨v5, 0, none⟩ = false := frozen_of_row w9 _ 0 _ _ K9; have yf1 : w9.frozen? ⟨v5, 1, none⟩ = false := frozen_of_row w9 _ 1 _ _ K9; have yf2 : w9.frozen? ⟨v5, 2, none⟩ = false := frozen_of_row w9 _ 2 _ _ K9; have yf3 : w9.frozen? ⟨v5, 3, none⟩ = false := frozen_of_row w9 _ 3 _ _ K9; have yf4 : w9.frozen? ⟨v5, 4, none⟩ = false := frozen_of_row w9 _ 4 _ _ K9)
              go_roundw
              case rel => exact ⟨j + 1, by omega, by go_num, Holds.put nw5 kB kb hk rW rG rC rL⟩
              case measure => simp [intOf]; omega
            · have j3 : j = 3 := by omega
              subst j3
              have hst : stepN 3 s7 = stB n (k + 1) := by rw [HS7.out]; rfl
              rw [hst] at kB kS
              clear hst
              have REL : RB w0 v5 n (.int .i64 ((k : Int) + 1 + 1)) wr := ⟨k + 1, by omega, by go_num, ⟨A, B, C, L, a, b, c, d, kB, kS, kb⟩⟩
              go_wp2_with fail
              go_roundw
              case rel => first | exact REL | ((repeat apply Exists.intro); exact ⟨REL, rfl⟩)
              case measure => simp [intOf]; omega
        · have kl2 : (n : Int) < (k : Int) + 1 := by omega
          have kn : k = n := by omega
          have KN := hid kn
          rw [kn, ← HT9.out] at kB kS
          clear kn
          have p0 : wr.cell? ⟨v5, 0, none⟩ = some (.slice A t9.M.W.length a) := cell_of_row wr _ 0 _ _ _ kB
          have p1 : wr.cell? ⟨v5, 1, none⟩ = some (.slice B t9.M.G.length b) := cell_of_row wr _ 1 _ _ _ kB
          have p2 : wr.cell? ⟨v5, 2, none⟩ = some (.bool t9.M.bad) := cell_of_row wr _ 2 _ _ _ kB
          have p3 : wr.cell? ⟨v5, 3, none⟩ = some (.slice C t9.C.length c) := cell_of_row wr _ 3 _ _ _ kB
          have p4 : wr.cell? ⟨v5, 4, none⟩ = some (.slice L t9.L.length d) := cell_of_row wr _ 4 _ _ _ kB
          go_upto_region 23 with (go_at_call 37; (with_reducible refine (HWK.out A B a b _ kS.W kS.G).mono ?_); rintro e w9 ⟨A4, c4, rfl, r4, hk⟩)
          clear p0 p1 p2 p3 p4
          replace kB := (hk.block v5 lz).trans kB
          replace kS := kS.step hk
          replace kb := bstep kb hk
          clear hk lz
          obtain ⟨l9, hl9⟩ : ∃ l, l = down n n := ⟨_, rfl⟩
          have HLL := hid (show l9.length = n by rw [hl9]; exact down_len n n)
          have HAT := hid (show ∀ i, i < n → l9[i]? = some ((n : Int) - i) from fun i hi => by rw [hl9]; exact down_at hi)
          rw [← hl9] at r4 ⊢
          clear hl9
          obtain ⟨gb, go, eA, hbl, hc⟩ := r4 (by rw [HLL.out]; omega)
          subst eA
          have HCC := hid hc
          clear hc
          go_wp2_with fail
          go_loop [12] (fun i => ∃ k : Nat, k ≤ l9.length ∧ i = .int .i64 k) (fun i => l9.length - (intOf i).toNat)
          case atStart => exact ⟨0, Nat.zero_le _, rfl⟩
          case round =>
            obtain ⟨m, hmm, rfl⟩ := hrel
            have hl1 := HLL.out
            by_cases hm : m < l9.length
            · have hc := HCC.out m _ (HAT.out m (by omega))
              have ml : (m : Int) < (l9.length : Int) := by omega
              have mb : (m : Int) ≤ 300 := by omega
              have HL1 := hid hl1
              clear hl1
              go_wp2_with fail
              go_round
              case rel => exact ⟨m + 1, by omega, by go_num⟩
              case measure => simp [intOf]; omega
            · have ml : (l9.length : Int) ≤ (m : Int) := by omega
              have hln : ((l9.length : Int) == (n : Int)) = true := by rw [hl1]; simp
              clear hl1
              obtain ⟨gw, ow, eW, hbw, hcw⟩ := kS.W (by rw [HL9.out]; omega)
              subst eW
              have hc0 := hcw 0 _ (show t9.M.W[0]? = some (t9.M.W.getD 0 0) by rw [List.getD_eq_getElem?_getD, List.getElem?_eq_getElem (by rw [HL9.out]; omega)]; rfl)
              rw [HD9.out, Nat.add_zero] at hc0
              clear hcw
              rw [HB9.out] at kB
              have p0 : w9.cell? ⟨v5, 0, none⟩ = some (.slice (some ⟨gw, ow, none⟩) t9.M.W.length a) := cell_of_row w9 _ 0 _ _ _ kB
              have p1 : w9.cell? ⟨v5, 1, none⟩ = some (.slice B t9.M.G.length b) := cell_of_row w9 _ 1 _ _ _ kB
              have p2 : w9.cell? ⟨v5, 2, none⟩ = some (.bool false) := cell_of_row w9 _ 2 _ _ _ kB
              have p3 : w9.cell? ⟨v5, 3, none⟩ = some (.slice C t9.C.length c) := cell_of_row w9 _ 3 _ _ _ kB
              have p4 : w9.cell? ⟨v5, 4, none⟩ = some (.slice L t9.L.length d) := cell_of_row w9 _ 4 _ _ _ kB
              have hwl : (0 : Int) < (t9.M.W.length : Int) := by have := HL9.out; omega
              have hwl2 : 0 < t9.M.W.length := by have := HL9.out; omega
              have HTG := hid (show ∀ w, Calls Try.prog 50 #[.int .i64 (pWord (2 * (n : Int)) n 0)] w fun e w' => e = .returned (.int .i64 (2 * (n : Int))) ∧ w = w' from fun w => by have h9 := Pk.rtag_any (pWord (2 * (n : Int)) n 0) w; rw [pTag_word _ _ _ (by omega) (by omega) (by omega)] at h9; exact h9)
              go_wp2_with (go_at_call 50; (with_reducible refine (HTG.out _).mono ?_); rintro e wt ⟨rfl, rfl⟩)
              go_ret
              exact ⟨rfl, kb⟩

set_option maxRecDepth 100000 in
theorem lifted (os : Os) (started : os.Started) (H : Type) (enc : TypeId × Value → H) :
    ReturnsInHanded {} Try.checked os 12 .any (Rows.stackAloneSpec.pre6 enc Try.prog Try.f12 Rows.stackAloneRow.domain false) (Rows.stackAloneSpec.post enc Try.prog Try.f12 false true false false) := by
  refine returnsInHanded_of_change (C := Try.checked) own started (by kernel_rfl) Try.func12
    (ChangeSpec.witness6 (enc := enc) (C := Try.checked) false ⟨#[], #[.int .u8 0], []⟩ 8 (by kernel_rfl) (by kernel_rfl) (by kernel_rfl) (by kernel_rfl)) ?_
  intro W base args ds gs before hval0 hW hcnd _
  have hval : ∀ (j : Nat) t v, Try.f12.params[j]? = some t → args[j]? = some v → Value.okWide Try.prog W .any base t v := hval0
  have hW' := hW
  obtain ⟨p, q, hA0, hV, rfl, hfz, hnd⟩ := hW
  have hA : DataW.TrodAll enc Try.prog W 0 (fun _ => true) true Try.f12.params.toList args.toList ds p := hA0
  rw [Try.params12] at hA hval
  obtain ⟨v0, vs0, d0, ds0, p0, q0, hargs, rfl, rfl, h0, r0⟩ := trodAll_cons hA
  obtain ⟨rfl, rfl, rfl⟩ := trodAll_nil r0
  obtain rfl : args = #[v0] := by cases args; simp_all
  obtain ⟨rfl, rfl⟩ := trodVars_none hV
  clear hA0 hval0
  obtain ⟨m1, hm1⟩ := h0
  obtain ⟨a, e1, _, u1⟩ := DataW.trod_int Try.underlying5 hm1
  obtain ⟨a', rfl⟩ := okWide_int Try.underlying5 (hval 0 5 v0 rfl rfl)
  obtain rfl : a' = a := by simpa [Value.cells] using e1
  obtain ⟨y0, y1⟩ := bounds_u8 u1
  refine (walk a' W y0 y1).mono fun e W' ⟨he, hb⟩ => ?_
  subst he
  exact ⟨_, rfl, law_post (tb := 4) (by kernel_rfl) (by kernel_rfl) (by kernel_rfl) Try.underlying4 rfl hW' rfl hb⟩

theorem over : Rows.stackAloneRow.holds Try.pinned (OpenSpec.ofChange Rows.stackAloneSpec) :=
  OpenClaim.holds_of_wide 12 Try.f12 rfl rfl rfl rfl rfl rfl rfl ⟨rfl, rfl, rfl, rfl, rfl⟩ rfl rfl rfl rfl rfl (by kernel_rfl) Try.func12 (by kernel_rfl)
    (of_decide_eq_true (by kernel_rfl)) (by unfold Func.isWrapper; first | (rw [if_pos (by decide +kernel)]; kernel_rfl) | (rw [if_neg (by decide +kernel)]; exact ⟨rfl, rfl⟩))
    (fun os started H enc _ => lifted os started H enc)
end StackAlone

theorem stackAlone_holds : Rows.StackAloneSaid := StackAlone.over
#print axioms stackAlone_holds
end Go.Proofs.Ytpagekhgeahmaaa
