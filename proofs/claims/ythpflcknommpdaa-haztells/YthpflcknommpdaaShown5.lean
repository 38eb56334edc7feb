/- Contract: the document's example for layer 5. -/
import Derived.Test.YthpflcknommpdaaKNew
import Derived.Test.YthpflcknommpdaaHaz5
import Derived.Test.YthpflcknommpdaaHazN
namespace Go.Proofs.Ythpflcknommpdaa
open Go.RowKit
set_option linter.unusedVariables false
set_option linter.unusedSimpArgs false

def e5t : Nat → Sy
  | 0 => pCall (syFill 3 4) 2 ⟨3, 0, [0, 1, 0, 0, 0, 0, 0, 0], []⟩
  | k + 1 => pHaz (e5t k) 2
theorem e5s_few : SyFew (syFill 3 4) := by unfold SyFew; decide +kernel
theorem e5t_few : ∀ k, k < 4 → SyFew (e5t k) ∧ 2 ≤ (e5t k).M.G.length := by unfold SyFew; decide +kernel
theorem e5t_top : ∀ k, k < 3 → ((pTop (e5t k) 2).map (fun f => f.R.getD 0 0)).getD 0 = 0 := by decide +kernel
theorem e5t_len : (e5t 3).M.W.length = 144 ∧ (e5t 3).M.G.length = 5 ∧ (e5t 3).C.length = 3 ∧ (syFill 3 4).M.W.length = 144 := by decide +kernel
theorem e5t_w : (e5t 3).M.W[15]? = some 1 := by decide +kernel
theorem e5t_c : (e5t 3).C[2]? = some ⟨[], 2, 0, 0, 0, 0, []⟩ := by decide +kernel
theorem e5t_n : pNameds (e5t 3).M (prs 9) = [false, true, false, false, false] := by decide +kernel

/-- What a round of the example begins with. -/
def E5 (w0 : World) (u v : Nat) (i : Value) (wr : World) : Prop :=
  ∃ (k : Nat) (A B C L A0 B0 C0 L0 : Option Addr) (a b c d a0 b0 c0 d0 : Nat), k ≤ 3 ∧ i = .int .i64 k ∧ wr.heap[v]? = some (.cells #[.slice A (e5t k).M.W.length a, .slice B (e5t k).M.G.length b, .bool (e5t k).M.bad, .slice C (e5t k).C.length c, .slice L (e5t k).L.length d] 28 (0, 0)) ∧ wr.heap[u]? = some (.cells #[.slice A0 (syFill 3 4).M.W.length a0, .slice B0 (syFill 3 4).M.G.length b0, .bool (syFill 3 4).M.bad, .slice C0 (syFill 3 4).C.length c0, .slice L0 (syFill 3 4).L.length d0] 28 (0, 0)) ∧ RS wr (e5t k) A B C L ∧ Below w0.heap.size w0 wr

set_option maxRecDepth 100000 in
set_option maxHeartbeats 8000000 in
theorem shown5_any (w0 : World) : Calls Try.prog 7 #[] w0 fun e w' => e = .returned (.bool true) ∧ Below w0.heap.size w0 w' := by
  have hb : Below w0.heap.size w0 w0 := Below.refl _ _
  obtain ⟨s1, hs1⟩ : ∃ s, s = syFill 3 4 := ⟨_, rfl⟩
  have HN := hid (show ∀ w, Calls Try.prog 20 #[.int .i64 3, .int .i64 4] w (RetSys w s1) from fun w => by rw [hs1]; exact rnew4_any 3 4 w (by omega) (by omega) (by omega) (by omega))
  have HC := hid (show ∀ (A B C L : Option Addr) (a b c d : Nat) (w : World), RS w s1 A B C L → Calls Try.prog 29 #[.agg #[.slice A s1.M.W.length a, .slice B s1.M.G.length b, .bool s1.M.bad, .slice C s1.C.length c, .slice L s1.L.length d], .int .i64 2, .int .i64 3, .int .i64 0, .int .i64 1, .int .i64 0] w (RetSys w (e5t 0)) from fun A B C L a b c d w k1 => by have h9 := rcall_u A B C L a b c d s1 2 3 0 1 0 w (by rw [hs1]; exact e5s_few) k1; rw [hs1] at h9 ⊢; exact h9)
  have HS := hid (show ∀ (k : Nat) (A B C L : Option Addr) (a b c d : Nat) (w : World), k < 3 → RS w (e5t k) A B C L → Calls Try.prog 17 #[.agg #[.slice A (e5t k).M.W.length a, .slice B (e5t k).M.G.length b, .bool (e5t k).M.bad, .slice C (e5t k).C.length c, .slice L (e5t k).L.length d], .int .i64 2] w (RetSys w (e5t (k + 1))) from fun k A B C L a b c d w hk k1 => by have h8 := e5t_few k (by omega); exact (hstep_any A B C L a b c d (e5t k) 2 w h8.1 h8.2 k1 (fun f hf => by have h7 := e5t_top k hk; rw [hf] at h7; simp only [Option.map_some, Option.getD_some] at h7; rw [h7]; unfold W64; omega)).mono (fun _ _ h => h.weak))
  have HL := hid (show ∀ (A B C L : Option Addr) (a b c d : Nat) (w : World), RS w (e5t 3) A B C L → Calls Try.prog 14 #[.agg #[.slice A 144 a, .slice B 5 b, .bool (e5t 3).M.bad, .slice C 3 c, .slice L (e5t 3).L.length d]] w fun e w' => ∃ g, e = .returned (.slice (some ⟨g, 0, none⟩) 5 5) ∧ w'.heap[g]? = some (.cells #[.bool false, .bool true, .bool false, .bool false, .bool false] 4 (0, 0)) ∧ Below w.heap.size w w' from fun A B C L a b c d w k1 => by have h8 := e5t_few 3 (by omega); have h9 := named_any A B C L a b c d (e5t 3) w h8.1 h8.2 k1; obtain ⟨l1, l2, l3, _⟩ := e5t_len; rw [l1, l2, l3, e5t_n] at h9; exact h9.mono (fun e w' ⟨g, h1, h2, _, h3⟩ => ⟨g, h1, h2, h3⟩))
  have HSX := hid hs1
  clear hs1
  go_enter Try.func7, Try.ntmps7
  go_wp2_with fail
  refine (HN.out w0).mono ?_
  rintro e w1 ⟨A0, B0, C0, L0, a0, b0, c0, d0, rfl, rW, rG, rC, rL, hk⟩
  replace hb := bstep hb hk
  clear hk
  have S0 : RS w1 s1 A0 B0 C0 L0 := ⟨rW, rG, rC, rL⟩
  clear rW rG rC rL
  go_upto_region 2 with (fail)
  have Bk0 := heap_alloc_new w1 (.cells #[.slice A0 s1.M.W.length a0, .slice B0 s1.M.G.length b0, .bool s1.M.bad, .slice C0 s1.C.length c0, .slice L0 s1.L.length d0] 28)
  have lt0 : w1.heap.size < (w1.alloc (.cells #[.slice A0 s1.M.W.length a0, .slice B0 s1.M.G.length b0, .bool s1.M.bad, .slice C0 s1.C.length c0, .slice L0 s1.L.length d0] 28)).heap.size := by simp
  have hk : Below w1.heap.size w1 (w1.alloc (.cells #[.slice A0 s1.M.W.length a0, .slice B0 s1.M.G.length b0, .bool s1.M.bad, .slice C0 s1.C.length c0, .slice L0 s1.L.length d0] 28)) := boxed _ _
  have nw0 : w0.heap.size ≤ w1.heap.size := hb.size
  replace S0 := S0.step hk
  replace hb := bstep hb hk
  clear hk
  obtain ⟨v0, hv⟩ : ∃ v, w1.heap.size = v := ⟨_, rfl⟩
  replace nw0 := Nat.le_trans nw0 (Nat.le_of_eq hv)
  rw [hv] at Bk0 lt0 ⊢
  clear hv
  generalize (w1.alloc (.cells #[.slice A0 s1.M.W.length a0, .slice B0 s1.M.G.length b0, .bool s1.M.bad, .slice C0 s1.C.length c0, .slice L0 s1.L.length d0] 28)) = w2 at *
  obtain ⟨m0_0, m0_1, m0_2, m0_3, m0_4⟩ := cells5 Bk0
  go_wp2_with fail
  refine (HC.out A0 B0 C0 L0 a0 b0 c0 d0 _ S0).mono ?_
  rintro e w3 ⟨A5, B5, C5, L5, a5, b5, c5, d5, rfl, rW, rG, rC, rL, hk⟩
  clear m0_0 m0_1 m0_2 m0_3 m0_4
  replace Bk0 := (hk.block v0 lt0).trans Bk0
  replace lt0 := Nat.lt_of_lt_of_le lt0 hk.size
  replace S0 := S0.step hk
  replace hb := bstep hb hk
  clear hk
  have S5 : RS w3 (e5t 0) A5 B5 C5 L5 := ⟨rW, rG, rC, rL⟩
  clear rW rG rC rL
  go_upto_region 3 with (fail)
  have Bk5 := heap_alloc_new w3 (.cells #[.slice A5 (e5t 0).M.W.length a5, .slice B5 (e5t 0).M.G.length b5, .bool (e5t 0).M.bad, .slice C5 (e5t 0).C.length c5, .slice L5 (e5t 0).L.length d5] 28)
  have lt5 : w3.heap.size < (w3.alloc (.cells #[.slice A5 (e5t 0).M.W.length a5, .slice B5 (e5t 0).M.G.length b5, .bool (e5t 0).M.bad, .slice C5 (e5t 0).C.length c5, .slice L5 (e5t 0).L.length d5] 28)).heap.size := by simp
  have hk : Below w3.heap.size w3 (w3.alloc (.cells #[.slice A5 (e5t 0).M.W.length a5, .slice B5 (e5t 0).M.G.length b5, .bool (e5t 0).M.bad, .slice C5 (e5t 0).C.length c5, .slice L5 (e5t 0).L.length d5] 28)) := boxed _ _
  have ne0_5 : v0 ≠ w3.heap.size := Nat.ne_of_lt lt0
  have nw5 : w0.heap.size ≤ w3.heap.size := hb.size
  replace Bk0 := (hk.block v0 lt0).trans Bk0
  replace lt0 := Nat.lt_of_lt_of_le lt0 hk.size
  replace S0 := S0.step hk
  replace S5 := S5.step hk
  replace hb := bstep hb hk
  clear hk
  obtain ⟨v5, hv⟩ : ∃ v, w3.heap.size = v := ⟨_, rfl⟩
  replace nw5 := Nat.le_trans nw5 (Nat.le_of_eq hv)
  rw [hv] at Bk5 lt5 ne0_5 ⊢
  clear hv
  generalize (w3.alloc (.cells #[.slice A5 (e5t 0).M.W.length a5, .slice B5 (e5t 0).M.G.length b5, .bool (e5t 0).M.bad, .slice C5 (e5t 0).C.length c5, .slice L5 (e5t 0).L.length d5] 28)) = w4 at *
  go_wp2_with fail
  rw [HSX.out] at Bk0
  go_loopw [3] (fun i wr => E5 w0 v0 v5 i wr) (fun i _ => 3 - (intOf i).toNat)
  case atStart => exact ⟨0, A5, B5, C5, L5, A0, B0, C0, L0, a5, b5, c5, d5, a0, b0, c0, d0, by omega, rfl, Bk5, Bk0, S5, hb⟩
  case round =>
    clear hb Bk0 lt0 Bk5 lt5 S0 S5 HSX HN HC
    obtain ⟨k, A, B, C, L, A7, B7, C7, L7, a, b, c, d, a7, b7, c7, d7, hk3, rfl, kB, kB0, kS, kb⟩ := hrel
    have lz : v5 < wr.heap.size := (Array.getElem?_eq_some_iff.1 kB).1
    have ly : v0 < wr.heap.size := (Array.getElem?_eq_some_iff.1 kB0).1
    by_cases hlt : k < 3
    · obtain ⟨p0, p1, p2, p3, p4⟩ := cells5 kB
      have kl : (k : Int) < 3 := by omega
      go_wp2_with (go_at_call 17; (with_reducible refine (HS.out k A B C L a b c d _ hlt kS).mono ?_); rintro e w9 ⟨A9, B9, C9, L9, a9, b9, c9, d9, rfl, rW, rG, rC, rL, hk⟩; have K9 := (hk.block v5 lz).trans kB; obtain ⟨y0, y1, y2, y3, y4⟩ := cells5 K9; obtain ⟨yf0, yf1, yf2, yf3, yf4⟩ := frz5 K9)
      have REL : E5 w0 v0 v5 (.int .i64 ((k + 1 : Nat) : Int)) ((((((w9.setCell ⟨v5, 0, none⟩ (.slice A9 (e5t (k + 1)).M.W.length a9)).setCell ⟨v5, 1, none⟩ (.slice B9 (e5t (k + 1)).M.G.length b9)).setCell ⟨v5, 2, none⟩ (.bool (e5t (k + 1)).M.bad)).setCell ⟨v5, 3, none⟩ (.slice C9 (e5t (k + 1)).C.length c9)).setCell ⟨v5, 4, none⟩ (.slice L9 (e5t (k + 1)).L.length d9))) := ⟨k + 1, A9, B9, C9, L9, A7, B7, C7, L7, a9, b9, c9, d9, a7, b7, c7, d7, by omega, rfl, blk5 K9 _ _ _ _ _, ((turn5 w9 v5 _ _ _ _ _).block v0 (Nat.lt_of_lt_of_le ly hk.size) ne0_5).trans ((hk.block v0 ly).trans kB0), (RS.mk rW rG rC rL).turnN (turn5 _ _ _ _ _ _ _) (noInt_sys K9), (bstep kb hk).trans ((turn5 _ _ _ _ _ _ _).to_below (bstep kb hk).size (fun g hg => by rw [hg]; exact nw5))⟩
      go_roundw
      case rel => exact REL
      case measure => simp [intOf]; omega
    · have hk4 : k = 3 := by omega
      subst hk4
      obtain ⟨l1, l2, l3, l4⟩ := e5t_len
      rw [l1, l2, l3] at kB
      rw [l4] at kB0
      clear l1 l2 l3 l4
      obtain ⟨p0, p1, p2, p3, p4⟩ := cells5 kB
      obtain ⟨z0, z1, z2, z3, z4⟩ := cells5 kB0
      go_upto_region 10 with (go_at_call 14; (with_reducible refine (HL.out A B C L a b c d _ kS).mono ?_); rintro e w9 ⟨g, rfl, hg, hk⟩)
      clear p0 p1 p2 p3 p4 z0 z1 z2 z3 z4 kB0 ly
      replace kB := (hk.block v5 lz).trans kB
      replace kS := kS.step hk
      replace kb := bstep kb hk
      clear hk
      obtain ⟨bC, oC, rfl, hbC, hatC⟩ := kS.C (by have h := e5t_len.2.2.1; omega)
      obtain ⟨AFx, ARx, cFx, cRx, hcx, _, _⟩ := (hatC 2 _ e5t_c).cs
      obtain ⟨bW, oW, rfl, hbW, hatW⟩ := kS.W (by have h := e5t_len.1; omega)
      have xw := hatW 15 _ e5t_w
      clear hatC hatW
      have x0 : w9.cell? ⟨bC, oC + 14, none⟩ = some (.slice AFx 0 cFx) := by have h := hcx 0 _ rfl; simpa using h
      have x1 : w9.cell? ⟨bC, oC + 14 + 1, none⟩ = some (.int .i64 2) := by have h := hcx 1 _ rfl; simpa using h
      obtain ⟨-, n1, n2⟩ := cells3 hg
      clear hcx
      have hP : (pPlace 2 1 == 15) = true := by rw [pPlace_in (by omega) (by omega) (by omega) (by omega)]; rfl
      obtain ⟨p0, p1, p2, p3, p4⟩ := cells5 kB
      go_wp2_with (first | (go_at_call 11; (with_reducible refine (own5_any _ _).mono ?_); rintro e wK ⟨rfl, rfl⟩) | (go_at_call 9; (with_reducible refine (place_w _ _ _).mono ?_); rintro e wK ⟨rfl, rfl⟩))
      go_ret
      exact ⟨rfl, kb⟩
end Go.Proofs.Ythpflcknommpdaa
