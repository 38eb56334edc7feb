/- Contract: core.Set; the rows stand whatever becomes of older blocks. -/
import Derived.Test.YthpflcknommpdaaKCoT
import Derived.Test.YthpflcknommpdaaCoreW0
namespace Go.Proofs.Ythpflcknommpdaa
open Go.RowKit
set_option linter.unusedVariables false
set_option linter.unusedSimpArgs false

set_option maxRecDepth 100000 in
set_option maxHeartbeats 16000000 in
theorem set_yesN (A B AC AL : Option Addr) (c d cC cL : Nat) (s : Sy) (k n : Nat) (x : Co) (AS : Option Addr) (cS : Nat) (op pc r0 r1 r2 r3 r4 r5 r6 r7 : Int) (xs : List Int) (hx : s.C[k]? = some x) (hn : x.F.length = n + 1) (h6 : xs.length ≤ 1000000) (w : World) (hS : Row w AS xs) (hW : Row w A s.M.W) (hG : Row w B s.M.G) (hC : RowC w AC s.C) (hL : RowE w AL s.L) (h0 : s.M.W.length ≤ 1000000) (h1 : s.M.G.length ≤ 1000000) (h2 : s.C.length ≤ 1000000) (h3 : s.L.length ≤ 1000000) (h4 : ∀ x ∈ s.C, x.ret.length ≤ 1000000 ∧ x.F.length ≤ 1000000 ∧ ∀ f ∈ x.F, f.S.length ≤ 1000000) :
    Calls Try.prog 45 #[.agg #[.slice A s.M.W.length c, .slice B s.M.G.length d, .bool s.M.bad, .slice AC s.C.length cC, .slice AL s.L.length cL], .int .i64 k, .agg #[.int .i64 op, .int .i64 pc, .int .i64 r0, .int .i64 r1, .int .i64 r2, .int .i64 r3, .int .i64 r4, .int .i64 r5, .int .i64 r6, .int .i64 r7, .slice AS xs.length cS]] w (RetSysN w (syWith s k (coSet x n ⟨op, pc, [r0, r1, r2, r3, r4, r5, r6, r7], xs⟩))) := by
  have hxF : 0 < x.F.length := by omega
  have hkl : k < s.C.length := (List.getElem?_eq_some_iff.1 hx).1
  have HX := hid hx
  clear hx
  obtain ⟨b1, bf, b2, bs⟩ := heap3b w (.cells #[.slice A s.M.W.length c, .slice B s.M.G.length d, .bool s.M.bad, .slice AC s.C.length cC, .slice AL s.L.length cL] 28) (.cells #[.int .i64 op, .int .i64 pc, .int .i64 r0, .int .i64 r1, .int .i64 r2, .int .i64 r3, .int .i64 r4, .int .i64 r5, .int .i64 r6, .int .i64 r7, .slice AS xs.length cS] 55) (.cells #[.slice none 0 0, .slice none 0 0, .bool false, .slice none 0 0, .slice none 0 0] 28)
  have hw2 : Below w.heap.size w (((w.alloc (.cells #[.slice A s.M.W.length c, .slice B s.M.G.length d, .bool s.M.bad, .slice AC s.C.length cC, .slice AL s.L.length cL] 28)).alloc (.cells #[.int .i64 op, .int .i64 pc, .int .i64 r0, .int .i64 r1, .int .i64 r2, .int .i64 r3, .int .i64 r4, .int .i64 r5, .int .i64 r6, .int .i64 r7, .slice AS xs.length cS] 55)).alloc (.cells #[.slice none 0 0, .slice none 0 0, .bool false, .slice none 0 0, .slice none 0 0] 28)) := bstep (bstep (boxed _ _) (boxed _ _)) (boxed _ _)
  have H4 := hid h4
  clear h4
  go_enter Try.func45, Try.ntmps45
  go_wp2_with fail
  generalize (((w.alloc (.cells #[.slice A s.M.W.length c, .slice B s.M.G.length d, .bool s.M.bad, .slice AC s.C.length cC, .slice AL s.L.length cL] 28)).alloc (.cells #[.int .i64 op, .int .i64 pc, .int .i64 r0, .int .i64 r1, .int .i64 r2, .int .i64 r3, .int .i64 r4, .int .i64 r5, .int .i64 r6, .int .i64 r7, .slice AS xs.length cS] 55)).alloc (.cells #[.slice none 0 0, .slice none 0 0, .bool false, .slice none 0 0, .slice none 0 0] 28)) = w2 at *
  refine (copied_any A B AC AL c d cC cL s w2 (hW.step hw2) (hG.step hw2) (hC.step hw2) (hL.step hw2) h0 h1 h2 h3 H4.out).mono ?_
  rintro e w3 ⟨lo, hm, own, vs, AW, AG, cW, cG, vC, vL, rfl, hlo, SI, hk⟩
  have hmv : hm ≤ w3.heap.size := SI.hw
  have SI := SI.seal
  have hside : ∀ b, w3.heap.size ≤ b → Side s lo hm (fun b => if b < w3.heap.size then own b else s.C.length) b := fun b hb => .inr ⟨by omega, if_neg (by omega)⟩
  generalize (fun b => if b < w3.heap.size then own b else s.C.length) = own2 at *
  obtain ⟨AC', cC', rfl⟩ := own_val SI.co
  obtain ⟨AL', cL', rfl⟩ := own_val SI.ev
  replace b1 := (hk.block w.heap.size (by omega)).trans b1
  replace b2 := (hk.block (w.heap.size + 1 + 1) (by omega)).trans b2
  replace bf := (hk.block (w.heap.size + 1) (by omega)).trans bf
  have hb := bstep hw2 hk
  have hz : w.heap.size + 1 + 1 < w3.heap.size := by have := hk.size; omega
  have hz0 : w.heap.size < w3.heap.size := by omega
  have hlo2 : w.heap.size + 1 + 1 < lo := by omega
  have hz1 : w.heap.size + 1 < w3.heap.size := by omega
  clear hk hw2 bs hlo hW hG hL h0 h1
  obtain ⟨p0, p1, p2, p3, p4⟩ := cells5 b1
  go_wp2_with fail
  have bv := heap_alloc_new w3 (.cells #[.slice AW s.M.W.length cW, .slice AG s.M.G.length cG, .bool s.M.bad, .slice AC' s.C.length cC', .slice AL' s.L.length cL'] 28)
  have t4 : Turn (fun _ => False) w3 (w3.alloc (.cells #[.slice AW s.M.W.length cW, .slice AG s.M.G.length cG, .bool s.M.bad, .slice AC' s.C.length cC', .slice AL' s.L.length cL'] 28)) := (Turn.refl _ _).alloc _
  replace SI := SI.turn t4 (fun _ _ h => h)
  replace b1 := (t4.block w.heap.size hz0 id).trans b1
  replace b2 := (t4.block (w.heap.size + 1 + 1) hz id).trans b2
  replace bf := (t4.block (w.heap.size + 1) hz1 id).trans bf
  skip
  replace hb := bstep hb (boxed w3 (.cells #[.slice AW s.M.W.length cW, .slice AG s.M.G.length cG, .bool s.M.bad, .slice AC' s.C.length cC', .slice AL' s.L.length cL'] 28))
  have vx : w3.heap.size < (w3.alloc (.cells #[.slice AW s.M.W.length cW, .slice AG s.M.G.length cG, .bool s.M.bad, .slice AC' s.C.length cC', .slice AL' s.L.length cL'] 28)).heap.size := by simp
  clear t4 p0 p1 p2 p3 p4
  obtain ⟨v, hv⟩ : ∃ v, w3.heap.size = v := ⟨_, rfl⟩
  generalize (w3.alloc (.cells #[.slice AW s.M.W.length cW, .slice AG s.M.G.length cG, .bool s.M.bad, .slice AC' s.C.length cC', .slice AL' s.L.length cL'] 28)) = w4 at *
  rw [hv] at bv vx hz hz0 hmv hside ⊢
  have HSD := hid hside
  clear hside
  rw [hv] at hz1
  clear hv
  refine (hasFrame_at _ _ _ _ _ _ _ _ s k x _ (hC.step hb) h2 HX.out (H4.out x (List.mem_of_getElem? HX.out)).2.1).mono ?_
  rintro e w5 ⟨rfl, hk⟩
  rw [decide_eq_true hxF]
  replace b1 := (hk.block w.heap.size (by omega)).trans b1
  replace b2 := (hk.block (w.heap.size + 1 + 1) (by omega)).trans b2
  replace bv := (hk.block v vx).trans bv
  replace bf := (hk.block (w.heap.size + 1) (by omega)).trans bf
  replace SI := SI.turn (Turn.below (Turn.refl (fun _ => False) _) hk) (fun _ _ h => h)
  replace hb := bstep hb hk
  replace vx := Nat.lt_of_lt_of_le vx hk.size
  clear hk
  obtain ⟨g, cap, AF, AR, cF, cR, ps, eC, hvk, hg1, hg2, CI, hcell, hfz⟩ := SI.look HX.out
  obtain ⟨rfl, rfl⟩ : AC' = some ⟨g, 0, none⟩ ∧ cC' = cap := by simpa using eC
  obtain ⟨gF, capF, eF, _, gFl⟩ := CI.fr.form hxF
  obtain ⟨rfl, rfl⟩ : AF = some ⟨gF, 0, none⟩ ∧ cF = capF := by simpa using eF
  have gFh := (CI.okF gF rfl).1
  have gFv : gF ≠ v := by
    intro e
    have h7 := (CI.okF gF rfl).2
    have h8 := SI.lh
    rw [e] at h7
    rcases HSD.out v (Nat.le_refl _) with h9 | h9
    · omega
    · omega
  clear eC eF
  have u0 : w5.cell? ⟨g, k * 7, none⟩ = some (.slice (some ⟨gF, 0, none⟩) x.F.length cF) := hcell 0 _ rfl
  have HC5 := hid (hC.step hb)
  have HS5 := hid (hS.step hb)
  have HFC := hid (show ∀ j, j < x.F.length * 11 → ∃ u, w5.cell? ⟨gF, j, none⟩ = some u from fun j hj => ⟨_, (CI.fr.cellAt j hj).trans (List.getElem?_eq_getElem (by rw [CI.fr.1]; exact hj))⟩)
  have HFF := hid (show ∀ j, w5.frozen? ⟨gF, j, none⟩ = false from CI.fr.frozenAt)
  obtain ⟨p0, p1, p2, p3, p4⟩ := cells5 b1
  obtain ⟨f0, f1, f2, f3, f4, f5, f6, f7, f8, f9, f10⟩ := cells11 bf
  obtain ⟨-, -, -, m3⟩ := cells4 bv
  have gl5 : g < w5.heap.size := World.block_lt_of_cell? w5 _ u0
  have n5 : w.heap.size < w5.heap.size := by omega
  have n6 : w.heap.size + 1 < w5.heap.size := by omega
  have h5 : x.F.length ≤ 1000000 := (H4.out x (List.mem_of_getElem? HX.out)).2.1
  have HN := hid (show (x.F.length : Int) - 1 = (n : Int) by omega)
  have kl : (k : Int) < (s.C.length : Int) := by omega
  have nl : (n : Int) < (x.F.length : Int) := by omega
  have hnl : n < x.F.length := by omega
  have Hhn := hid hn
  clear hcell hfz hn
  have KS := hid (show ∀ w', Turn (fun b => b = gF) w5 w' → (w'.cell? ⟨v, 3, none⟩ = some (.slice (some ⟨g, 0, none⟩) s.C.length cC') ∧ w'.cell? ⟨g, k * 7, none⟩ = some (.slice (some ⟨gF, 0, none⟩) x.F.length cF) ∧ w'.cell? ⟨w.heap.size, 0, none⟩ = some (.slice A s.M.W.length c) ∧ w'.cell? ⟨w.heap.size, 1, none⟩ = some (.slice B s.M.G.length d) ∧ w'.cell? ⟨w.heap.size, 2, none⟩ = some (.bool s.M.bad) ∧ w'.cell? ⟨w.heap.size, 3, none⟩ = some (.slice AC s.C.length cC) ∧ w'.cell? ⟨w.heap.size, 4, none⟩ = some (.slice AL s.L.length cL) ∧ w'.cell? ⟨w.heap.size + 1, 0, none⟩ = some (.int .i64 op) ∧ w'.cell? ⟨w.heap.size + 1, 1, none⟩ = some (.int .i64 pc) ∧ w'.cell? ⟨w.heap.size + 1, 2, none⟩ = some (.int .i64 r0) ∧ w'.cell? ⟨w.heap.size + 1, 3, none⟩ = some (.int .i64 r1) ∧ w'.cell? ⟨w.heap.size + 1, 4, none⟩ = some (.int .i64 r2) ∧ w'.cell? ⟨w.heap.size + 1, 5, none⟩ = some (.int .i64 r3) ∧ w'.cell? ⟨w.heap.size + 1, 6, none⟩ = some (.int .i64 r4) ∧ w'.cell? ⟨w.heap.size + 1, 7, none⟩ = some (.int .i64 r5) ∧ w'.cell? ⟨w.heap.size + 1, 8, none⟩ = some (.int .i64 r6) ∧ w'.cell? ⟨w.heap.size + 1, 9, none⟩ = some (.int .i64 r7) ∧ w'.cell? ⟨w.heap.size + 1, 10, none⟩ = some (.slice AS xs.length cS)) from fun w' h => ⟨(h.cell vx (by omega)).trans m3, (h.cell gl5 (by omega)).trans u0, (h.cell n5 (by omega)).trans p0, (h.cell n5 (by omega)).trans p1, (h.cell n5 (by omega)).trans p2, (h.cell n5 (by omega)).trans p3, (h.cell n5 (by omega)).trans p4, (h.cell n6 (by omega)).trans f0, (h.cell n6 (by omega)).trans f1, (h.cell n6 (by omega)).trans f2, (h.cell n6 (by omega)).trans f3, (h.cell n6 (by omega)).trans f4, (h.cell n6 (by omega)).trans f5, (h.cell n6 (by omega)).trans f6, (h.cell n6 (by omega)).trans f7, (h.cell n6 (by omega)).trans f8, (h.cell n6 (by omega)).trans f9, (h.cell n6 (by omega)).trans f10⟩)
  go_upto_region 3 with (fail)
  go_cut [7] from 8 (fun s0 wx => s0 = .pointer (some ⟨v, 0, none⟩) ∧ ∃ w7 A' c', Below w5.heap.size w5 w7 ∧ RowI (fun b => w5.heap.size ≤ b) w7 A' xs ∧ wx = (((((((((((w7.setCell ⟨gF, n * 11, none⟩ (.int .i64 op)).setCell ⟨gF, n * 11 + 1, none⟩ (.int .i64 pc)).setCell ⟨gF, n * 11 + 2, none⟩ (.int .i64 r0)).setCell ⟨gF, n * 11 + 3, none⟩ (.int .i64 r1)).setCell ⟨gF, n * 11 + 4, none⟩ (.int .i64 r2)).setCell ⟨gF, n * 11 + 5, none⟩ (.int .i64 r3)).setCell ⟨gF, n * 11 + 6, none⟩ (.int .i64 r4)).setCell ⟨gF, n * 11 + 7, none⟩ (.int .i64 r5)).setCell ⟨gF, n * 11 + 8, none⟩ (.int .i64 r6)).setCell ⟨gF, n * 11 + 9, none⟩ (.int .i64 r7)).setCell ⟨gF, n * 11 + 10, none⟩ (.slice A' xs.length c')))
  case first =>
    clear SI CI b1 b2 bv bf hvk hb
    go_region_held3 (fun w' => w'.cell? ⟨v, 3, none⟩ = some (.slice (some ⟨g, 0, none⟩) s.C.length cC') ∧ w'.cell? ⟨g, k * 7, none⟩ = some (.slice (some ⟨gF, 0, none⟩) x.F.length cF) ∧ w'.cell? ⟨w.heap.size, 0, none⟩ = some (.slice A s.M.W.length c) ∧ w'.cell? ⟨w.heap.size, 1, none⟩ = some (.slice B s.M.G.length d) ∧ w'.cell? ⟨w.heap.size, 2, none⟩ = some (.bool s.M.bad) ∧ w'.cell? ⟨w.heap.size, 3, none⟩ = some (.slice AC s.C.length cC) ∧ w'.cell? ⟨w.heap.size, 4, none⟩ = some (.slice AL s.L.length cL) ∧ w'.cell? ⟨w.heap.size + 1, 0, none⟩ = some (.int .i64 op) ∧ w'.cell? ⟨w.heap.size + 1, 1, none⟩ = some (.int .i64 pc) ∧ w'.cell? ⟨w.heap.size + 1, 2, none⟩ = some (.int .i64 r0) ∧ w'.cell? ⟨w.heap.size + 1, 3, none⟩ = some (.int .i64 r1) ∧ w'.cell? ⟨w.heap.size + 1, 4, none⟩ = some (.int .i64 r2) ∧ w'.cell? ⟨w.heap.size + 1, 5, none⟩ = some (.int .i64 r3) ∧ w'.cell? ⟨w.heap.size + 1, 6, none⟩ = some (.int .i64 r4) ∧ w'.cell? ⟨w.heap.size + 1, 7, none⟩ = some (.int .i64 r5) ∧ w'.cell? ⟨w.heap.size + 1, 8, none⟩ = some (.int .i64 r6) ∧ w'.cell? ⟨w.heap.size + 1, 9, none⟩ = some (.int .i64 r7) ∧ w'.cell? ⟨w.heap.size + 1, 10, none⟩ = some (.slice AS xs.length cS)) (exact KS.out _ (by repeat (first | (with_reducible exact Turn.refl _ _) | (with_reducible refine Turn.set ?_ (by simp) _ _) | (with_reducible refine Turn.drew ?_) | (with_reducible refine Turn.below ?_ hk7) | (with_reducible refine Turn.below ?_ hk6))))
      (first
        | (go_at_call 76; refine (last_at A B AC AL c d cC cL s k x _ (HC5.out.step ((Below.refl _ _).drew)) h2 HX.out h5).mono ?_; rintro e w6 ⟨rfl, hk6⟩; rw [HN.out]; have hj1 : Below w5.heap.size w5 w6 := bstep ((Below.refl _ _).drew) hk6)
        | (go_at_call 75; refine (copiedFrame_any AS cS op pc r0 r1 r2 r3 r4 r5 r6 r7 xs _ (HS5.out.step hj1) h6).mono ?_; rintro e w7 ⟨A', c', rfl, hr7, hk7⟩; have hj2 := bstep hj1 hk7; obtain ⟨y0, hy0⟩ := HFC.out (n * 11) (by omega); replace hy0 := (hj2.cell gFl).trans hy0; have hz20 := (hj2.frozen gFl).trans (HFF.out (n * 11)); obtain ⟨y1, hy1⟩ := HFC.out (n * 11 + 1) (by omega); replace hy1 := (hj2.cell gFl).trans hy1; have hz21 := (hj2.frozen gFl).trans (HFF.out (n * 11 + 1)); obtain ⟨y2, hy2⟩ := HFC.out (n * 11 + 2) (by omega); replace hy2 := (hj2.cell gFl).trans hy2; have hz22 := (hj2.frozen gFl).trans (HFF.out (n * 11 + 2)); obtain ⟨y3, hy3⟩ := HFC.out (n * 11 + 3) (by omega); replace hy3 := (hj2.cell gFl).trans hy3; have hz23 := (hj2.frozen gFl).trans (HFF.out (n * 11 + 3)); obtain ⟨y4, hy4⟩ := HFC.out (n * 11 + 4) (by omega); replace hy4 := (hj2.cell gFl).trans hy4; have hz24 := (hj2.frozen gFl).trans (HFF.out (n * 11 + 4)); obtain ⟨y5, hy5⟩ := HFC.out (n * 11 + 5) (by omega); replace hy5 := (hj2.cell gFl).trans hy5; have hz25 := (hj2.frozen gFl).trans (HFF.out (n * 11 + 5)); obtain ⟨y6, hy6⟩ := HFC.out (n * 11 + 6) (by omega); replace hy6 := (hj2.cell gFl).trans hy6; have hz26 := (hj2.frozen gFl).trans (HFF.out (n * 11 + 6)); obtain ⟨y7, hy7⟩ := HFC.out (n * 11 + 7) (by omega); replace hy7 := (hj2.cell gFl).trans hy7; have hz27 := (hj2.frozen gFl).trans (HFF.out (n * 11 + 7)); obtain ⟨y8, hy8⟩ := HFC.out (n * 11 + 8) (by omega); replace hy8 := (hj2.cell gFl).trans hy8; have hz28 := (hj2.frozen gFl).trans (HFF.out (n * 11 + 8)); obtain ⟨y9, hy9⟩ := HFC.out (n * 11 + 9) (by omega); replace hy9 := (hj2.cell gFl).trans hy9; have hz29 := (hj2.frozen gFl).trans (HFF.out (n * 11 + 9)); obtain ⟨y10, hy10⟩ := HFC.out (n * 11 + 10) (by omega); replace hy10 := (hj2.cell gFl).trans hy10; have hz30 := (hj2.frozen gFl).trans (HFF.out (n * 11 + 10))))
    all_goals go_wp2_with fail
    all_goals go_meet
    all_goals exact ⟨rfl, _, A', c', hj2, hr7.mono (fun b _ hb => Nat.le_trans hj1.size hb), rfl⟩
  case rest =>
    obtain ⟨rfl, w7, A', c', hj, hr7, rfl⟩ := hcut
    have SI7 := SI.turn (Turn.below (Turn.refl (fun _ => False) _) hj) (fun _ _ h => h)
    have CI7 := CI.keep hj.size (fun b hl _ => hj.block b hl)
    replace b2 := (hj.block (w.heap.size + 1 + 1) (by omega)).trans b2
    replace bv := (hj.block v vx).trans bv
    replace hb := bstep hb hj
    have tF : Turn (fun b => b = gF) w7 (((((((((((w7.setCell ⟨gF, n * 11, none⟩ (.int .i64 op)).setCell ⟨gF, n * 11 + 1, none⟩ (.int .i64 pc)).setCell ⟨gF, n * 11 + 2, none⟩ (.int .i64 r0)).setCell ⟨gF, n * 11 + 3, none⟩ (.int .i64 r1)).setCell ⟨gF, n * 11 + 4, none⟩ (.int .i64 r2)).setCell ⟨gF, n * 11 + 5, none⟩ (.int .i64 r3)).setCell ⟨gF, n * 11 + 6, none⟩ (.int .i64 r4)).setCell ⟨gF, n * 11 + 7, none⟩ (.int .i64 r5)).setCell ⟨gF, n * 11 + 8, none⟩ (.int .i64 r6)).setCell ⟨gF, n * 11 + 9, none⟩ (.int .i64 r7)).setCell ⟨gF, n * 11 + 10, none⟩ (.slice A' xs.length c')) := (by repeat (first | (with_reducible exact Turn.refl _ _) | (with_reducible refine Turn.set ?_ (by simp) _ _)))
    replace b2 := (tF.block (w.heap.size + 1 + 1) (by have := hj.size; omega) (by omega)).trans b2
    replace bv := (tF.block v (by have := hj.size; omega) (fun e => gFv e.symm)).trans bv
    have TC : ∀ w', Turn (fun b => (b = w.heap.size + 1 + 1) ∨ b < w.heap.size) (((((((((((w7.setCell ⟨gF, n * 11, none⟩ (.int .i64 op)).setCell ⟨gF, n * 11 + 1, none⟩ (.int .i64 pc)).setCell ⟨gF, n * 11 + 2, none⟩ (.int .i64 r0)).setCell ⟨gF, n * 11 + 3, none⟩ (.int .i64 r1)).setCell ⟨gF, n * 11 + 4, none⟩ (.int .i64 r2)).setCell ⟨gF, n * 11 + 5, none⟩ (.int .i64 r3)).setCell ⟨gF, n * 11 + 6, none⟩ (.int .i64 r4)).setCell ⟨gF, n * 11 + 7, none⟩ (.int .i64 r5)).setCell ⟨gF, n * 11 + 8, none⟩ (.int .i64 r6)).setCell ⟨gF, n * 11 + 9, none⟩ (.int .i64 r7)).setCell ⟨gF, n * 11 + 10, none⟩ (.slice A' xs.length c')) w' → ToldCo w' (coSet x n ⟨op, pc, [r0, r1, r2, r3, r4, r5, r6, r7], xs⟩) (.slice (some ⟨gF, 0, none⟩) x.F.length cF) (.slice AR x.ret.length cR) := fun w' hT => CI7.setF hnl c' hT (fun b hb e => by have h8 := SI.lh; omega) (hr7.mono (fun b _ hb => ⟨by omega, by omega⟩))
    have hw8 : w7.heap.size ≤ (((((((((((w7.setCell ⟨gF, n * 11, none⟩ (.int .i64 op)).setCell ⟨gF, n * 11 + 1, none⟩ (.int .i64 pc)).setCell ⟨gF, n * 11 + 2, none⟩ (.int .i64 r0)).setCell ⟨gF, n * 11 + 3, none⟩ (.int .i64 r1)).setCell ⟨gF, n * 11 + 4, none⟩ (.int .i64 r2)).setCell ⟨gF, n * 11 + 5, none⟩ (.int .i64 r3)).setCell ⟨gF, n * 11 + 6, none⟩ (.int .i64 r4)).setCell ⟨gF, n * 11 + 7, none⟩ (.int .i64 r5)).setCell ⟨gF, n * 11 + 8, none⟩ (.int .i64 r6)).setCell ⟨gF, n * 11 + 9, none⟩ (.int .i64 r7)).setCell ⟨gF, n * 11 + 10, none⟩ (.slice A' xs.length c')).heap.size := tF.size
    generalize (((((((((((w7.setCell ⟨gF, n * 11, none⟩ (.int .i64 op)).setCell ⟨gF, n * 11 + 1, none⟩ (.int .i64 pc)).setCell ⟨gF, n * 11 + 2, none⟩ (.int .i64 r0)).setCell ⟨gF, n * 11 + 3, none⟩ (.int .i64 r1)).setCell ⟨gF, n * 11 + 4, none⟩ (.int .i64 r2)).setCell ⟨gF, n * 11 + 5, none⟩ (.int .i64 r3)).setCell ⟨gF, n * 11 + 6, none⟩ (.int .i64 r4)).setCell ⟨gF, n * 11 + 7, none⟩ (.int .i64 r5)).setCell ⟨gF, n * 11 + 8, none⟩ (.int .i64 r6)).setCell ⟨gF, n * 11 + 9, none⟩ (.int .i64 r7)).setCell ⟨gF, n * 11 + 10, none⟩ (.slice A' xs.length c')) = w8 at *
    obtain ⟨m0, m1, m2, m3, m4⟩ := cells5 bv
    obtain ⟨mf0, mf1, mf2, mf3, mf4⟩ := frz5 bv
    obtain ⟨q0, q1, q2, q3, q4⟩ := cells5 b2
    obtain ⟨qf0, qf1, qf2, qf3, qf4⟩ := frz5 b2
    clear SI CI hj b1 b2 bv bf u0 p0 p1 p2 p3 p4 f0 f1 f2 f3 f4 f5 f6 f7 f8 f9 f10 KS HFC HFF
    go_wp2
    refine bodyPost_ret (v := .agg #[.slice AW s.M.W.length cW, .slice AG s.M.G.length cG, .bool s.M.bad, .slice (some ⟨g, 0, none⟩) s.C.length cC', .slice AL' s.L.length cL']) (by simp [results, Try.results45, go_sem, q0, q1, q2, q3, q4]) rfl ?_
    have key : ∀ w', Turn (fun b => (b = w.heap.size + 1 + 1) ∨ b < w.heap.size) w8 w' → RetSys w' (syWith s k (coSet x n ⟨op, pc, [r0, r1, r2, r3, r4, r5, r6, r7], xs⟩)) (.returned (.agg #[.slice AW s.M.W.length cW, .slice AG s.M.G.length cG, .bool s.M.bad, .slice (some ⟨g, 0, none⟩) s.C.length cC', .slice AL' s.L.length cL'])) w' := fun w' hT => by
      have tt : Turn (fun b => b = gF ∨ b = w.heap.size + 1 + 1 ∨ b < w.heap.size) w7 w' := (tF.mono (fun b _ h => .inl h)).trans (hT.mono (fun b _ h => .inr h))
      refine SI7.put (x' := coSet x n ⟨op, pc, [r0, r1, r2, r3, r4, r5, r6, r7], xs⟩) (vF' := .slice (some ⟨gF, 0, none⟩) x.F.length cF) (vR' := .slice AR x.ret.length cR) HX.out hvk (tt.mono (fun b _ h => ?_)) ?_ ?_ cW cG (Below.refl _ _)
      · rcases h with rfl | rfl | h
        · exact .inr (.inl rfl)
        · exact .inr (.inr (.inl hlo2))
        · exact .inr (.inr (.inl (by omega)))
      · rw [set_same (show (csV s.C vs)[k]? = some (coCells (coSet x n ⟨op, pc, [r0, r1, r2, r3, r4, r5, r6, r7], xs⟩) (.slice (some ⟨gF, 0, none⟩) x.F.length cF) (.slice AR x.ret.length cR)) from zip_at HX.out hvk)]
        exact own_turn SI7.co tt (fun b hb h => by simp [Value.ownBlock] at hb; omega)
      · exact TC w' hT
    exact retN (p := fun b => b = w.heap.size + 1 + 1) key (turn5 _ _ _ _ _ _ _) (hb.trans (((tF.mono (q := fun b => b = gF ∨ b = w.heap.size + 1 + 1) (fun _ _ h => .inl h)).trans ((turn5 _ _ _ _ _ _ _).mono (fun _ _ h => .inr h))).to_below hb.size (fun b h => by omega)))

end Go.Proofs.Ythpflcknommpdaa
