/- Contracts: cores that are copied. -/
import Derived.Test.YtpagekhgeahmaaaCopy2
import Derived.Deep.DrawnRows
import Derived.Deep.RegionWith
namespace Go.Proofs.Ytpagekhgeahmaaa
open Go.RowKit
set_option linter.unusedVariables false
set_option linter.unusedSimpArgs false

attribute [local go_sem ↓] Go.wp_at_zero Go.wp_at_succ

theorem heap2 (w0 : World) (a b : Obj) : ((w0.alloc a).alloc b).heap[w0.heap.size]? = some a ∧ ((w0.alloc a).alloc b).heap[w0.heap.size + 1]? = some b ∧ ((w0.alloc a).alloc b).heap.size = w0.heap.size + 2 := by
  refine ⟨?_, ?_, by simp⟩
  · rw [Below.heap_alloc _ _ _ (by simp), heap_alloc_new]
  · rw [show w0.heap.size + 1 = (w0.alloc a).heap.size by simp, heap_alloc_new]

set_option maxRecDepth 100000 in
set_option maxHeartbeats 4000000 in
theorem copiedCore_any (AF AR : Option Addr) (cF cR : Nat) (x : Co) (w : World) (hF : RowF w AF x.F) (hR : Row w AR x.ret) (h0 : x.F.length ≤ 1000000) (h1 : x.ret.length ≤ 1000000) (h2 : ∀ f ∈ x.F, f.S.length ≤ 1000000) :
    Calls Try.prog 99 #[.agg #[.slice AF x.F.length cF, .int .i64 x.v, .int .i64 x.e, .int .i64 x.x0, .int .i64 x.x1, .int .i64 x.x2, .slice AR x.ret.length cR]] w fun e w' =>
      ∃ ps vF vR, e = .returned (.agg #[vF, .int .i64 x.v, .int .i64 x.e, .int .i64 x.x0, .int .i64 x.x1, .int .i64 x.x2, vR]) ∧ CoI 42 (fun b => w.heap.size ≤ b) w' x ps vF vR ∧ Below w.heap.size w w' := by
  obtain ⟨ps, hp, hsF, h8, hS⟩ := hF.src
  have H2 := hid h2
  have H8 := hid h8
  have HS := hid hS
  have HP := hid hp
  clear h2 h8 hS hp
  go_enter Try.func99, Try.ntmps99
  go_wp2_with fail
  refine (cloneInt _ _ _ (x.ret.map inCells) _ (((hR.alloc _).alloc _).src) (by simp) h1).mono ?_
  rintro e wk ⟨v, rfl, ho, hk⟩
  obtain ⟨AR', cR', rfl, hr⟩ := own_rowI ho rfl
  clear ho
  obtain ⟨b1, b2, bs⟩ := heap2 w (.cells #[.slice AF x.F.length cF, .int .i64 x.v, .int .i64 x.e, .int .i64 x.x0, .int .i64 x.x1, .int .i64 x.x2, .slice AR x.ret.length cR] 65) (.cells #[.slice none 0 0, .int .i64 0, .int .i64 0, .int .i64 0, .int .i64 0, .int .i64 0, .slice none 0 0] 65)
  rw [bs] at hr
  replace hr : RowI (fun b => w.heap.size + 2 ≤ b ∧ b < wk.heap.size) wk AR' x.ret := hr.mono (fun b hl hb => ⟨hb, hl⟩)
  have hw : Below w.heap.size w wk := (bstep (boxed _ _) (boxed _ _)).trans (hk.mono (by simp; omega))
  have hz : w.heap.size + 2 ≤ wk.heap.size := (by have := hk.size; rw [bs] at this; exact this)
  replace b1 := (hk.block w.heap.size (by rw [bs]; omega)).trans b1
  replace b2 := (hk.block (w.heap.size + 1) (by rw [bs]; omega)).trans b2
  clear hk bs
  have p0 : wk.cell? ⟨w.heap.size, 0, none⟩ = some (.slice AF x.F.length cF) := cell_of_row wk _ 0 _ _ _ b1
  have p1 : wk.cell? ⟨w.heap.size, 1, none⟩ = some (.int .i64 x.v) := cell_of_row wk _ 1 _ _ _ b1
  have p2 : wk.cell? ⟨w.heap.size, 2, none⟩ = some (.int .i64 x.e) := cell_of_row wk _ 2 _ _ _ b1
  have p3 : wk.cell? ⟨w.heap.size, 3, none⟩ = some (.int .i64 x.x0) := cell_of_row wk _ 3 _ _ _ b1
  have p4 : wk.cell? ⟨w.heap.size, 4, none⟩ = some (.int .i64 x.x1) := cell_of_row wk _ 4 _ _ _ b1
  have p5 : wk.cell? ⟨w.heap.size, 5, none⟩ = some (.int .i64 x.x2) := cell_of_row wk _ 5 _ _ _ b1
  have p6 : wk.cell? ⟨w.heap.size, 6, none⟩ = some (.slice AR x.ret.length cR) := cell_of_row wk _ 6 _ _ _ b1
  have pf0 : wk.frozen? ⟨w.heap.size, 0, none⟩ = false := frozen_of_row wk _ 0 _ _ b1
  have pf1 : wk.frozen? ⟨w.heap.size, 1, none⟩ = false := frozen_of_row wk _ 1 _ _ b1
  have pf2 : wk.frozen? ⟨w.heap.size, 2, none⟩ = false := frozen_of_row wk _ 2 _ _ b1
  have pf3 : wk.frozen? ⟨w.heap.size, 3, none⟩ = false := frozen_of_row wk _ 3 _ _ b1
  have pf4 : wk.frozen? ⟨w.heap.size, 4, none⟩ = false := frozen_of_row wk _ 4 _ _ b1
  have pf5 : wk.frozen? ⟨w.heap.size, 5, none⟩ = false := frozen_of_row wk _ 5 _ _ b1
  have pf6 : wk.frozen? ⟨w.heap.size, 6, none⟩ = false := frozen_of_row wk _ 6 _ _ b1
  go_wp2_with fail
  have hw2 : Below w.heap.size w (wk.setCell ⟨w.heap.size, 6, none⟩ (.slice AR' x.ret.length cR')) := hw.setCell (by simp) _
  refine (cloneFr _ _ _ (fsCells x.F ps) _ (hsF.step hw2) (fsCells_len HP.out) h0).mono ?_
  rintro e wl ⟨v, rfl, ho, hk⟩
  obtain ⟨AF', cF', rfl, hsF2⟩ := own_src ho (fsCells_each H8.out) (fsCells_len HP.out) (fsCells_one _ _)
  clear hsF2
  have hs2 : (wk.setCell ⟨w.heap.size, 6, none⟩ (.slice AR' x.ret.length cR')).heap.size = wk.heap.size := by simp [World.setCell]
  have t1 : Turn (fun b => b = w.heap.size) wk (wk.setCell ⟨w.heap.size, 6, none⟩ (.slice AR' x.ret.length cR')) := (Turn.refl _ _).set (p := fun b => b = w.heap.size) rfl _ _
  have c1 : (wk.setCell ⟨w.heap.size, 6, none⟩ (.slice AR' x.ret.length cR')).heap[w.heap.size]? = some (.cells #[.slice AF x.F.length cF, .int .i64 x.v, .int .i64 x.e, .int .i64 x.x0, .int .i64 x.x1, .int .i64 x.x2, .slice AR' x.ret.length cR'] 65 (0, 0)) := heap_setCell_same wk _ _ _ _ _ b1
  replace hr := (hr.turn t1 (fun b _ hb e => by have h3 := hb.1; omega)).keep hk.size (fun b hl _ => hk.block b hl)
  replace b1 := (hk.block w.heap.size (by rw [hs2]; omega)).trans c1
  replace b2 := ((hk.block (w.heap.size + 1) (by rw [hs2]; omega)).trans (t1.block (w.heap.size + 1) (by omega) (by simp))).trans b2
  replace hw : Below w.heap.size w wl := hw2.trans (hk.mono (by rw [hs2]; omega))
  have hz2 : wk.heap.size ≤ wl.heap.size := by have := hk.size; rw [hs2] at this; exact this
  rw [hs2] at ho
  clear t1 c1 hw2 p0 pf0 p1 pf1 p2 pf2 p3 pf3 p4 pf4 p5 pf5 p6 pf6
  -- the upper bound of the row of retired nodes
  have p0 : wl.cell? ⟨w.heap.size, 0, none⟩ = some (.slice AF x.F.length cF) := cell_of_row wl _ 0 _ _ _ b1
  have p1 : wl.cell? ⟨w.heap.size, 1, none⟩ = some (.int .i64 x.v) := cell_of_row wl _ 1 _ _ _ b1
  have p2 : wl.cell? ⟨w.heap.size, 2, none⟩ = some (.int .i64 x.e) := cell_of_row wl _ 2 _ _ _ b1
  have p3 : wl.cell? ⟨w.heap.size, 3, none⟩ = some (.int .i64 x.x0) := cell_of_row wl _ 3 _ _ _ b1
  have p4 : wl.cell? ⟨w.heap.size, 4, none⟩ = some (.int .i64 x.x1) := cell_of_row wl _ 4 _ _ _ b1
  have p5 : wl.cell? ⟨w.heap.size, 5, none⟩ = some (.int .i64 x.x2) := cell_of_row wl _ 5 _ _ _ b1
  have p6 : wl.cell? ⟨w.heap.size, 6, none⟩ = some (.slice AR' x.ret.length cR') := cell_of_row wl _ 6 _ _ _ b1
  have pf0 : wl.frozen? ⟨w.heap.size, 0, none⟩ = false := frozen_of_row wl _ 0 _ _ b1
  have pf1 : wl.frozen? ⟨w.heap.size, 1, none⟩ = false := frozen_of_row wl _ 1 _ _ b1
  have pf2 : wl.frozen? ⟨w.heap.size, 2, none⟩ = false := frozen_of_row wl _ 2 _ _ b1
  have pf3 : wl.frozen? ⟨w.heap.size, 3, none⟩ = false := frozen_of_row wl _ 3 _ _ b1
  have pf4 : wl.frozen? ⟨w.heap.size, 4, none⟩ = false := frozen_of_row wl _ 4 _ _ b1
  have pf5 : wl.frozen? ⟨w.heap.size, 5, none⟩ = false := frozen_of_row wl _ 5 _ _ b1
  have pf6 : wl.frozen? ⟨w.heap.size, 6, none⟩ = false := frozen_of_row wl _ 6 _ _ b1
  go_wp2_with fail
  have t2 : Turn (fun b => b = w.heap.size) wl (wl.setCell ⟨w.heap.size, 0, none⟩ (.slice AF' x.F.length cF')) := (Turn.refl _ _).set (p := fun b => b = w.heap.size) rfl _ _
  replace b1 : (wl.setCell ⟨w.heap.size, 0, none⟩ (.slice AF' x.F.length cF')).heap[w.heap.size]? = some (.cells #[.slice AF' x.F.length cF', .int .i64 x.v, .int .i64 x.e, .int .i64 x.x0, .int .i64 x.x1, .int .i64 x.x2, .slice AR' x.ret.length cR'] 65 (0, 0)) := heap_setCell_same wl _ _ _ _ _ b1
  replace b2 := (t2.block (w.heap.size + 1) (by omega) (by simp)).trans b2
  replace hr := hr.turn t2 (fun b _ hb e => by have h3 := hb.1; omega)
  replace ho := own_turn ho t2 (fun g hg e => by have h3 := (ho.lt g hg).1; omega)
  replace hw := hw.setCell (p := ⟨w.heap.size, 0, none⟩) (by simp) (.slice AF' x.F.length cF')
  have hzm : wk.heap.size ≤ (wl.setCell ⟨w.heap.size, 0, none⟩ (.slice AF' x.F.length cF')).heap.size := Nat.le_trans hz2 t2.size
  clear t2 hz2 hk hs2 p0 pf0 p1 pf1 p2 pf2 p3 pf3 p4 pf4 p5 pf5 p6 pf6
  generalize wl.setCell ⟨w.heap.size, 0, none⟩ (.slice AF' x.F.length cF') = wm at *
  have F0 := Fl.start HP.out ho
  clear ho
  go_loopw [15] (fun i wr => ∃ k : Nat, k ≤ x.F.length ∧ i = .int .i64 k ∧ Fl x ps wk.heap.size (.slice AF' x.F.length cF') wm k wr) (fun i _ => x.F.length - (intOf i).toNat)
  case atStart => exact ⟨0, Nat.zero_le _, rfl, F0⟩
  case round =>
    obtain ⟨k, hkk, rfl, FL⟩ := hrel
    have hbr : Below w.heap.size w wr := hw.trans (FL.t.to_below hw.size (fun g hg => by have h3 := (FL.gl g hg).1; omega))
    have d1 := (FL.t.block w.heap.size (by omega) (fun e => by have h3 := (FL.gl _ e).1; omega)).trans b1
    have d2 := (FL.t.block (w.heap.size + 1) (by omega) (fun e => by have h3 := (FL.gl _ e).1; omega)).trans b2
    by_cases hlt : k < x.F.length
    · obtain ⟨g, rfl⟩ : ∃ g, AF' = some ⟨g, 0, none⟩ := by
        obtain ⟨ps2, _, ho2, _⟩ := FL.ex
        obtain ⟨g, cap, e, _⟩ := ho2.form (by omega)
        injection e with e1
        exact ⟨g, e1⟩
      obtain ⟨f, hf⟩ : ∃ f, x.F[k]? = some f := ⟨_, List.getElem?_eq_getElem hlt⟩
      have hf8 := H8.out f (List.mem_of_getElem? hf)
      have hfS := H2.out f (List.mem_of_getElem? hf)
      obtain ⟨⟨AS, cS⟩, hpk, hc, hfz⟩ := FL.look H8.out hf
      have rS := (HS.out k f _ hf hpk).step hbr
      obtain ⟨op, pc, Rs, xs⟩ := f
      dsimp only at hf8 hfS rS
      obtain ⟨r0, r1, r2, r3, r4, r5, r6, r7, rfl⟩ := fr8 hf8
      have u0 : wr.cell? ⟨g, k * 11, none⟩ = some (.int .i64 op) := hc 0 _ rfl
      have u1 : wr.cell? ⟨g, k * 11 + 1, none⟩ = some (.int .i64 pc) := hc 1 _ rfl
      have u2 : wr.cell? ⟨g, k * 11 + 2, none⟩ = some (.int .i64 r0) := hc 2 _ rfl
      have u3 : wr.cell? ⟨g, k * 11 + 3, none⟩ = some (.int .i64 r1) := hc 3 _ rfl
      have u4 : wr.cell? ⟨g, k * 11 + 4, none⟩ = some (.int .i64 r2) := hc 4 _ rfl
      have u5 : wr.cell? ⟨g, k * 11 + 5, none⟩ = some (.int .i64 r3) := hc 5 _ rfl
      have u6 : wr.cell? ⟨g, k * 11 + 6, none⟩ = some (.int .i64 r4) := hc 6 _ rfl
      have u7 : wr.cell? ⟨g, k * 11 + 7, none⟩ = some (.int .i64 r5) := hc 7 _ rfl
      have u8 : wr.cell? ⟨g, k * 11 + 8, none⟩ = some (.int .i64 r6) := hc 8 _ rfl
      have u9 : wr.cell? ⟨g, k * 11 + 9, none⟩ = some (.int .i64 r7) := hc 9 _ rfl
      have u10 : wr.cell? ⟨g, k * 11 + 10, none⟩ = some (.slice AS xs.length cS) := hc 10 _ rfl
      have c0 : wr.cell? ⟨w.heap.size, 0, none⟩ = some (.slice (some ⟨g, 0, none⟩) x.F.length cF') := cell_of_row wr _ 0 _ _ _ d1
      have hg1 : g < wr.heap.size := World.block_lt_of_cell? wr _ u0
      have HF := hid hf
      have HZ := hid hfz
      have kl : (k : Int) < (x.F.length : Int) := by omega
      clear hc hf hfz hpk hf8 d1 d2
      go_upto_region 6 with (fail)
      obtain ⟨hg2, hg3⟩ := FL.gl g rfl
      have hng : w.heap.size < wr.heap.size := by have := FL.t.size; omega
      go_region_with (first
          | (go_at_call 67; (with_reducible refine (copiedFrame_any AS cS op pc r0 r1 r2 r3 r4 r5 r6 r7 xs _ (rS.step ((Below.refl _ _).drew)) hfS).mono ?_); rintro e w3 ⟨A', c', rfl, hr3, hk3⟩; have hkk : Below wr.heap.size wr w3 := bstep ((Below.refl _ _).drew) hk3; have c1 := (hkk.cell hng).trans c0; have v0 := (hkk.cell hg1).trans u0; have v1 := (hkk.cell hg1).trans u1; have v2 := (hkk.cell hg1).trans u2; have v3 := (hkk.cell hg1).trans u3; have v4 := (hkk.cell hg1).trans u4; have v5 := (hkk.cell hg1).trans u5; have v6 := (hkk.cell hg1).trans u6; have v7 := (hkk.cell hg1).trans u7; have v8 := (hkk.cell hg1).trans u8; have v9 := (hkk.cell hg1).trans u9; have v10 := (hkk.cell hg1).trans u10; have z0 := (hkk.frozen hg1).trans (HZ.out (k * 11)); have z1 := (hkk.frozen hg1).trans (HZ.out (k * 11 + 1)); have z2 := (hkk.frozen hg1).trans (HZ.out (k * 11 + 2)); have z3 := (hkk.frozen hg1).trans (HZ.out (k * 11 + 3)); have z4 := (hkk.frozen hg1).trans (HZ.out (k * 11 + 4)); have z5 := (hkk.frozen hg1).trans (HZ.out (k * 11 + 5)); have z6 := (hkk.frozen hg1).trans (HZ.out (k * 11 + 6)); have z7 := (hkk.frozen hg1).trans (HZ.out (k * 11 + 7)); have z8 := (hkk.frozen hg1).trans (HZ.out (k * 11 + 8)); have z9 := (hkk.frozen hg1).trans (HZ.out (k * 11 + 9)); have z10 := (hkk.frozen hg1).trans (HZ.out (k * 11 + 10))))
      all_goals go_wp2_with fail
      all_goals exact ⟨⟨k + 1, by omega, by go_num, FL.next H8.out HF.out hkk (hr3.mono (fun b _ hb => hb))⟩, by simp [intOf]; omega⟩
    · obtain ⟨ps3, CI⟩ := FL.done (lo := w.heap.size + 2) (cR := cR') H8.out (by omega) hz hr hzm
      have p0 : wr.cell? ⟨w.heap.size, 0, none⟩ = some (.slice AF' x.F.length cF') := cell_of_row wr _ 0 _ _ _ d1
      have p1 : wr.cell? ⟨w.heap.size, 1, none⟩ = some (.int .i64 x.v) := cell_of_row wr _ 1 _ _ _ d1
      have p2 : wr.cell? ⟨w.heap.size, 2, none⟩ = some (.int .i64 x.e) := cell_of_row wr _ 2 _ _ _ d1
      have p3 : wr.cell? ⟨w.heap.size, 3, none⟩ = some (.int .i64 x.x0) := cell_of_row wr _ 3 _ _ _ d1
      have p4 : wr.cell? ⟨w.heap.size, 4, none⟩ = some (.int .i64 x.x1) := cell_of_row wr _ 4 _ _ _ d1
      have p5 : wr.cell? ⟨w.heap.size, 5, none⟩ = some (.int .i64 x.x2) := cell_of_row wr _ 5 _ _ _ d1
      have p6 : wr.cell? ⟨w.heap.size, 6, none⟩ = some (.slice AR' x.ret.length cR') := cell_of_row wr _ 6 _ _ _ d1
      have pf0 : wr.frozen? ⟨w.heap.size, 0, none⟩ = false := frozen_of_row wr _ 0 _ _ d1
      have pf1 : wr.frozen? ⟨w.heap.size, 1, none⟩ = false := frozen_of_row wr _ 1 _ _ d1
      have pf2 : wr.frozen? ⟨w.heap.size, 2, none⟩ = false := frozen_of_row wr _ 2 _ _ d1
      have pf3 : wr.frozen? ⟨w.heap.size, 3, none⟩ = false := frozen_of_row wr _ 3 _ _ d1
      have pf4 : wr.frozen? ⟨w.heap.size, 4, none⟩ = false := frozen_of_row wr _ 4 _ _ d1
      have pf5 : wr.frozen? ⟨w.heap.size, 5, none⟩ = false := frozen_of_row wr _ 5 _ _ d1
      have pf6 : wr.frozen? ⟨w.heap.size, 6, none⟩ = false := frozen_of_row wr _ 6 _ _ d1
      have q0 : wr.cell? ⟨w.heap.size + 1, 0, none⟩ = some (.slice none 0 0) := cell_of_row wr _ 0 _ _ _ d2
      have q1 : wr.cell? ⟨w.heap.size + 1, 1, none⟩ = some (.int .i64 0) := cell_of_row wr _ 1 _ _ _ d2
      have q2 : wr.cell? ⟨w.heap.size + 1, 2, none⟩ = some (.int .i64 0) := cell_of_row wr _ 2 _ _ _ d2
      have q3 : wr.cell? ⟨w.heap.size + 1, 3, none⟩ = some (.int .i64 0) := cell_of_row wr _ 3 _ _ _ d2
      have q4 : wr.cell? ⟨w.heap.size + 1, 4, none⟩ = some (.int .i64 0) := cell_of_row wr _ 4 _ _ _ d2
      have q5 : wr.cell? ⟨w.heap.size + 1, 5, none⟩ = some (.int .i64 0) := cell_of_row wr _ 5 _ _ _ d2
      have q6 : wr.cell? ⟨w.heap.size + 1, 6, none⟩ = some (.slice none 0 0) := cell_of_row wr _ 6 _ _ _ d2
      have qf0 : wr.frozen? ⟨w.heap.size + 1, 0, none⟩ = false := frozen_of_row wr _ 0 _ _ d2
      have qf1 : wr.frozen? ⟨w.heap.size + 1, 1, none⟩ = false := frozen_of_row wr _ 1 _ _ d2
      have qf2 : wr.frozen? ⟨w.heap.size + 1, 2, none⟩ = false := frozen_of_row wr _ 2 _ _ d2
      have qf3 : wr.frozen? ⟨w.heap.size + 1, 3, none⟩ = false := frozen_of_row wr _ 3 _ _ d2
      have qf4 : wr.frozen? ⟨w.heap.size + 1, 4, none⟩ = false := frozen_of_row wr _ 4 _ _ d2
      have qf5 : wr.frozen? ⟨w.heap.size + 1, 5, none⟩ = false := frozen_of_row wr _ 5 _ _ d2
      have qf6 : wr.frozen? ⟨w.heap.size + 1, 6, none⟩ = false := frozen_of_row wr _ 6 _ _ d2
      go_wp2
      refine bodyPost_ret (v := .agg #[.slice AF' x.F.length cF', .int .i64 x.v, .int .i64 x.e, .int .i64 x.x0, .int .i64 x.x1, .int .i64 x.x2, .slice AR' x.ret.length cR']) (by simp [results, Try.results99, go_sem, q0, q1, q2, q3, q4, q5, q6]) rfl ?_
      have key : ∀ w', Turn (fun b => b = w.heap.size + 1) wr w' → CoI 42 (fun b => w.heap.size ≤ b) w' x ps3 (.slice AF' x.F.length cF') (.slice AR' x.ret.length cR') ∧ Below w.heap.size w w' := fun w' hT =>
        ⟨(CI.turn hT (fun b _ hb e => by omega)).mono (fun b _ hb => by omega), hbr.trans (hT.to_below hbr.size (fun g hg => by omega))⟩
      refine ⟨ps3, _, _, rfl, ?_⟩
      exact key _ (by repeat (first | (with_reducible exact Turn.refl _ _) | (with_reducible refine Turn.set ?_ (by simp) _ _)))
end Go.Proofs.Ytpagekhgeahmaaa
