/- The document's example for layer 2 holds, whatever the world. -/
import Derived.Test.YtbpkndjnohdnjaaVars
namespace Go.Proofs.Ytbpkndjnohdnjaa
open Go.RowKit
set_option linter.unusedVariables false
set_option linter.unusedSimpArgs false

theorem new_one (w : World) : Calls Try.prog 13 #[.int .i64 1] w (RetMem2 w (mNew 1) (.int .i64 0)) := new_yes 1 w (by omega) (by omega)

set_option maxRecDepth 100000 in
set_option maxHeartbeats 4000000 in
theorem shown_any (w : World) : Calls Try.prog 11 #[] w fun e w' => e = .returned (.bool true) ∧ Below w.heap.size w w' := by
  have l1 : (mNew 1).W.length = 132 := by decide +kernel
  have l2 : (mNew 1).G.length = 2 := by decide +kernel
  have L1 := hid l1
  have L2 := hid l2
  clear l1 l2
  have x1 : ((mNew 1).W.length : Int) = 132 := by rw [L1.out]; rfl
  have X1 := hid x1
  have t1 : (((mNew 1).W.length : Int) == 132) = true := by rw [x1]; rfl
  have T1 := hid t1
  clear t1
  clear x1
  have t2 : (mLoad (mNew 1) 131).bad = true := by decide +kernel
  have T2 := hid t2
  clear t2
  have t3 : (mTurn (mNew 1) 1 1).bad = false := by decide +kernel
  have T3 := hid t3
  clear t3
  have t4 : (mVal (mStore (mTurn (mNew 1) 1 1) 131 7) 131 == 7) = true := by decide +kernel
  have T4 := hid t4
  clear t4
  have t5 : (mLoad (mStore (mTurn (mNew 1) 1 1) 131 7) 131).bad = false := by decide +kernel
  have T5 := hid t5
  clear t5
  have t6 : mIs (mStore (mTurn (mNew 1) 1 1) 131 7) 131 7 = true := by decide +kernel
  have T6 := hid t6
  clear t6
  have l7 : (mCas (mStore (mTurn (mNew 1) 1 1) 131 7) 131 7 8).W.length = 132 := by decide +kernel
  have L7 := hid l7
  have t7 : (((mCas (mStore (mTurn (mNew 1) 1 1) 131 7) 131 7 8).W.length : Int) == 132) = true := by rw [l7]; rfl
  have T7 := hid t7
  clear t7
  have t8 : (131 : Int) < ((mCas (mStore (mTurn (mNew 1) 1 1) 131 7) 131 7 8).W.length : Int) := by rw [l7]; decide
  have T8 := hid t8
  clear t8
  clear l7
  have T9 := hid (show (mCas (mStore (mTurn (mNew 1) 1 1) 131 7) 131 7 8).W.getD 131 0 = 8 by decide +kernel)
  have t10 : (mNode (mNew 1).G 131 == 1) = true := by decide +kernel
  have T10 := hid t10
  clear t10
  have t11 : (((mCount (mTurn (mNew 1) 1 1).G 1 : Nat) : Int) == 1) = true := by decide +kernel
  have T11 := hid t11
  clear t11
  have t12 : mRight (mCas (mStore (mTurn (mNew 1) 1 1) 131 7) 131 7 8) = true := by decide +kernel
  have T12 := hid t12
  clear t12
  have t13 : mSame (mLoad (mStore (mTurn (mNew 1) 1 1) 131 7) 131) (mCas (mStore (mTurn (mNew 1) 1 1) 131 7) 131 7 8) = false := by decide +kernel
  have T13 := hid t13
  clear t13
  have s1 : (mTurn (mNew 1) 1 1).W.length ≤ 1000000 ∧ (mTurn (mNew 1) 1 1).G.length ≤ 1000000 ∧ 2 ≤ (mTurn (mNew 1) 1 1).G.length := by decide +kernel
  have s2 : (mStore (mTurn (mNew 1) 1 1) 131 7).W.length ≤ 1000000 ∧ (mStore (mTurn (mNew 1) 1 1) 131 7).G.length ≤ 1000000 ∧ 2 ≤ (mStore (mTurn (mNew 1) 1 1) 131 7).G.length := by decide +kernel
  have s3 : (mLoad (mStore (mTurn (mNew 1) 1 1) 131 7) 131).W.length ≤ 1000000 ∧ (mLoad (mStore (mTurn (mNew 1) 1 1) 131 7) 131).G.length ≤ 1000000 := by decide +kernel
  have s4 : (mCas (mStore (mTurn (mNew 1) 1 1) 131 7) 131 7 8).W.length ≤ 1000000 ∧ (mCas (mStore (mTurn (mNew 1) 1 1) 131 7) 131 7 8).G.length ≤ 1000000 := by decide +kernel
  go_enter Try.func11, Try.ntmps11
  go_wp2_with fail
  refine (new_one _).mono ?_
  rintro e w1 ⟨A1, B1, c1, d1, rfl, R1, S1, hk⟩
  have hb : Below w.heap.size w w1 := hk
  clear hk
  go_upto_region 2 with (fail)
  go_cut [3, 4] from 15 (fun a3 a4 wx => ∃ (v : Nat) (A2 B2 : Option Addr) (c2 d2 : Nat), a3 = .pointer (some ⟨v, 0, none⟩) ∧ a4 = .int .i64 (mVal (mNew 1) 131) ∧ Vr wx v (mLoad (mNew 1) 131) A2 B2 c2 d2 ∧ Below (w1.alloc (.cells #[.slice A1 (mNew 1).W.length c1, .slice B1 (mNew 1).G.length d1, .bool (mNew 1).bad] 24)).heap.size (w1.alloc (.cells #[.slice A1 (mNew 1).W.length c1, .slice B1 (mNew 1).G.length d1, .bool (mNew 1).bad] 24)) wx)
  case first =>
    go_region_held3 (fun w' => w'.cell? ⟨w1.heap.size, 0, none⟩ = some (.slice A1 (mNew 1).W.length c1) ∧ w'.cell? ⟨w1.heap.size, 1, none⟩ = some (.slice B1 (mNew 1).G.length d1) ∧ w'.cell? ⟨w1.heap.size, 2, none⟩ = some (.bool (mNew 1).bad)) (first | go_keep | (refine keepS hk ?_; simp [*]) | (refine keepS hk ?_; simp) | (refine keepS (bstep hk (boxed _ _)) ?_; simp) | exact keepT (by omega) (keepS hk (by simp [go_sem])))
      (first
        | (go_at_call 19; refine (at_any _ _ _ (by omega) (by omega) (by omega) (by omega)).mono ?_; rintro e w' ⟨rfl, rfl⟩)
        | (go_at_call 26; refine (load_any _ _ _ _ (mNew 1) 131 _ (R1.step (by repeat (first | exact Below.refl _ _ | apply up | apply dr | apply drN))) (S1.step (by repeat (first | exact Below.refl _ _ | apply up | apply dr | apply drN))) (by rw [L1.out]; omega) (by rw [L2.out]; omega) (by rw [L2.out]; omega) (by omega) (by omega)).mono ?_; rintro e wk ⟨A2, B2, c2, d2, rfl, R2, S2, hk⟩; obtain ⟨gc, gf⟩ := bcell hk))
    all_goals go_wp2_with fail
    all_goals go_meet
    · exact ⟨_, _, _, _, _, rfl, rfl, Vr.box R2 S2, bstep (bstep (by repeat (first | exact Below.refl _ _ | apply up | apply dr | apply drN)) hk) (boxed _ _)⟩
    all_goals
      have hz1 : wk.heap[w1.heap.size + 1]? = some (.cells #[.slice none 0 0, .slice none 0 0, .bool false] 24 (0, 0)) := (hk.block _ (by simp)).trans (heap_alloc2_new w1 _ _)
      exact ⟨_, _, _, _, _, rfl, rfl, ⟨set3 hz1, R2.far3 hz1 _ _ _, S2.far3 hz1 _ _ _⟩, keep3 (bstep (by repeat (first | exact Below.refl _ _ | apply up | apply dr | apply drN)) hk) (r := w1.heap.size + 1) (by simp) _ _ _⟩
  case rest =>
    obtain ⟨v, A2, B2, c2, d2, rfl, rfl, V2, hk⟩ := hcut
    replace hb := bstep hb (bstep (by repeat (first | exact Below.refl _ _ | apply up | apply dr | apply drN)) hk)
    have V1 := (Vr.box (c := c1) (c' := d1) R1 S1).step hk
    clear hk R1 S1
    have m10 := V1.c0; have m11 := V1.c1; have m12 := V1.c2; have m1l := V1.lt
    have m20 := V2.c0; have m21 := V2.c1; have m22 := V2.c2; have m2l := V2.lt
    go_wp2_with fail
    refine (turn_any _ _ _ _ (mNew 1) 1 1 _ (V1.r1.step (by repeat (first | exact Below.refl _ _ | apply up | apply dr | apply drN))) (V1.r2.step (by repeat (first | exact Below.refl _ _ | apply up | apply dr | apply drN))) (by rw [L1.out]; omega) (by rw [L2.out]; omega)).mono ?_
    rintro e w3 ⟨A3, B3, c3, d3, rfl, R3, S3, hk⟩
    replace hb := bstep hb (bstep (by repeat (first | exact Below.refl _ _ | apply up | apply dr | apply drN)) hk)
    replace V1 := V1.step (bstep (by repeat (first | exact Below.refl _ _ | apply up | apply dr | apply drN)) hk)
    replace V2 := V2.step (bstep (by repeat (first | exact Below.refl _ _ | apply up | apply dr | apply drN)) hk)
    clear hk
    clear m10 m11 m12 m1l
    have m10 := V1.c0; have m11 := V1.c1; have m12 := V1.c2; have m1l := V1.lt
    clear m20 m21 m22 m2l
    have m20 := V2.c0; have m21 := V2.c1; have m22 := V2.c2; have m2l := V2.lt
    go_wp2_with fail
    refine (store_any _ _ _ _ (mTurn (mNew 1) 1 1) 131 7 _ (R3.step (by repeat (first | exact Below.refl _ _ | apply up | apply dr | apply drN))) (S3.step (by repeat (first | exact Below.refl _ _ | apply up | apply dr | apply drN))) s1.1 s1.2.1 s1.2.2 (by omega) (by omega)).mono ?_
    rintro e w4 ⟨A4, B4, c4, d4, rfl, R4, S4, hk⟩
    replace hb := bstep hb (bstep (by repeat (first | exact Below.refl _ _ | apply up | apply dr | apply drN)) hk)
    replace V1 := V1.step (bstep (by repeat (first | exact Below.refl _ _ | apply up | apply dr | apply drN)) hk)
    replace V2 := V2.step (bstep (by repeat (first | exact Below.refl _ _ | apply up | apply dr | apply drN)) hk)
    have V3 := (Vr.box (c := c3) (c' := d3) R3 S3).step (bstep (by repeat (first | exact Below.refl _ _ | apply up | apply dr | apply drN)) hk)
    clear hk
    clear m10 m11 m12 m1l
    have m10 := V1.c0; have m11 := V1.c1; have m12 := V1.c2; have m1l := V1.lt
    clear m20 m21 m22 m2l
    have m20 := V2.c0; have m21 := V2.c1; have m22 := V2.c2; have m2l := V2.lt
    have m30 := V3.c0; have m31 := V3.c1; have m32 := V3.c2; have m3l := V3.lt
    go_wp2_with fail
    refine (load_any _ _ _ _ (mStore (mTurn (mNew 1) 1 1) 131 7) 131 _ (R4.step (by repeat (first | exact Below.refl _ _ | apply up | apply dr | apply drN))) (S4.step (by repeat (first | exact Below.refl _ _ | apply up | apply dr | apply drN))) s2.1 s2.2.1 s2.2.2 (by omega) (by omega)).mono ?_
    rintro e w5 ⟨A5, B5, c5, d5, rfl, R5, S5, hk⟩
    replace hb := bstep hb (bstep (by repeat (first | exact Below.refl _ _ | apply up | apply dr | apply drN)) hk)
    replace V1 := V1.step (bstep (by repeat (first | exact Below.refl _ _ | apply up | apply dr | apply drN)) hk)
    replace V2 := V2.step (bstep (by repeat (first | exact Below.refl _ _ | apply up | apply dr | apply drN)) hk)
    replace V3 := V3.step (bstep (by repeat (first | exact Below.refl _ _ | apply up | apply dr | apply drN)) hk)
    have V4 := (Vr.box (c := c4) (c' := d4) R4 S4).step (bstep (by repeat (first | exact Below.refl _ _ | apply up | apply dr | apply drN)) hk)
    clear hk
    clear m10 m11 m12 m1l
    have m10 := V1.c0; have m11 := V1.c1; have m12 := V1.c2; have m1l := V1.lt
    clear m20 m21 m22 m2l
    have m20 := V2.c0; have m21 := V2.c1; have m22 := V2.c2; have m2l := V2.lt
    clear m30 m31 m32 m3l
    have m30 := V3.c0; have m31 := V3.c1; have m32 := V3.c2; have m3l := V3.lt
    have m40 := V4.c0; have m41 := V4.c1; have m42 := V4.c2; have m4l := V4.lt
    go_wp2_with fail
    refine (cas_any _ _ _ _ (mStore (mTurn (mNew 1) 1 1) 131 7) 131 7 8 _ (V4.r1.step (by repeat (first | exact Below.refl _ _ | apply up | apply dr | apply drN))) (V4.r2.step (by repeat (first | exact Below.refl _ _ | apply up | apply dr | apply drN))) s2.1 s2.2.1 s2.2.2 (by omega) (by omega)).mono ?_
    rintro e w6 ⟨A6, B6, c6, d6, rfl, R6, S6, hk⟩
    replace hb := bstep hb (bstep (by repeat (first | exact Below.refl _ _ | apply up | apply dr | apply drN)) hk)
    replace V1 := V1.step (bstep (by repeat (first | exact Below.refl _ _ | apply up | apply dr | apply drN)) hk)
    replace V2 := V2.step (bstep (by repeat (first | exact Below.refl _ _ | apply up | apply dr | apply drN)) hk)
    replace V3 := V3.step (bstep (by repeat (first | exact Below.refl _ _ | apply up | apply dr | apply drN)) hk)
    replace V4 := V4.step (bstep (by repeat (first | exact Below.refl _ _ | apply up | apply dr | apply drN)) hk)
    have V5 := (Vr.box (c := c5) (c' := d5) R5 S5).step (bstep (by repeat (first | exact Below.refl _ _ | apply up | apply dr | apply drN)) hk)
    clear hk
    clear m10 m11 m12 m1l
    have m10 := V1.c0; have m11 := V1.c1; have m12 := V1.c2; have m1l := V1.lt
    clear m20 m21 m22 m2l
    have m20 := V2.c0; have m21 := V2.c1; have m22 := V2.c2; have m2l := V2.lt
    clear m30 m31 m32 m3l
    have m30 := V3.c0; have m31 := V3.c1; have m32 := V3.c2; have m3l := V3.lt
    clear m40 m41 m42 m4l
    have m40 := V4.c0; have m41 := V4.c1; have m42 := V4.c2; have m4l := V4.lt
    have m50 := V5.c0; have m51 := V5.c1; have m52 := V5.c2; have m5l := V5.lt
    have t1 := T1.out; have t2 := T2.out; have t3 := T3.out; have t4 := T4.out; have t5 := T5.out; have t6 := T6.out; have t7 := T7.out; have t8 := T8.out; have t10 := T10.out; have t11 := T11.out; have t12 := T12.out; have t13 := T13.out
    obtain ⟨g6, o6, x6, rfl, hg6, X6, hc6⟩ := R6.atX 131 (by rw [L7.out]; omega)
    obtain rfl : x6 = 8 := X6.out.symm.trans T9.out
    go_wp2_with fail
    refine (at_any _ _ _ (by omega) (by omega) (by omega) (by omega)).mono ?_
    rintro e w' ⟨rfl, rfl⟩
    go_wp2_with fail
    refine (node_any _ _ _ _ (mNew 1) 131 _ (by rw [L2.out]; omega) (by rw [L2.out]; omega) (by omega) (by omega)).mono ?_
    rintro e w7 ⟨rfl, hk⟩
    replace hb := bstep hb (bstep (by repeat (first | exact Below.refl _ _ | apply up | apply dr | apply drN)) hk)
    replace V1 := V1.step (bstep (by repeat (first | exact Below.refl _ _ | apply up | apply dr | apply drN)) hk)
    replace V2 := V2.step (bstep (by repeat (first | exact Below.refl _ _ | apply up | apply dr | apply drN)) hk)
    replace V3 := V3.step (bstep (by repeat (first | exact Below.refl _ _ | apply up | apply dr | apply drN)) hk)
    replace V4 := V4.step (bstep (by repeat (first | exact Below.refl _ _ | apply up | apply dr | apply drN)) hk)
    replace V5 := V5.step (bstep (by repeat (first | exact Below.refl _ _ | apply up | apply dr | apply drN)) hk)
    have V6 := (Vr.box (c := c6) (c' := d6) R6 S6).step (bstep (by repeat (first | exact Below.refl _ _ | apply up | apply dr | apply drN)) hk)
    clear hk
    clear m10 m11 m12 m1l
    have m10 := V1.c0; have m11 := V1.c1; have m12 := V1.c2; have m1l := V1.lt
    clear m20 m21 m22 m2l
    have m20 := V2.c0; have m21 := V2.c1; have m22 := V2.c2; have m2l := V2.lt
    clear m30 m31 m32 m3l
    have m30 := V3.c0; have m31 := V3.c1; have m32 := V3.c2; have m3l := V3.lt
    clear m40 m41 m42 m4l
    have m40 := V4.c0; have m41 := V4.c1; have m42 := V4.c2; have m4l := V4.lt
    clear m50 m51 m52 m5l
    have m50 := V5.c0; have m51 := V5.c1; have m52 := V5.c2; have m5l := V5.lt
    have m60 := V6.c0; have m61 := V6.c1; have m62 := V6.c2; have m6l := V6.lt
    go_wp2_with fail
    refine (count_any _ _ _ _ (mTurn (mNew 1) 1 1) 1 _ (V3.r2.step (by repeat (first | exact Below.refl _ _ | apply up | apply dr | apply drN))) (by omega)).mono ?_
    rintro e w8 ⟨rfl, hk⟩
    replace hb := bstep hb (bstep (by repeat (first | exact Below.refl _ _ | apply up | apply dr | apply drN)) hk)
    replace V1 := V1.step (bstep (by repeat (first | exact Below.refl _ _ | apply up | apply dr | apply drN)) hk)
    replace V2 := V2.step (bstep (by repeat (first | exact Below.refl _ _ | apply up | apply dr | apply drN)) hk)
    replace V3 := V3.step (bstep (by repeat (first | exact Below.refl _ _ | apply up | apply dr | apply drN)) hk)
    replace V4 := V4.step (bstep (by repeat (first | exact Below.refl _ _ | apply up | apply dr | apply drN)) hk)
    replace V5 := V5.step (bstep (by repeat (first | exact Below.refl _ _ | apply up | apply dr | apply drN)) hk)
    replace V6 := V6.step (bstep (by repeat (first | exact Below.refl _ _ | apply up | apply dr | apply drN)) hk)
    clear hk
    clear m10 m11 m12 m1l
    have m10 := V1.c0; have m11 := V1.c1; have m12 := V1.c2; have m1l := V1.lt
    clear m20 m21 m22 m2l
    have m20 := V2.c0; have m21 := V2.c1; have m22 := V2.c2; have m2l := V2.lt
    clear m30 m31 m32 m3l
    have m30 := V3.c0; have m31 := V3.c1; have m32 := V3.c2; have m3l := V3.lt
    clear m40 m41 m42 m4l
    have m40 := V4.c0; have m41 := V4.c1; have m42 := V4.c2; have m4l := V4.lt
    clear m50 m51 m52 m5l
    have m50 := V5.c0; have m51 := V5.c1; have m52 := V5.c2; have m5l := V5.lt
    clear m60 m61 m62 m6l
    have m60 := V6.c0; have m61 := V6.c1; have m62 := V6.c2; have m6l := V6.lt
    go_wp2_with fail
    refine (right_any _ _ _ _ (mCas (mStore (mTurn (mNew 1) 1 1) 131 7) 131 7 8) _ (V6.r2.step (by repeat (first | exact Below.refl _ _ | apply up | apply dr | apply drN))) (by omega) (by omega)).mono ?_
    rintro e w9 ⟨rfl, hk⟩
    replace hb := bstep hb (bstep (by repeat (first | exact Below.refl _ _ | apply up | apply dr | apply drN)) hk)
    replace V1 := V1.step (bstep (by repeat (first | exact Below.refl _ _ | apply up | apply dr | apply drN)) hk)
    replace V2 := V2.step (bstep (by repeat (first | exact Below.refl _ _ | apply up | apply dr | apply drN)) hk)
    replace V3 := V3.step (bstep (by repeat (first | exact Below.refl _ _ | apply up | apply dr | apply drN)) hk)
    replace V4 := V4.step (bstep (by repeat (first | exact Below.refl _ _ | apply up | apply dr | apply drN)) hk)
    replace V5 := V5.step (bstep (by repeat (first | exact Below.refl _ _ | apply up | apply dr | apply drN)) hk)
    replace V6 := V6.step (bstep (by repeat (first | exact Below.refl _ _ | apply up | apply dr | apply drN)) hk)
    clear hk
    clear m10 m11 m12 m1l
    have m10 := V1.c0; have m11 := V1.c1; have m12 := V1.c2; have m1l := V1.lt
    clear m20 m21 m22 m2l
    have m20 := V2.c0; have m21 := V2.c1; have m22 := V2.c2; have m2l := V2.lt
    clear m30 m31 m32 m3l
    have m30 := V3.c0; have m31 := V3.c1; have m32 := V3.c2; have m3l := V3.lt
    clear m40 m41 m42 m4l
    have m40 := V4.c0; have m41 := V4.c1; have m42 := V4.c2; have m4l := V4.lt
    clear m50 m51 m52 m5l
    have m50 := V5.c0; have m51 := V5.c1; have m52 := V5.c2; have m5l := V5.lt
    clear m60 m61 m62 m6l
    have m60 := V6.c0; have m61 := V6.c1; have m62 := V6.c2; have m6l := V6.lt
    go_wp2_with fail
    refine (same_any _ _ _ _ _ _ _ _ (mLoad (mStore (mTurn (mNew 1) 1 1) 131 7) 131) (mCas (mStore (mTurn (mNew 1) 1 1) 131 7) 131 7 8) _ (V5.r1.step (by repeat (first | exact Below.refl _ _ | apply up | apply dr | apply drN))) (V5.r2.step (by repeat (first | exact Below.refl _ _ | apply up | apply dr | apply drN))) (V6.r1.step (by repeat (first | exact Below.refl _ _ | apply up | apply dr | apply drN))) (V6.r2.step (by repeat (first | exact Below.refl _ _ | apply up | apply dr | apply drN))) (by omega) (by omega)).mono ?_
    rintro e w10 ⟨rfl, hk⟩
    replace hb := bstep hb (bstep (by repeat (first | exact Below.refl _ _ | apply up | apply dr | apply drN)) hk)
    replace V1 := V1.step (bstep (by repeat (first | exact Below.refl _ _ | apply up | apply dr | apply drN)) hk)
    replace V2 := V2.step (bstep (by repeat (first | exact Below.refl _ _ | apply up | apply dr | apply drN)) hk)
    replace V3 := V3.step (bstep (by repeat (first | exact Below.refl _ _ | apply up | apply dr | apply drN)) hk)
    replace V4 := V4.step (bstep (by repeat (first | exact Below.refl _ _ | apply up | apply dr | apply drN)) hk)
    replace V5 := V5.step (bstep (by repeat (first | exact Below.refl _ _ | apply up | apply dr | apply drN)) hk)
    replace V6 := V6.step (bstep (by repeat (first | exact Below.refl _ _ | apply up | apply dr | apply drN)) hk)
    clear hk
    go_wp2
    go_ret
    exact ⟨rfl, hb⟩
end Go.Proofs.Ytbpkndjnohdnjaa
