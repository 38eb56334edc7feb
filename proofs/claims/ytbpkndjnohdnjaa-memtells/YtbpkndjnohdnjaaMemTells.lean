/- For every two arenas, every two ints and every uint8, the law MemTells (new arenas, which are right, which the same, places, whose they are, and how many nodes are something, are as the document says) returns true, and the argument reads afterwards as before. No conditions. -/
import Derived.Test.YtbpkndjnohdnjaaRows
import Derived.Test.YtbpkndjnohdnjaaShown2
import Derived.Test.YtbpkndjnohdnjaaLaw
import Derived.Test.YtbpkndjnohdnjaaOpen2
import Derived.Test.YtbpkndjnohdnjaaSmall
namespace Go.Proofs.Ytbpkndjnohdnjaa
namespace MemTells
open Go.ChangeShapes Go.WideShapes Go.ChangeAt Go.RowKit
set_option linter.unusedVariables false
set_option linter.unusedSimpArgs false

theorem own : ownKnob Try.prog.godebug = none := by kernel_rfl

set_option maxRecDepth 100000 in
set_option maxHeartbeats 4000000 in
theorem walk (A1 B1 : Option Addr) (c1 d1 : Nat) (m : Ar) (A2 B2 : Option Addr) (c2 d2 : Nat) (m2 : Ar) (n p k : Int) (w : World) (R1 : Row w A1 m.W) (S1 : Row w B1 m.G) (l1 : m.W.length ≤ maxLen) (l2 : m.G.length ≤ maxLen) (R2 : Row w A2 m2.W) (S2 : Row w B2 m2.G) (l3 : m2.W.length ≤ maxLen) (l4 : m2.G.length ≤ maxLen) (n0 : -9223372036854775808 ≤ n) (n1 : n ≤ 9223372036854775807) (p0 : -9223372036854775808 ≤ p) (p1 : p ≤ 9223372036854775807) (k0 : 0 ≤ k) (k1 : k ≤ 255) :
    Calls Try.prog 3 #[.agg #[.slice A1 m.W.length c1, .slice B1 m.G.length d1, .bool m.bad, .slice A2 m2.W.length c2, .slice B2 m2.G.length d2, .bool m2.bad, .int .i64 n, .int .i64 p, .int .u8 k]] w fun e w' => e = .returned (.bool true) ∧ Below w.heap.size w w' := by
  cases q1 : mSmall m
  · go_enter Try.func3, Try.ntmps3
    go_wp2_with fail
    refine (shown_any _).mono ?_
    rintro e w1 ⟨rfl, hk⟩
    have hb : Below w.heap.size w w1 := bstep (bstep (bstep (boxed _ _) (boxed _ _)) (boxed _ _)) hk
    have V1 : Vr w1 (w.heap.size + 1) m A1 B1 c1 d1 := Vr.at_ (by simp) (((Vr.box (w := w.alloc _) (c := c1) (c' := d1) (R1.alloc _) (S1.alloc _)).step (boxed _ _)).step hk)
    have V2 : Vr w1 (w.heap.size + 1 + 1) m2 A2 B2 c2 d2 := Vr.at_ (by simp) ((Vr.box (w := (w.alloc _).alloc _) (c := c2) (c' := d2) ((R2.alloc _).alloc _) ((S2.alloc _).alloc _)).step hk)
    clear hk
    have m10 := V1.c0; have m11 := V1.c1; have m12 := V1.c2; have m1l := V1.lt
    have m20 := V2.c0; have m21 := V2.c1; have m22 := V2.c2; have m2l := V2.lt
    go_wp2_with fail
    refine (small_any _ _ _ _ m _ l2 l1).mono ?_
    rintro e w2 ⟨rfl, hk⟩
    replace hb := bstep hb (bstep (by repeat (first | exact Below.refl _ _ | apply up | apply dr | apply drN)) hk)
    replace V1 := V1.step (bstep (by repeat (first | exact Below.refl _ _ | apply up | apply dr | apply drN)) hk)
    replace V2 := V2.step (bstep (by repeat (first | exact Below.refl _ _ | apply up | apply dr | apply drN)) hk)
    clear hk
    clear m10 m11 m12 m1l
    have m10 := V1.c0; have m11 := V1.c1; have m12 := V1.c2; have m1l := V1.lt
    clear m20 m21 m22 m2l
    have m20 := V2.c0; have m21 := V2.c1; have m22 := V2.c2; have m2l := V2.lt
    go_wp2
    go_ret
    exact ⟨rfl, hb⟩
  · cases q2 : mSmall m2
    · go_enter Try.func3, Try.ntmps3
      go_wp2_with fail
      refine (shown_any _).mono ?_
      rintro e w1 ⟨rfl, hk⟩
      have hb : Below w.heap.size w w1 := bstep (bstep (bstep (boxed _ _) (boxed _ _)) (boxed _ _)) hk
      have V1 : Vr w1 (w.heap.size + 1) m A1 B1 c1 d1 := Vr.at_ (by simp) (((Vr.box (w := w.alloc _) (c := c1) (c' := d1) (R1.alloc _) (S1.alloc _)).step (boxed _ _)).step hk)
      have V2 : Vr w1 (w.heap.size + 1 + 1) m2 A2 B2 c2 d2 := Vr.at_ (by simp) ((Vr.box (w := (w.alloc _).alloc _) (c := c2) (c' := d2) ((R2.alloc _).alloc _) ((S2.alloc _).alloc _)).step hk)
      clear hk
      have m10 := V1.c0; have m11 := V1.c1; have m12 := V1.c2; have m1l := V1.lt
      have m20 := V2.c0; have m21 := V2.c1; have m22 := V2.c2; have m2l := V2.lt
      go_wp2_with fail
      refine (small_any _ _ _ _ m _ l2 l1).mono ?_
      rintro e w2 ⟨rfl, hk⟩
      replace hb := bstep hb (bstep (by repeat (first | exact Below.refl _ _ | apply up | apply dr | apply drN)) hk)
      replace V1 := V1.step (bstep (by repeat (first | exact Below.refl _ _ | apply up | apply dr | apply drN)) hk)
      replace V2 := V2.step (bstep (by repeat (first | exact Below.refl _ _ | apply up | apply dr | apply drN)) hk)
      clear hk
      clear m10 m11 m12 m1l
      have m10 := V1.c0; have m11 := V1.c1; have m12 := V1.c2; have m1l := V1.lt
      clear m20 m21 m22 m2l
      have m20 := V2.c0; have m21 := V2.c1; have m22 := V2.c2; have m2l := V2.lt
      go_wp2_with fail
      refine (small_any _ _ _ _ m2 _ l4 l3).mono ?_
      rintro e w3 ⟨rfl, hk⟩
      replace hb := bstep hb (bstep (by repeat (first | exact Below.refl _ _ | apply up | apply dr | apply drN)) hk)
      replace V1 := V1.step (bstep (by repeat (first | exact Below.refl _ _ | apply up | apply dr | apply drN)) hk)
      replace V2 := V2.step (bstep (by repeat (first | exact Below.refl _ _ | apply up | apply dr | apply drN)) hk)
      clear hk
      clear m10 m11 m12 m1l
      have m10 := V1.c0; have m11 := V1.c1; have m12 := V1.c2; have m1l := V1.lt
      clear m20 m21 m22 m2l
      have m20 := V2.c0; have m21 := V2.c1; have m22 := V2.c2; have m2l := V2.lt
      go_wp2
      go_ret
      exact ⟨rfl, hb⟩
    · have g6 : m.G.length ≤ 61 ∧ m.W.length ≤ 368 := by simpa [mSmall] using q1
      obtain ⟨g6, g7⟩ := g6
      have g8 : m2.G.length ≤ 61 ∧ m2.W.length ≤ 368 := by simpa [mSmall] using q2
      obtain ⟨g8, g9⟩ := g8
      have k3 : m.W.length ≤ 1000000000 := by omega
      have k4 : m.G.length ≤ 1000000000 := by omega
      cases qr : mRight m
      · by_cases hn : 1 ≤ n ∧ n ≤ 200
        · obtain ⟨j, rfl⟩ : ∃ j : Nat, n = j := ⟨n.toNat, by omega⟩
          have j0 : 1 ≤ j := by omega
          have j1 : j ≤ 200 := by omega
          clear hn
          have t1 : mSame (mNew j) (mNew j) = true := mSame_refl _
          have v1 : (mNew j).W.length ≤ 1000000000 ∧ (mNew j).G.length ≤ 1000000000 := ⟨by simp [mNew]; omega, by simp [mNew]; omega⟩
          go_enter Try.func3, Try.ntmps3
          go_wp2_with fail
          refine (shown_any _).mono ?_
          rintro e w1 ⟨rfl, hk⟩
          have hb : Below w.heap.size w w1 := bstep (bstep (bstep (boxed _ _) (boxed _ _)) (boxed _ _)) hk
          have V1 : Vr w1 (w.heap.size + 1) m A1 B1 c1 d1 := Vr.at_ (by simp) (((Vr.box (w := w.alloc _) (c := c1) (c' := d1) (R1.alloc _) (S1.alloc _)).step (boxed _ _)).step hk)
          have V2 : Vr w1 (w.heap.size + 1 + 1) m2 A2 B2 c2 d2 := Vr.at_ (by simp) ((Vr.box (w := (w.alloc _).alloc _) (c := c2) (c' := d2) ((R2.alloc _).alloc _) ((S2.alloc _).alloc _)).step hk)
          clear hk
          have m10 := V1.c0; have m11 := V1.c1; have m12 := V1.c2; have m1l := V1.lt
          have m20 := V2.c0; have m21 := V2.c1; have m22 := V2.c2; have m2l := V2.lt
          go_wp2_with fail
          refine (small_any _ _ _ _ m _ l2 l1).mono ?_
          rintro e w2 ⟨rfl, hk⟩
          replace hb := bstep hb (bstep (by repeat (first | exact Below.refl _ _ | apply up | apply dr | apply drN)) hk)
          replace V1 := V1.step (bstep (by repeat (first | exact Below.refl _ _ | apply up | apply dr | apply drN)) hk)
          replace V2 := V2.step (bstep (by repeat (first | exact Below.refl _ _ | apply up | apply dr | apply drN)) hk)
          clear hk
          clear m10 m11 m12 m1l
          have m10 := V1.c0; have m11 := V1.c1; have m12 := V1.c2; have m1l := V1.lt
          clear m20 m21 m22 m2l
          have m20 := V2.c0; have m21 := V2.c1; have m22 := V2.c2; have m2l := V2.lt
          go_wp2_with fail
          refine (small_any _ _ _ _ m2 _ l4 l3).mono ?_
          rintro e w3 ⟨rfl, hk⟩
          replace hb := bstep hb (bstep (by repeat (first | exact Below.refl _ _ | apply up | apply dr | apply drN)) hk)
          replace V1 := V1.step (bstep (by repeat (first | exact Below.refl _ _ | apply up | apply dr | apply drN)) hk)
          replace V2 := V2.step (bstep (by repeat (first | exact Below.refl _ _ | apply up | apply dr | apply drN)) hk)
          clear hk
          clear m10 m11 m12 m1l
          have m10 := V1.c0; have m11 := V1.c1; have m12 := V1.c2; have m1l := V1.lt
          clear m20 m21 m22 m2l
          have m20 := V2.c0; have m21 := V2.c1; have m22 := V2.c2; have m2l := V2.lt
          go_wp2_with fail
          refine (new_yes j _ j0 j1).mono ?_
          rintro e w4 ⟨A3, B3, c3, d3, rfl, R3, S3, hk⟩
          replace hb := bstep hb (bstep (by repeat (first | exact Below.refl _ _ | apply up | apply dr | apply drN)) hk)
          replace V1 := V1.step (bstep (by repeat (first | exact Below.refl _ _ | apply up | apply dr | apply drN)) hk)
          replace V2 := V2.step (bstep (by repeat (first | exact Below.refl _ _ | apply up | apply dr | apply drN)) hk)
          clear hk
          clear m10 m11 m12 m1l
          have m10 := V1.c0; have m11 := V1.c1; have m12 := V1.c2; have m1l := V1.lt
          clear m20 m21 m22 m2l
          have m20 := V2.c0; have m21 := V2.c1; have m22 := V2.c2; have m2l := V2.lt
          go_wp2_with fail
          refine (rnew_yes j _ j0 j1).mono ?_
          rintro e w5 ⟨A4, B4, c4, d4, rfl, R4, S4, hk⟩
          replace hb := bstep hb (bstep (by repeat (first | exact Below.refl _ _ | apply up | apply dr | apply drN)) hk)
          replace V1 := V1.step (bstep (by repeat (first | exact Below.refl _ _ | apply up | apply dr | apply drN)) hk)
          replace V2 := V2.step (bstep (by repeat (first | exact Below.refl _ _ | apply up | apply dr | apply drN)) hk)
          have V3 := (Vr.box (c := c3) (c' := d3) R3 S3).step (bstep (by repeat (first | exact Below.refl _ _ | apply up | apply dr | apply drN)) hk)
          clear hk
          clear m10 m11 m12 m1l
          have m10 := V1.c0; have m11 := V1.c1; have m12 := V1.c2; have m1l := V1.lt
          clear m20 m21 m22 m2l
          have m20 := V2.c0; have m21 := V2.c1; have m22 := V2.c2; have m2l := V2.lt
          have m30 := V3.c0; have m31 := V3.c1; have m32 := V3.c2; have m3l := V3.lt
          go_wp2_with fail
          refine (rright_any _ _ _ _ m _ (V1.r2.step (by repeat (first | exact Below.refl _ _ | apply up | apply dr | apply drN))) k4 k3).mono ?_
          rintro e w6 ⟨rfl, hk⟩
          replace hb := bstep hb (bstep (by repeat (first | exact Below.refl _ _ | apply up | apply dr | apply drN)) hk)
          replace V1 := V1.step (bstep (by repeat (first | exact Below.refl _ _ | apply up | apply dr | apply drN)) hk)
          replace V2 := V2.step (bstep (by repeat (first | exact Below.refl _ _ | apply up | apply dr | apply drN)) hk)
          replace V3 := V3.step (bstep (by repeat (first | exact Below.refl _ _ | apply up | apply dr | apply drN)) hk)
          have V4 := (Vr.box (c := c4) (c' := d4) R4 S4).step (bstep (by repeat (first | exact Below.refl _ _ | apply up | apply dr | apply drN)) hk)
          clear hk
          clear m10 m11 m12 m1l
          have m10 := V1.c0; have m11 := V1.c1; have m12 := V1.c2; have m1l := V1.lt
          clear m20 m21 m22 m2l
          have m20 := V2.c0; have m21 := V2.c1; have m22 := V2.c2; have m2l := V2.lt
          clear m30 m31 m32 m3l
          have m30 := V3.c0; have m31 := V3.c1; have m32 := V3.c2; have m3l := V3.lt
          have m40 := V4.c0; have m41 := V4.c1; have m42 := V4.c2; have m4l := V4.lt
          go_upto_region 12 with (fail)
          have hS : ∀ w', Below w6.heap.size w6 w' → (Below w6.heap.size w6 w' ∧ w'.cell? ⟨w.heap.size + 1, 0, none⟩ = some (.slice A1 m.W.length c1) ∧ w'.cell? ⟨w.heap.size + 1, 1, none⟩ = some (.slice B1 m.G.length d1) ∧ w'.cell? ⟨w.heap.size + 1, 2, none⟩ = some (.bool m.bad) ∧ w'.cell? ⟨w.heap.size + 1 + 1, 0, none⟩ = some (.slice A2 m2.W.length c2) ∧ w'.cell? ⟨w.heap.size + 1 + 1, 1, none⟩ = some (.slice B2 m2.G.length d2) ∧ w'.cell? ⟨w.heap.size + 1 + 1, 2, none⟩ = some (.bool m2.bad) ∧ w'.cell? ⟨w4.heap.size, 0, none⟩ = some (.slice A3 (mNew j).W.length c3) ∧ w'.cell? ⟨w4.heap.size, 1, none⟩ = some (.slice B3 (mNew j).G.length d3) ∧ w'.cell? ⟨w4.heap.size, 2, none⟩ = some (.bool (mNew j).bad) ∧ w'.cell? ⟨w5.heap.size, 0, none⟩ = some (.slice A4 (mNew j).W.length c4) ∧ w'.cell? ⟨w5.heap.size, 1, none⟩ = some (.slice B4 (mNew j).G.length d4) ∧ w'.cell? ⟨w5.heap.size, 2, none⟩ = some (.bool (mNew j).bad)) := fun w' h => ⟨h, (h.cell m1l).trans m10, (h.cell m1l).trans m11, (h.cell m1l).trans m12, (h.cell m2l).trans m20, (h.cell m2l).trans m21, (h.cell m2l).trans m22, (h.cell m3l).trans m30, (h.cell m3l).trans m31, (h.cell m3l).trans m32, (h.cell m4l).trans m40, (h.cell m4l).trans m41, (h.cell m4l).trans m42⟩
          go_region_held3 (fun w' => Below w6.heap.size w6 w' ∧ w'.cell? ⟨w.heap.size + 1, 0, none⟩ = some (.slice A1 m.W.length c1) ∧ w'.cell? ⟨w.heap.size + 1, 1, none⟩ = some (.slice B1 m.G.length d1) ∧ w'.cell? ⟨w.heap.size + 1, 2, none⟩ = some (.bool m.bad) ∧ w'.cell? ⟨w.heap.size + 1 + 1, 0, none⟩ = some (.slice A2 m2.W.length c2) ∧ w'.cell? ⟨w.heap.size + 1 + 1, 1, none⟩ = some (.slice B2 m2.G.length d2) ∧ w'.cell? ⟨w.heap.size + 1 + 1, 2, none⟩ = some (.bool m2.bad) ∧ w'.cell? ⟨w4.heap.size, 0, none⟩ = some (.slice A3 (mNew j).W.length c3) ∧ w'.cell? ⟨w4.heap.size, 1, none⟩ = some (.slice B3 (mNew j).G.length d3) ∧ w'.cell? ⟨w4.heap.size, 2, none⟩ = some (.bool (mNew j).bad) ∧ w'.cell? ⟨w5.heap.size, 0, none⟩ = some (.slice A4 (mNew j).W.length c4) ∧ w'.cell? ⟨w5.heap.size, 1, none⟩ = some (.slice B4 (mNew j).G.length d4) ∧ w'.cell? ⟨w5.heap.size, 2, none⟩ = some (.bool (mNew j).bad)) (first | exact hS _ (bstep (bstep (bstep (bstep ((Below.refl _ _).drew) hk1) hk2) hk3) hk4) | exact hS _ (bstep (bstep (bstep ((Below.refl _ _).drew) hk1) hk2) hk3) | exact hS _ (bstep (bstep ((Below.refl _ _).drew) hk1) hk2) | exact hS _ (bstep ((Below.refl _ _).drew) hk1) | exact hS _ ((Below.refl _ _).drew))
            (first
              | (go_at_call 16; (with_reducible refine (rsame_any _ _ _ _ _ _ _ _ (mNew j) (mNew j) _ (V3.r1.step ((Below.refl _ _).drew)) (V3.r2.step ((Below.refl _ _).drew)) (V4.r1.step ((Below.refl _ _).drew)) (V4.r2.step ((Below.refl _ _).drew)) v1.1 v1.2).mono ?_); rintro e wk1 ⟨rfl, hk1⟩)
              | (go_at_call 17; (with_reducible refine (right_any _ _ _ _ m _ (V1.r2.step (bstep ((Below.refl _ _).drew) hk1)) k4 k3).mono ?_); rintro e wk2 ⟨rfl, hk2⟩)
              | (go_at_call 18; (with_reducible refine (same_any _ _ _ _ _ _ _ _ m m2 _ (V1.r1.step (bstep (bstep ((Below.refl _ _).drew) hk1) hk2)) (V1.r2.step (bstep (bstep ((Below.refl _ _).drew) hk1) hk2)) (V2.r1.step (bstep (bstep ((Below.refl _ _).drew) hk1) hk2)) (V2.r2.step (bstep (bstep ((Below.refl _ _).drew) hk1) hk2)) k3 k4).mono ?_); rintro e wk3 ⟨rfl, hk3⟩)
              | (go_at_call 16; (with_reducible refine (rsame_any _ _ _ _ _ _ _ _ m m2 _ (V1.r1.step (bstep (bstep (bstep ((Below.refl _ _).drew) hk1) hk2) hk3)) (V1.r2.step (bstep (bstep (bstep ((Below.refl _ _).drew) hk1) hk2) hk3)) (V2.r1.step (bstep (bstep (bstep ((Below.refl _ _).drew) hk1) hk2) hk3)) (V2.r2.step (bstep (bstep (bstep ((Below.refl _ _).drew) hk1) hk2) hk3)) k3 k4).mono ?_); rintro e wk4 ⟨rfl, hk4⟩))
          have hk := bstep (bstep (bstep (bstep ((Below.refl _ _).drew) hk1) hk2) hk3) hk4
          generalize wk4 = w7 at *
          replace hb := bstep hb hk
          replace V1 := V1.step hk
          clear hS hk hk1 hk2 hk3 hk4 V2 V3 V4 m10 m11 m12 m1l m20 m21 m22 m2l m30 m31 m32 m3l m40 m41 m42 m4l
          have m10 := V1.c0; have m11 := V1.c1; have m12 := V1.c2; have m1l := V1.lt
          go_upto_region 15 with (fail)
          go_cut [87] from 73 (fun s wx => s = .bool false ∧ w7 = wx)
          case first =>
            go_wp2_with (first
              | (go_at_call 19; refine (at_any _ _ _ (by omega) (by omega) (by omega) (by omega)).mono ?_; rintro e w' ⟨rfl, rfl⟩)
              | (go_at_call 20; refine (rat_any _ _ _ (by omega) (by omega) (by omega) (by omega)).mono ?_; rintro e w' ⟨rfl, rfl⟩))
            all_goals go_meet
            all_goals exact ⟨rfl, rfl⟩
          case rest =>
            obtain ⟨rfl, rfl⟩ := hcut
            go_wp2_with fail
            go_quiet (fail)
            go_wp2
            go_ret
            exact ⟨rfl, bstep hb (by repeat (first | exact Below.refl _ _ | apply up | apply dr | apply drN))⟩
        · have hj : n < 1 ∨ 200 < n := by omega
          clear hn
          have t1 : mSame mNone mNone = true := mSame_refl _
          have v1 : mNone.W.length ≤ 1000000000 ∧ mNone.G.length ≤ 1000000000 := ⟨by simp [mNone], by simp [mNone]⟩
          go_enter Try.func3, Try.ntmps3
          go_wp2_with fail
          refine (shown_any _).mono ?_
          rintro e w1 ⟨rfl, hk⟩
          have hb : Below w.heap.size w w1 := bstep (bstep (bstep (boxed _ _) (boxed _ _)) (boxed _ _)) hk
          have V1 : Vr w1 (w.heap.size + 1) m A1 B1 c1 d1 := Vr.at_ (by simp) (((Vr.box (w := w.alloc _) (c := c1) (c' := d1) (R1.alloc _) (S1.alloc _)).step (boxed _ _)).step hk)
          have V2 : Vr w1 (w.heap.size + 1 + 1) m2 A2 B2 c2 d2 := Vr.at_ (by simp) ((Vr.box (w := (w.alloc _).alloc _) (c := c2) (c' := d2) ((R2.alloc _).alloc _) ((S2.alloc _).alloc _)).step hk)
          clear hk
          have m10 := V1.c0; have m11 := V1.c1; have m12 := V1.c2; have m1l := V1.lt
          have m20 := V2.c0; have m21 := V2.c1; have m22 := V2.c2; have m2l := V2.lt
          go_wp2_with fail
          refine (small_any _ _ _ _ m _ l2 l1).mono ?_
          rintro e w2 ⟨rfl, hk⟩
          replace hb := bstep hb (bstep (by repeat (first | exact Below.refl _ _ | apply up | apply dr | apply drN)) hk)
          replace V1 := V1.step (bstep (by repeat (first | exact Below.refl _ _ | apply up | apply dr | apply drN)) hk)
          replace V2 := V2.step (bstep (by repeat (first | exact Below.refl _ _ | apply up | apply dr | apply drN)) hk)
          clear hk
          clear m10 m11 m12 m1l
          have m10 := V1.c0; have m11 := V1.c1; have m12 := V1.c2; have m1l := V1.lt
          clear m20 m21 m22 m2l
          have m20 := V2.c0; have m21 := V2.c1; have m22 := V2.c2; have m2l := V2.lt
          go_wp2_with fail
          refine (small_any _ _ _ _ m2 _ l4 l3).mono ?_
          rintro e w3 ⟨rfl, hk⟩
          replace hb := bstep hb (bstep (by repeat (first | exact Below.refl _ _ | apply up | apply dr | apply drN)) hk)
          replace V1 := V1.step (bstep (by repeat (first | exact Below.refl _ _ | apply up | apply dr | apply drN)) hk)
          replace V2 := V2.step (bstep (by repeat (first | exact Below.refl _ _ | apply up | apply dr | apply drN)) hk)
          clear hk
          clear m10 m11 m12 m1l
          have m10 := V1.c0; have m11 := V1.c1; have m12 := V1.c2; have m1l := V1.lt
          clear m20 m21 m22 m2l
          have m20 := V2.c0; have m21 := V2.c1; have m22 := V2.c2; have m2l := V2.lt
          go_wp2_with fail
          refine (new_no _ _ hj).mono ?_
          rintro e w4 ⟨A3, B3, c3, d3, rfl, R3, S3, hk⟩
          replace hb := bstep hb (bstep (by repeat (first | exact Below.refl _ _ | apply up | apply dr | apply drN)) hk)
          replace V1 := V1.step (bstep (by repeat (first | exact Below.refl _ _ | apply up | apply dr | apply drN)) hk)
          replace V2 := V2.step (bstep (by repeat (first | exact Below.refl _ _ | apply up | apply dr | apply drN)) hk)
          clear hk
          clear m10 m11 m12 m1l
          have m10 := V1.c0; have m11 := V1.c1; have m12 := V1.c2; have m1l := V1.lt
          clear m20 m21 m22 m2l
          have m20 := V2.c0; have m21 := V2.c1; have m22 := V2.c2; have m2l := V2.lt
          go_wp2_with fail
          refine (rnew_no _ _ hj).mono ?_
          rintro e w5 ⟨A4, B4, c4, d4, rfl, R4, S4, hk⟩
          replace hb := bstep hb (bstep (by repeat (first | exact Below.refl _ _ | apply up | apply dr | apply drN)) hk)
          replace V1 := V1.step (bstep (by repeat (first | exact Below.refl _ _ | apply up | apply dr | apply drN)) hk)
          replace V2 := V2.step (bstep (by repeat (first | exact Below.refl _ _ | apply up | apply dr | apply drN)) hk)
          have V3 := (Vr.box (c := c3) (c' := d3) R3 S3).step (bstep (by repeat (first | exact Below.refl _ _ | apply up | apply dr | apply drN)) hk)
          clear hk
          clear m10 m11 m12 m1l
          have m10 := V1.c0; have m11 := V1.c1; have m12 := V1.c2; have m1l := V1.lt
          clear m20 m21 m22 m2l
          have m20 := V2.c0; have m21 := V2.c1; have m22 := V2.c2; have m2l := V2.lt
          have m30 := V3.c0; have m31 := V3.c1; have m32 := V3.c2; have m3l := V3.lt
          go_wp2_with fail
          refine (rright_any _ _ _ _ m _ (V1.r2.step (by repeat (first | exact Below.refl _ _ | apply up | apply dr | apply drN))) k4 k3).mono ?_
          rintro e w6 ⟨rfl, hk⟩
          replace hb := bstep hb (bstep (by repeat (first | exact Below.refl _ _ | apply up | apply dr | apply drN)) hk)
          replace V1 := V1.step (bstep (by repeat (first | exact Below.refl _ _ | apply up | apply dr | apply drN)) hk)
          replace V2 := V2.step (bstep (by repeat (first | exact Below.refl _ _ | apply up | apply dr | apply drN)) hk)
          replace V3 := V3.step (bstep (by repeat (first | exact Below.refl _ _ | apply up | apply dr | apply drN)) hk)
          have V4 := (Vr.box (c := c4) (c' := d4) R4 S4).step (bstep (by repeat (first | exact Below.refl _ _ | apply up | apply dr | apply drN)) hk)
          clear hk
          clear m10 m11 m12 m1l
          have m10 := V1.c0; have m11 := V1.c1; have m12 := V1.c2; have m1l := V1.lt
          clear m20 m21 m22 m2l
          have m20 := V2.c0; have m21 := V2.c1; have m22 := V2.c2; have m2l := V2.lt
          clear m30 m31 m32 m3l
          have m30 := V3.c0; have m31 := V3.c1; have m32 := V3.c2; have m3l := V3.lt
          have m40 := V4.c0; have m41 := V4.c1; have m42 := V4.c2; have m4l := V4.lt
          go_upto_region 12 with (fail)
          have hS : ∀ w', Below w6.heap.size w6 w' → (Below w6.heap.size w6 w' ∧ w'.cell? ⟨w.heap.size + 1, 0, none⟩ = some (.slice A1 m.W.length c1) ∧ w'.cell? ⟨w.heap.size + 1, 1, none⟩ = some (.slice B1 m.G.length d1) ∧ w'.cell? ⟨w.heap.size + 1, 2, none⟩ = some (.bool m.bad) ∧ w'.cell? ⟨w.heap.size + 1 + 1, 0, none⟩ = some (.slice A2 m2.W.length c2) ∧ w'.cell? ⟨w.heap.size + 1 + 1, 1, none⟩ = some (.slice B2 m2.G.length d2) ∧ w'.cell? ⟨w.heap.size + 1 + 1, 2, none⟩ = some (.bool m2.bad) ∧ w'.cell? ⟨w4.heap.size, 0, none⟩ = some (.slice A3 mNone.W.length c3) ∧ w'.cell? ⟨w4.heap.size, 1, none⟩ = some (.slice B3 mNone.G.length d3) ∧ w'.cell? ⟨w4.heap.size, 2, none⟩ = some (.bool mNone.bad) ∧ w'.cell? ⟨w5.heap.size, 0, none⟩ = some (.slice A4 mNone.W.length c4) ∧ w'.cell? ⟨w5.heap.size, 1, none⟩ = some (.slice B4 mNone.G.length d4) ∧ w'.cell? ⟨w5.heap.size, 2, none⟩ = some (.bool mNone.bad)) := fun w' h => ⟨h, (h.cell m1l).trans m10, (h.cell m1l).trans m11, (h.cell m1l).trans m12, (h.cell m2l).trans m20, (h.cell m2l).trans m21, (h.cell m2l).trans m22, (h.cell m3l).trans m30, (h.cell m3l).trans m31, (h.cell m3l).trans m32, (h.cell m4l).trans m40, (h.cell m4l).trans m41, (h.cell m4l).trans m42⟩
          go_region_held3 (fun w' => Below w6.heap.size w6 w' ∧ w'.cell? ⟨w.heap.size + 1, 0, none⟩ = some (.slice A1 m.W.length c1) ∧ w'.cell? ⟨w.heap.size + 1, 1, none⟩ = some (.slice B1 m.G.length d1) ∧ w'.cell? ⟨w.heap.size + 1, 2, none⟩ = some (.bool m.bad) ∧ w'.cell? ⟨w.heap.size + 1 + 1, 0, none⟩ = some (.slice A2 m2.W.length c2) ∧ w'.cell? ⟨w.heap.size + 1 + 1, 1, none⟩ = some (.slice B2 m2.G.length d2) ∧ w'.cell? ⟨w.heap.size + 1 + 1, 2, none⟩ = some (.bool m2.bad) ∧ w'.cell? ⟨w4.heap.size, 0, none⟩ = some (.slice A3 mNone.W.length c3) ∧ w'.cell? ⟨w4.heap.size, 1, none⟩ = some (.slice B3 mNone.G.length d3) ∧ w'.cell? ⟨w4.heap.size, 2, none⟩ = some (.bool mNone.bad) ∧ w'.cell? ⟨w5.heap.size, 0, none⟩ = some (.slice A4 mNone.W.length c4) ∧ w'.cell? ⟨w5.heap.size, 1, none⟩ = some (.slice B4 mNone.G.length d4) ∧ w'.cell? ⟨w5.heap.size, 2, none⟩ = some (.bool mNone.bad)) (first | exact hS _ (bstep (bstep (bstep (bstep ((Below.refl _ _).drew) hk1) hk2) hk3) hk4) | exact hS _ (bstep (bstep (bstep ((Below.refl _ _).drew) hk1) hk2) hk3) | exact hS _ (bstep (bstep ((Below.refl _ _).drew) hk1) hk2) | exact hS _ (bstep ((Below.refl _ _).drew) hk1) | exact hS _ ((Below.refl _ _).drew))
            (first
              | (go_at_call 16; (with_reducible refine (rsame_any _ _ _ _ _ _ _ _ mNone mNone _ (V3.r1.step ((Below.refl _ _).drew)) (V3.r2.step ((Below.refl _ _).drew)) (V4.r1.step ((Below.refl _ _).drew)) (V4.r2.step ((Below.refl _ _).drew)) v1.1 v1.2).mono ?_); rintro e wk1 ⟨rfl, hk1⟩)
              | (go_at_call 17; (with_reducible refine (right_any _ _ _ _ m _ (V1.r2.step (bstep ((Below.refl _ _).drew) hk1)) k4 k3).mono ?_); rintro e wk2 ⟨rfl, hk2⟩)
              | (go_at_call 18; (with_reducible refine (same_any _ _ _ _ _ _ _ _ m m2 _ (V1.r1.step (bstep (bstep ((Below.refl _ _).drew) hk1) hk2)) (V1.r2.step (bstep (bstep ((Below.refl _ _).drew) hk1) hk2)) (V2.r1.step (bstep (bstep ((Below.refl _ _).drew) hk1) hk2)) (V2.r2.step (bstep (bstep ((Below.refl _ _).drew) hk1) hk2)) k3 k4).mono ?_); rintro e wk3 ⟨rfl, hk3⟩)
              | (go_at_call 16; (with_reducible refine (rsame_any _ _ _ _ _ _ _ _ m m2 _ (V1.r1.step (bstep (bstep (bstep ((Below.refl _ _).drew) hk1) hk2) hk3)) (V1.r2.step (bstep (bstep (bstep ((Below.refl _ _).drew) hk1) hk2) hk3)) (V2.r1.step (bstep (bstep (bstep ((Below.refl _ _).drew) hk1) hk2) hk3)) (V2.r2.step (bstep (bstep (bstep ((Below.refl _ _).drew) hk1) hk2) hk3)) k3 k4).mono ?_); rintro e wk4 ⟨rfl, hk4⟩))
          have hk := bstep (bstep (bstep (bstep ((Below.refl _ _).drew) hk1) hk2) hk3) hk4
          generalize wk4 = w7 at *
          replace hb := bstep hb hk
          replace V1 := V1.step hk
          clear hS hk hk1 hk2 hk3 hk4 V2 V3 V4 m10 m11 m12 m1l m20 m21 m22 m2l m30 m31 m32 m3l m40 m41 m42 m4l
          have m10 := V1.c0; have m11 := V1.c1; have m12 := V1.c2; have m1l := V1.lt
          go_upto_region 15 with (fail)
          go_cut [87] from 73 (fun s wx => s = .bool false ∧ w7 = wx)
          case first =>
            go_wp2_with (first
              | (go_at_call 19; refine (at_any _ _ _ (by omega) (by omega) (by omega) (by omega)).mono ?_; rintro e w' ⟨rfl, rfl⟩)
              | (go_at_call 20; refine (rat_any _ _ _ (by omega) (by omega) (by omega) (by omega)).mono ?_; rintro e w' ⟨rfl, rfl⟩))
            all_goals go_meet
            all_goals exact ⟨rfl, rfl⟩
          case rest =>
            obtain ⟨rfl, rfl⟩ := hcut
            go_wp2_with fail
            go_quiet (fail)
            go_wp2
            go_ret
            exact ⟨rfl, bstep hb (by repeat (first | exact Below.refl _ _ | apply up | apply dr | apply drN))⟩
      · by_cases hn : 1 ≤ n ∧ n ≤ 200
        · obtain ⟨j, rfl⟩ : ∃ j : Nat, n = j := ⟨n.toNat, by omega⟩
          have j0 : 1 ≤ j := by omega
          have j1 : j ≤ 200 := by omega
          clear hn
          have t1 : mSame (mNew j) (mNew j) = true := mSame_refl _
          have v1 : (mNew j).W.length ≤ 1000000000 ∧ (mNew j).G.length ≤ 1000000000 := ⟨by simp [mNew]; omega, by simp [mNew]; omega⟩
          obtain ⟨g1, g2, _, _, _⟩ := mRight_out qr
          have g5 : 1 ≤ m.G.length := by omega
          go_enter Try.func3, Try.ntmps3
          go_wp2_with fail
          refine (shown_any _).mono ?_
          rintro e w1 ⟨rfl, hk⟩
          have hb : Below w.heap.size w w1 := bstep (bstep (bstep (boxed _ _) (boxed _ _)) (boxed _ _)) hk
          have V1 : Vr w1 (w.heap.size + 1) m A1 B1 c1 d1 := Vr.at_ (by simp) (((Vr.box (w := w.alloc _) (c := c1) (c' := d1) (R1.alloc _) (S1.alloc _)).step (boxed _ _)).step hk)
          have V2 : Vr w1 (w.heap.size + 1 + 1) m2 A2 B2 c2 d2 := Vr.at_ (by simp) ((Vr.box (w := (w.alloc _).alloc _) (c := c2) (c' := d2) ((R2.alloc _).alloc _) ((S2.alloc _).alloc _)).step hk)
          clear hk
          have m10 := V1.c0; have m11 := V1.c1; have m12 := V1.c2; have m1l := V1.lt
          have m20 := V2.c0; have m21 := V2.c1; have m22 := V2.c2; have m2l := V2.lt
          go_wp2_with fail
          refine (small_any _ _ _ _ m _ l2 l1).mono ?_
          rintro e w2 ⟨rfl, hk⟩
          replace hb := bstep hb (bstep (by repeat (first | exact Below.refl _ _ | apply up | apply dr | apply drN)) hk)
          replace V1 := V1.step (bstep (by repeat (first | exact Below.refl _ _ | apply up | apply dr | apply drN)) hk)
          replace V2 := V2.step (bstep (by repeat (first | exact Below.refl _ _ | apply up | apply dr | apply drN)) hk)
          clear hk
          clear m10 m11 m12 m1l
          have m10 := V1.c0; have m11 := V1.c1; have m12 := V1.c2; have m1l := V1.lt
          clear m20 m21 m22 m2l
          have m20 := V2.c0; have m21 := V2.c1; have m22 := V2.c2; have m2l := V2.lt
          go_wp2_with fail
          refine (small_any _ _ _ _ m2 _ l4 l3).mono ?_
          rintro e w3 ⟨rfl, hk⟩
          replace hb := bstep hb (bstep (by repeat (first | exact Below.refl _ _ | apply up | apply dr | apply drN)) hk)
          replace V1 := V1.step (bstep (by repeat (first | exact Below.refl _ _ | apply up | apply dr | apply drN)) hk)
          replace V2 := V2.step (bstep (by repeat (first | exact Below.refl _ _ | apply up | apply dr | apply drN)) hk)
          clear hk
          clear m10 m11 m12 m1l
          have m10 := V1.c0; have m11 := V1.c1; have m12 := V1.c2; have m1l := V1.lt
          clear m20 m21 m22 m2l
          have m20 := V2.c0; have m21 := V2.c1; have m22 := V2.c2; have m2l := V2.lt
          go_wp2_with fail
          refine (new_yes j _ j0 j1).mono ?_
          rintro e w4 ⟨A3, B3, c3, d3, rfl, R3, S3, hk⟩
          replace hb := bstep hb (bstep (by repeat (first | exact Below.refl _ _ | apply up | apply dr | apply drN)) hk)
          replace V1 := V1.step (bstep (by repeat (first | exact Below.refl _ _ | apply up | apply dr | apply drN)) hk)
          replace V2 := V2.step (bstep (by repeat (first | exact Below.refl _ _ | apply up | apply dr | apply drN)) hk)
          clear hk
          clear m10 m11 m12 m1l
          have m10 := V1.c0; have m11 := V1.c1; have m12 := V1.c2; have m1l := V1.lt
          clear m20 m21 m22 m2l
          have m20 := V2.c0; have m21 := V2.c1; have m22 := V2.c2; have m2l := V2.lt
          go_wp2_with fail
          refine (rnew_yes j _ j0 j1).mono ?_
          rintro e w5 ⟨A4, B4, c4, d4, rfl, R4, S4, hk⟩
          replace hb := bstep hb (bstep (by repeat (first | exact Below.refl _ _ | apply up | apply dr | apply drN)) hk)
          replace V1 := V1.step (bstep (by repeat (first | exact Below.refl _ _ | apply up | apply dr | apply drN)) hk)
          replace V2 := V2.step (bstep (by repeat (first | exact Below.refl _ _ | apply up | apply dr | apply drN)) hk)
          have V3 := (Vr.box (c := c3) (c' := d3) R3 S3).step (bstep (by repeat (first | exact Below.refl _ _ | apply up | apply dr | apply drN)) hk)
          clear hk
          clear m10 m11 m12 m1l
          have m10 := V1.c0; have m11 := V1.c1; have m12 := V1.c2; have m1l := V1.lt
          clear m20 m21 m22 m2l
          have m20 := V2.c0; have m21 := V2.c1; have m22 := V2.c2; have m2l := V2.lt
          have m30 := V3.c0; have m31 := V3.c1; have m32 := V3.c2; have m3l := V3.lt
          go_wp2_with fail
          refine (rright_any _ _ _ _ m _ (V1.r2.step (by repeat (first | exact Below.refl _ _ | apply up | apply dr | apply drN))) k4 k3).mono ?_
          rintro e w6 ⟨rfl, hk⟩
          replace hb := bstep hb (bstep (by repeat (first | exact Below.refl _ _ | apply up | apply dr | apply drN)) hk)
          replace V1 := V1.step (bstep (by repeat (first | exact Below.refl _ _ | apply up | apply dr | apply drN)) hk)
          replace V2 := V2.step (bstep (by repeat (first | exact Below.refl _ _ | apply up | apply dr | apply drN)) hk)
          replace V3 := V3.step (bstep (by repeat (first | exact Below.refl _ _ | apply up | apply dr | apply drN)) hk)
          have V4 := (Vr.box (c := c4) (c' := d4) R4 S4).step (bstep (by repeat (first | exact Below.refl _ _ | apply up | apply dr | apply drN)) hk)
          clear hk
          clear m10 m11 m12 m1l
          have m10 := V1.c0; have m11 := V1.c1; have m12 := V1.c2; have m1l := V1.lt
          clear m20 m21 m22 m2l
          have m20 := V2.c0; have m21 := V2.c1; have m22 := V2.c2; have m2l := V2.lt
          clear m30 m31 m32 m3l
          have m30 := V3.c0; have m31 := V3.c1; have m32 := V3.c2; have m3l := V3.lt
          have m40 := V4.c0; have m41 := V4.c1; have m42 := V4.c2; have m4l := V4.lt
          go_upto_region 12 with (fail)
          have hS : ∀ w', Below w6.heap.size w6 w' → (Below w6.heap.size w6 w' ∧ w'.cell? ⟨w.heap.size + 1, 0, none⟩ = some (.slice A1 m.W.length c1) ∧ w'.cell? ⟨w.heap.size + 1, 1, none⟩ = some (.slice B1 m.G.length d1) ∧ w'.cell? ⟨w.heap.size + 1, 2, none⟩ = some (.bool m.bad) ∧ w'.cell? ⟨w.heap.size + 1 + 1, 0, none⟩ = some (.slice A2 m2.W.length c2) ∧ w'.cell? ⟨w.heap.size + 1 + 1, 1, none⟩ = some (.slice B2 m2.G.length d2) ∧ w'.cell? ⟨w.heap.size + 1 + 1, 2, none⟩ = some (.bool m2.bad) ∧ w'.cell? ⟨w4.heap.size, 0, none⟩ = some (.slice A3 (mNew j).W.length c3) ∧ w'.cell? ⟨w4.heap.size, 1, none⟩ = some (.slice B3 (mNew j).G.length d3) ∧ w'.cell? ⟨w4.heap.size, 2, none⟩ = some (.bool (mNew j).bad) ∧ w'.cell? ⟨w5.heap.size, 0, none⟩ = some (.slice A4 (mNew j).W.length c4) ∧ w'.cell? ⟨w5.heap.size, 1, none⟩ = some (.slice B4 (mNew j).G.length d4) ∧ w'.cell? ⟨w5.heap.size, 2, none⟩ = some (.bool (mNew j).bad)) := fun w' h => ⟨h, (h.cell m1l).trans m10, (h.cell m1l).trans m11, (h.cell m1l).trans m12, (h.cell m2l).trans m20, (h.cell m2l).trans m21, (h.cell m2l).trans m22, (h.cell m3l).trans m30, (h.cell m3l).trans m31, (h.cell m3l).trans m32, (h.cell m4l).trans m40, (h.cell m4l).trans m41, (h.cell m4l).trans m42⟩
          go_region_held3 (fun w' => Below w6.heap.size w6 w' ∧ w'.cell? ⟨w.heap.size + 1, 0, none⟩ = some (.slice A1 m.W.length c1) ∧ w'.cell? ⟨w.heap.size + 1, 1, none⟩ = some (.slice B1 m.G.length d1) ∧ w'.cell? ⟨w.heap.size + 1, 2, none⟩ = some (.bool m.bad) ∧ w'.cell? ⟨w.heap.size + 1 + 1, 0, none⟩ = some (.slice A2 m2.W.length c2) ∧ w'.cell? ⟨w.heap.size + 1 + 1, 1, none⟩ = some (.slice B2 m2.G.length d2) ∧ w'.cell? ⟨w.heap.size + 1 + 1, 2, none⟩ = some (.bool m2.bad) ∧ w'.cell? ⟨w4.heap.size, 0, none⟩ = some (.slice A3 (mNew j).W.length c3) ∧ w'.cell? ⟨w4.heap.size, 1, none⟩ = some (.slice B3 (mNew j).G.length d3) ∧ w'.cell? ⟨w4.heap.size, 2, none⟩ = some (.bool (mNew j).bad) ∧ w'.cell? ⟨w5.heap.size, 0, none⟩ = some (.slice A4 (mNew j).W.length c4) ∧ w'.cell? ⟨w5.heap.size, 1, none⟩ = some (.slice B4 (mNew j).G.length d4) ∧ w'.cell? ⟨w5.heap.size, 2, none⟩ = some (.bool (mNew j).bad)) (first | exact hS _ (bstep (bstep (bstep (bstep ((Below.refl _ _).drew) hk1) hk2) hk3) hk4) | exact hS _ (bstep (bstep (bstep ((Below.refl _ _).drew) hk1) hk2) hk3) | exact hS _ (bstep (bstep ((Below.refl _ _).drew) hk1) hk2) | exact hS _ (bstep ((Below.refl _ _).drew) hk1) | exact hS _ ((Below.refl _ _).drew))
            (first
              | (go_at_call 16; (with_reducible refine (rsame_any _ _ _ _ _ _ _ _ (mNew j) (mNew j) _ (V3.r1.step ((Below.refl _ _).drew)) (V3.r2.step ((Below.refl _ _).drew)) (V4.r1.step ((Below.refl _ _).drew)) (V4.r2.step ((Below.refl _ _).drew)) v1.1 v1.2).mono ?_); rintro e wk1 ⟨rfl, hk1⟩)
              | (go_at_call 17; (with_reducible refine (right_any _ _ _ _ m _ (V1.r2.step (bstep ((Below.refl _ _).drew) hk1)) k4 k3).mono ?_); rintro e wk2 ⟨rfl, hk2⟩)
              | (go_at_call 18; (with_reducible refine (same_any _ _ _ _ _ _ _ _ m m2 _ (V1.r1.step (bstep (bstep ((Below.refl _ _).drew) hk1) hk2)) (V1.r2.step (bstep (bstep ((Below.refl _ _).drew) hk1) hk2)) (V2.r1.step (bstep (bstep ((Below.refl _ _).drew) hk1) hk2)) (V2.r2.step (bstep (bstep ((Below.refl _ _).drew) hk1) hk2)) k3 k4).mono ?_); rintro e wk3 ⟨rfl, hk3⟩)
              | (go_at_call 16; (with_reducible refine (rsame_any _ _ _ _ _ _ _ _ m m2 _ (V1.r1.step (bstep (bstep (bstep ((Below.refl _ _).drew) hk1) hk2) hk3)) (V1.r2.step (bstep (bstep (bstep ((Below.refl _ _).drew) hk1) hk2) hk3)) (V2.r1.step (bstep (bstep (bstep ((Below.refl _ _).drew) hk1) hk2) hk3)) (V2.r2.step (bstep (bstep (bstep ((Below.refl _ _).drew) hk1) hk2) hk3)) k3 k4).mono ?_); rintro e wk4 ⟨rfl, hk4⟩))
          have hk := bstep (bstep (bstep (bstep ((Below.refl _ _).drew) hk1) hk2) hk3) hk4
          generalize wk4 = w7 at *
          replace hb := bstep hb hk
          replace V1 := V1.step hk
          clear hS hk hk1 hk2 hk3 hk4 V2 V3 V4 m10 m11 m12 m1l m20 m21 m22 m2l m30 m31 m32 m3l m40 m41 m42 m4l
          have m10 := V1.c0; have m11 := V1.c1; have m12 := V1.c2; have m1l := V1.lt
          go_upto_region 15 with (fail)
          go_cut [87] from 73 (fun s wx => s = .bool false ∧ w7 = wx)
          case first =>
            go_wp2_with (first
              | (go_at_call 19; refine (at_any _ _ _ (by omega) (by omega) (by omega) (by omega)).mono ?_; rintro e w' ⟨rfl, rfl⟩)
              | (go_at_call 20; refine (rat_any _ _ _ (by omega) (by omega) (by omega) (by omega)).mono ?_; rintro e w' ⟨rfl, rfl⟩))
            all_goals go_meet
            all_goals exact ⟨rfl, rfl⟩
          case rest =>
            obtain ⟨rfl, rfl⟩ := hcut
            go_wp2_with fail
            have hS : ∀ w', Below w7.heap.size w7 w' → (Below w7.heap.size w7 w' ∧ w'.cell? ⟨w.heap.size + 1, 0, none⟩ = some (.slice A1 m.W.length c1) ∧ w'.cell? ⟨w.heap.size + 1, 1, none⟩ = some (.slice B1 m.G.length d1) ∧ w'.cell? ⟨w.heap.size + 1, 2, none⟩ = some (.bool m.bad)) := fun w' h => ⟨h, (h.cell m1l).trans m10, (h.cell m1l).trans m11, (h.cell m1l).trans m12⟩
            go_region_held3 (fun w' => Below w7.heap.size w7 w' ∧ w'.cell? ⟨w.heap.size + 1, 0, none⟩ = some (.slice A1 m.W.length c1) ∧ w'.cell? ⟨w.heap.size + 1, 1, none⟩ = some (.slice B1 m.G.length d1) ∧ w'.cell? ⟨w.heap.size + 1, 2, none⟩ = some (.bool m.bad)) (first | exact hS _ (bstep (bstep (bstep (bstep ((Below.refl _ _).drew) hk1) hk2) hk3) hk4) | exact hS _ (bstep (bstep (bstep ((Below.refl _ _).drew) hk1) hk2) hk3) | exact hS _ (bstep (bstep ((Below.refl _ _).drew) hk1) hk2) | exact hS _ (bstep ((Below.refl _ _).drew) hk1) | exact hS _ ((Below.refl _ _).drew))
              (first
                | (go_at_call 21; (with_reducible refine (node_any _ _ _ _ m p _ k4 g1 p0 p1).mono ?_); rintro e wk1 ⟨rfl, hk1⟩)
                | (go_at_call 22; (with_reducible refine (rnode_any _ _ _ _ m p _ k4 g5).mono ?_); rintro e wk2 ⟨rfl, hk2⟩)
                | (go_at_call 23; (with_reducible refine (count_any _ _ _ _ m k _ (V1.r2.step (bstep (bstep ((Below.refl _ _).drew) hk1) hk2)) k4).mono ?_); rintro e wk3 ⟨rfl, hk3⟩)
                | (go_at_call 24; (with_reducible refine (rcount_any _ _ _ _ m k _ (V1.r2.step (bstep (bstep (bstep ((Below.refl _ _).drew) hk1) hk2) hk3)) k4 g5).mono ?_); rintro e wk4 ⟨rfl, hk4⟩))
            all_goals
              go_wp2
              go_ret
              exact ⟨rfl, bstep hb (bstep (bstep (bstep (bstep ((Below.refl _ _).drew) hk1) hk2) hk3) hk4)⟩
        · have hj : n < 1 ∨ 200 < n := by omega
          clear hn
          have t1 : mSame mNone mNone = true := mSame_refl _
          have v1 : mNone.W.length ≤ 1000000000 ∧ mNone.G.length ≤ 1000000000 := ⟨by simp [mNone], by simp [mNone]⟩
          obtain ⟨g1, g2, _, _, _⟩ := mRight_out qr
          have g5 : 1 ≤ m.G.length := by omega
          go_enter Try.func3, Try.ntmps3
          go_wp2_with fail
          refine (shown_any _).mono ?_
          rintro e w1 ⟨rfl, hk⟩
          have hb : Below w.heap.size w w1 := bstep (bstep (bstep (boxed _ _) (boxed _ _)) (boxed _ _)) hk
          have V1 : Vr w1 (w.heap.size + 1) m A1 B1 c1 d1 := Vr.at_ (by simp) (((Vr.box (w := w.alloc _) (c := c1) (c' := d1) (R1.alloc _) (S1.alloc _)).step (boxed _ _)).step hk)
          have V2 : Vr w1 (w.heap.size + 1 + 1) m2 A2 B2 c2 d2 := Vr.at_ (by simp) ((Vr.box (w := (w.alloc _).alloc _) (c := c2) (c' := d2) ((R2.alloc _).alloc _) ((S2.alloc _).alloc _)).step hk)
          clear hk
          have m10 := V1.c0; have m11 := V1.c1; have m12 := V1.c2; have m1l := V1.lt
          have m20 := V2.c0; have m21 := V2.c1; have m22 := V2.c2; have m2l := V2.lt
          go_wp2_with fail
          refine (small_any _ _ _ _ m _ l2 l1).mono ?_
          rintro e w2 ⟨rfl, hk⟩
          replace hb := bstep hb (bstep (by repeat (first | exact Below.refl _ _ | apply up | apply dr | apply drN)) hk)
          replace V1 := V1.step (bstep (by repeat (first | exact Below.refl _ _ | apply up | apply dr | apply drN)) hk)
          replace V2 := V2.step (bstep (by repeat (first | exact Below.refl _ _ | apply up | apply dr | apply drN)) hk)
          clear hk
          clear m10 m11 m12 m1l
          have m10 := V1.c0; have m11 := V1.c1; have m12 := V1.c2; have m1l := V1.lt
          clear m20 m21 m22 m2l
          have m20 := V2.c0; have m21 := V2.c1; have m22 := V2.c2; have m2l := V2.lt
          go_wp2_with fail
          refine (small_any _ _ _ _ m2 _ l4 l3).mono ?_
          rintro e w3 ⟨rfl, hk⟩
          replace hb := bstep hb (bstep (by repeat (first | exact Below.refl _ _ | apply up | apply dr | apply drN)) hk)
          replace V1 := V1.step (bstep (by repeat (first | exact Below.refl _ _ | apply up | apply dr | apply drN)) hk)
          replace V2 := V2.step (bstep (by repeat (first | exact Below.refl _ _ | apply up | apply dr | apply drN)) hk)
          clear hk
          clear m10 m11 m12 m1l
          have m10 := V1.c0; have m11 := V1.c1; have m12 := V1.c2; have m1l := V1.lt
          clear m20 m21 m22 m2l
          have m20 := V2.c0; have m21 := V2.c1; have m22 := V2.c2; have m2l := V2.lt
          go_wp2_with fail
          refine (new_no _ _ hj).mono ?_
          rintro e w4 ⟨A3, B3, c3, d3, rfl, R3, S3, hk⟩
          replace hb := bstep hb (bstep (by repeat (first | exact Below.refl _ _ | apply up | apply dr | apply drN)) hk)
          replace V1 := V1.step (bstep (by repeat (first | exact Below.refl _ _ | apply up | apply dr | apply drN)) hk)
          replace V2 := V2.step (bstep (by repeat (first | exact Below.refl _ _ | apply up | apply dr | apply drN)) hk)
          clear hk
          clear m10 m11 m12 m1l
          have m10 := V1.c0; have m11 := V1.c1; have m12 := V1.c2; have m1l := V1.lt
          clear m20 m21 m22 m2l
          have m20 := V2.c0; have m21 := V2.c1; have m22 := V2.c2; have m2l := V2.lt
          go_wp2_with fail
          refine (rnew_no _ _ hj).mono ?_
          rintro e w5 ⟨A4, B4, c4, d4, rfl, R4, S4, hk⟩
          replace hb := bstep hb (bstep (by repeat (first | exact Below.refl _ _ | apply up | apply dr | apply drN)) hk)
          replace V1 := V1.step (bstep (by repeat (first | exact Below.refl _ _ | apply up | apply dr | apply drN)) hk)
          replace V2 := V2.step (bstep (by repeat (first | exact Below.refl _ _ | apply up | apply dr | apply drN)) hk)
          have V3 := (Vr.box (c := c3) (c' := d3) R3 S3).step (bstep (by repeat (first | exact Below.refl _ _ | apply up | apply dr | apply drN)) hk)
          clear hk
          clear m10 m11 m12 m1l
          have m10 := V1.c0; have m11 := V1.c1; have m12 := V1.c2; have m1l := V1.lt
          clear m20 m21 m22 m2l
          have m20 := V2.c0; have m21 := V2.c1; have m22 := V2.c2; have m2l := V2.lt
          have m30 := V3.c0; have m31 := V3.c1; have m32 := V3.c2; have m3l := V3.lt
          go_wp2_with fail
          refine (rright_any _ _ _ _ m _ (V1.r2.step (by repeat (first | exact Below.refl _ _ | apply up | apply dr | apply drN))) k4 k3).mono ?_
          rintro e w6 ⟨rfl, hk⟩
          replace hb := bstep hb (bstep (by repeat (first | exact Below.refl _ _ | apply up | apply dr | apply drN)) hk)
          replace V1 := V1.step (bstep (by repeat (first | exact Below.refl _ _ | apply up | apply dr | apply drN)) hk)
          replace V2 := V2.step (bstep (by repeat (first | exact Below.refl _ _ | apply up | apply dr | apply drN)) hk)
          replace V3 := V3.step (bstep (by repeat (first | exact Below.refl _ _ | apply up | apply dr | apply drN)) hk)
          have V4 := (Vr.box (c := c4) (c' := d4) R4 S4).step (bstep (by repeat (first | exact Below.refl _ _ | apply up | apply dr | apply drN)) hk)
          clear hk
          clear m10 m11 m12 m1l
          have m10 := V1.c0; have m11 := V1.c1; have m12 := V1.c2; have m1l := V1.lt
          clear m20 m21 m22 m2l
          have m20 := V2.c0; have m21 := V2.c1; have m22 := V2.c2; have m2l := V2.lt
          clear m30 m31 m32 m3l
          have m30 := V3.c0; have m31 := V3.c1; have m32 := V3.c2; have m3l := V3.lt
          have m40 := V4.c0; have m41 := V4.c1; have m42 := V4.c2; have m4l := V4.lt
          go_upto_region 12 with (fail)
          have hS : ∀ w', Below w6.heap.size w6 w' → (Below w6.heap.size w6 w' ∧ w'.cell? ⟨w.heap.size + 1, 0, none⟩ = some (.slice A1 m.W.length c1) ∧ w'.cell? ⟨w.heap.size + 1, 1, none⟩ = some (.slice B1 m.G.length d1) ∧ w'.cell? ⟨w.heap.size + 1, 2, none⟩ = some (.bool m.bad) ∧ w'.cell? ⟨w.heap.size + 1 + 1, 0, none⟩ = some (.slice A2 m2.W.length c2) ∧ w'.cell? ⟨w.heap.size + 1 + 1, 1, none⟩ = some (.slice B2 m2.G.length d2) ∧ w'.cell? ⟨w.heap.size + 1 + 1, 2, none⟩ = some (.bool m2.bad) ∧ w'.cell? ⟨w4.heap.size, 0, none⟩ = some (.slice A3 mNone.W.length c3) ∧ w'.cell? ⟨w4.heap.size, 1, none⟩ = some (.slice B3 mNone.G.length d3) ∧ w'.cell? ⟨w4.heap.size, 2, none⟩ = some (.bool mNone.bad) ∧ w'.cell? ⟨w5.heap.size, 0, none⟩ = some (.slice A4 mNone.W.length c4) ∧ w'.cell? ⟨w5.heap.size, 1, none⟩ = some (.slice B4 mNone.G.length d4) ∧ w'.cell? ⟨w5.heap.size, 2, none⟩ = some (.bool mNone.bad)) := fun w' h => ⟨h, (h.cell m1l).trans m10, (h.cell m1l).trans m11, (h.cell m1l).trans m12, (h.cell m2l).trans m20, (h.cell m2l).trans m21, (h.cell m2l).trans m22, (h.cell m3l).trans m30, (h.cell m3l).trans m31, (h.cell m3l).trans m32, (h.cell m4l).trans m40, (h.cell m4l).trans m41, (h.cell m4l).trans m42⟩
          go_region_held3 (fun w' => Below w6.heap.size w6 w' ∧ w'.cell? ⟨w.heap.size + 1, 0, none⟩ = some (.slice A1 m.W.length c1) ∧ w'.cell? ⟨w.heap.size + 1, 1, none⟩ = some (.slice B1 m.G.length d1) ∧ w'.cell? ⟨w.heap.size + 1, 2, none⟩ = some (.bool m.bad) ∧ w'.cell? ⟨w.heap.size + 1 + 1, 0, none⟩ = some (.slice A2 m2.W.length c2) ∧ w'.cell? ⟨w.heap.size + 1 + 1, 1, none⟩ = some (.slice B2 m2.G.length d2) ∧ w'.cell? ⟨w.heap.size + 1 + 1, 2, none⟩ = some (.bool m2.bad) ∧ w'.cell? ⟨w4.heap.size, 0, none⟩ = some (.slice A3 mNone.W.length c3) ∧ w'.cell? ⟨w4.heap.size, 1, none⟩ = some (.slice B3 mNone.G.length d3) ∧ w'.cell? ⟨w4.heap.size, 2, none⟩ = some (.bool mNone.bad) ∧ w'.cell? ⟨w5.heap.size, 0, none⟩ = some (.slice A4 mNone.W.length c4) ∧ w'.cell? ⟨w5.heap.size, 1, none⟩ = some (.slice B4 mNone.G.length d4) ∧ w'.cell? ⟨w5.heap.size, 2, none⟩ = some (.bool mNone.bad)) (first | exact hS _ (bstep (bstep (bstep (bstep ((Below.refl _ _).drew) hk1) hk2) hk3) hk4) | exact hS _ (bstep (bstep (bstep ((Below.refl _ _).drew) hk1) hk2) hk3) | exact hS _ (bstep (bstep ((Below.refl _ _).drew) hk1) hk2) | exact hS _ (bstep ((Below.refl _ _).drew) hk1) | exact hS _ ((Below.refl _ _).drew))
            (first
              | (go_at_call 16; (with_reducible refine (rsame_any _ _ _ _ _ _ _ _ mNone mNone _ (V3.r1.step ((Below.refl _ _).drew)) (V3.r2.step ((Below.refl _ _).drew)) (V4.r1.step ((Below.refl _ _).drew)) (V4.r2.step ((Below.refl _ _).drew)) v1.1 v1.2).mono ?_); rintro e wk1 ⟨rfl, hk1⟩)
              | (go_at_call 17; (with_reducible refine (right_any _ _ _ _ m _ (V1.r2.step (bstep ((Below.refl _ _).drew) hk1)) k4 k3).mono ?_); rintro e wk2 ⟨rfl, hk2⟩)
              | (go_at_call 18; (with_reducible refine (same_any _ _ _ _ _ _ _ _ m m2 _ (V1.r1.step (bstep (bstep ((Below.refl _ _).drew) hk1) hk2)) (V1.r2.step (bstep (bstep ((Below.refl _ _).drew) hk1) hk2)) (V2.r1.step (bstep (bstep ((Below.refl _ _).drew) hk1) hk2)) (V2.r2.step (bstep (bstep ((Below.refl _ _).drew) hk1) hk2)) k3 k4).mono ?_); rintro e wk3 ⟨rfl, hk3⟩)
              | (go_at_call 16; (with_reducible refine (rsame_any _ _ _ _ _ _ _ _ m m2 _ (V1.r1.step (bstep (bstep (bstep ((Below.refl _ _).drew) hk1) hk2) hk3)) (V1.r2.step (bstep (bstep (bstep ((Below.refl _ _).drew) hk1) hk2) hk3)) (V2.r1.step (bstep (bstep (bstep ((Below.refl _ _).drew) hk1) hk2) hk3)) (V2.r2.step (bstep (bstep (bstep ((Below.refl _ _).drew) hk1) hk2) hk3)) k3 k4).mono ?_); rintro e wk4 ⟨rfl, hk4⟩))
          have hk := bstep (bstep (bstep (bstep ((Below.refl _ _).drew) hk1) hk2) hk3) hk4
          generalize wk4 = w7 at *
          replace hb := bstep hb hk
          replace V1 := V1.step hk
          clear hS hk hk1 hk2 hk3 hk4 V2 V3 V4 m10 m11 m12 m1l m20 m21 m22 m2l m30 m31 m32 m3l m40 m41 m42 m4l
          have m10 := V1.c0; have m11 := V1.c1; have m12 := V1.c2; have m1l := V1.lt
          go_upto_region 15 with (fail)
          go_cut [87] from 73 (fun s wx => s = .bool false ∧ w7 = wx)
          case first =>
            go_wp2_with (first
              | (go_at_call 19; refine (at_any _ _ _ (by omega) (by omega) (by omega) (by omega)).mono ?_; rintro e w' ⟨rfl, rfl⟩)
              | (go_at_call 20; refine (rat_any _ _ _ (by omega) (by omega) (by omega) (by omega)).mono ?_; rintro e w' ⟨rfl, rfl⟩))
            all_goals go_meet
            all_goals exact ⟨rfl, rfl⟩
          case rest =>
            obtain ⟨rfl, rfl⟩ := hcut
            go_wp2_with fail
            have hS : ∀ w', Below w7.heap.size w7 w' → (Below w7.heap.size w7 w' ∧ w'.cell? ⟨w.heap.size + 1, 0, none⟩ = some (.slice A1 m.W.length c1) ∧ w'.cell? ⟨w.heap.size + 1, 1, none⟩ = some (.slice B1 m.G.length d1) ∧ w'.cell? ⟨w.heap.size + 1, 2, none⟩ = some (.bool m.bad)) := fun w' h => ⟨h, (h.cell m1l).trans m10, (h.cell m1l).trans m11, (h.cell m1l).trans m12⟩
            go_region_held3 (fun w' => Below w7.heap.size w7 w' ∧ w'.cell? ⟨w.heap.size + 1, 0, none⟩ = some (.slice A1 m.W.length c1) ∧ w'.cell? ⟨w.heap.size + 1, 1, none⟩ = some (.slice B1 m.G.length d1) ∧ w'.cell? ⟨w.heap.size + 1, 2, none⟩ = some (.bool m.bad)) (first | exact hS _ (bstep (bstep (bstep (bstep ((Below.refl _ _).drew) hk1) hk2) hk3) hk4) | exact hS _ (bstep (bstep (bstep ((Below.refl _ _).drew) hk1) hk2) hk3) | exact hS _ (bstep (bstep ((Below.refl _ _).drew) hk1) hk2) | exact hS _ (bstep ((Below.refl _ _).drew) hk1) | exact hS _ ((Below.refl _ _).drew))
              (first
                | (go_at_call 21; (with_reducible refine (node_any _ _ _ _ m p _ k4 g1 p0 p1).mono ?_); rintro e wk1 ⟨rfl, hk1⟩)
                | (go_at_call 22; (with_reducible refine (rnode_any _ _ _ _ m p _ k4 g5).mono ?_); rintro e wk2 ⟨rfl, hk2⟩)
                | (go_at_call 23; (with_reducible refine (count_any _ _ _ _ m k _ (V1.r2.step (bstep (bstep ((Below.refl _ _).drew) hk1) hk2)) k4).mono ?_); rintro e wk3 ⟨rfl, hk3⟩)
                | (go_at_call 24; (with_reducible refine (rcount_any _ _ _ _ m k _ (V1.r2.step (bstep (bstep (bstep ((Below.refl _ _).drew) hk1) hk2) hk3)) k4 g5).mono ?_); rintro e wk4 ⟨rfl, hk4⟩))
            all_goals
              go_wp2
              go_ret
              exact ⟨rfl, bstep hb (bstep (bstep (bstep (bstep ((Below.refl _ _).drew) hk1) hk2) hk3) hk4)⟩

theorem opened {H : Type} {enc : TypeId × Value → H} {w : World} {base : Nat} {spare : Nat → Bool} {held : Bool} {r : Reach} {b0 : Nat} {v : Value} {d : DataW H} {pl : List MemPlace} (hv : Value.okWide Try.prog w r b0 26 v) (h : DataW.Trod enc Try.prog w base spare held 26 v d pl) :
    ∃ (A1 B1 : Option Addr) (c1 d1 : Nat) (m : Ar) (A2 B2 : Option Addr) (c2 d2 : Nat) (m2 : Ar) (n p k : Int), v = .agg #[.slice A1 m.W.length c1, .slice B1 m.G.length d1, .bool m.bad, .slice A2 m2.W.length c2, .slice B2 m2.G.length d2, .bool m2.bad, .int .i64 n, .int .i64 p, .int .u8 k] ∧ Row w A1 m.W ∧ Row w B1 m.G ∧ m.W.length ≤ maxLen ∧ m.G.length ≤ maxLen ∧ Row w A2 m2.W ∧ Row w B2 m2.G ∧ m2.W.length ≤ maxLen ∧ m2.G.length ≤ maxLen ∧
      (-9223372036854775808 ≤ n ∧ n ≤ 9223372036854775807) ∧ (-9223372036854775808 ≤ p ∧ p ≤ 9223372036854775807) ∧ (0 ≤ k ∧ k ≤ 255) := by
  obtain ⟨cs, rfl, hsz⟩ := okWide_struct Try.underlying26 hv
  obtain ⟨fuel, hf⟩ := h
  obtain ⟨xs, nn, _, _, hlen, hxl, hfs⟩ := DataW.trod_struct Try.underlying26 hf
  have k0 : Try.prog.cellsOf 26 = 9 := by kernel_rfl
  have k1 : Try.prog.cellsOf 24 = 3 := by kernel_rfl
  have k2 : Try.prog.cellsOf 3 = 1 := by kernel_rfl
  have k3 : Try.prog.cellsOf 5 = 1 := by kernel_rfl
  rw [k0] at hsz
  obtain ⟨l⟩ := cs
  match l, hsz with
  | [q0, q1, q2, q3, q4, q5, q6, q7, q8], _ =>
    match xs, hxl with
    | [y0, y1, y2, y3, y4], _ =>
      have f0 := hfs 0 _ rfl
      have f1 := hfs 1 _ rfl
      have f2 := hfs 2 _ rfl
      have f3 := hfs 3 _ rfl
      have f4 := hfs 4 _ rfl
      simp [k1, k2, k3, Value.cells] at f0 f1 f2 f3 f4
      obtain ⟨A1, B1, c1, d1, m, e0, R1, S1, l1, l2⟩ := open_mem f0
      obtain ⟨A2, B2, c2, d2, m2, e1, R2, S2, l3, l4⟩ := open_mem f1
      simp only [List.cons.injEq, and_true] at e0 e1
      obtain ⟨rfl, rfl, rfl⟩ := e0
      obtain ⟨rfl, rfl, rfl⟩ := e1
      obtain ⟨n, e2, _, u2⟩ := DataW.trod_int Try.underlying3 f2
      obtain ⟨p, e3, _, u3⟩ := DataW.trod_int Try.underlying3 f3
      obtain ⟨k, e4, _, u4⟩ := DataW.trod_int Try.underlying5 f4
      simp only [List.cons.injEq, and_true] at e2 e3 e4
      subst e2 e3 e4
      exact ⟨A1, B1, c1, d1, m, A2, B2, c2, d2, m2, n, p, k, rfl, R1, S1, l1, l2, R2, S2, l3, l4, bounds_i64 u2, bounds_i64 u3, bounds_u8 u4⟩

set_option maxRecDepth 100000 in
theorem lifted (os : Os) (started : os.Started) (H : Type) (enc : TypeId × Value → H) :
    ReturnsInHanded {} Try.checked os 3 .any (Rows.memTellsSpec.pre6 enc Try.prog Try.f3 Rows.memTellsRow.domain false) (Rows.memTellsSpec.post enc Try.prog Try.f3 false true false false) := by
  refine returnsInHanded_of_change (C := Try.checked) own started (by kernel_rfl) Try.func3
    (ChangeSpec.witness6 (enc := enc) (C := Try.checked) false ⟨#[], #[.agg #[.slice none 0 0, .slice none 0 0, .bool false, .slice none 0 0, .slice none 0 0, .bool false, .int .i64 0, .int .i64 0, .int .u8 0]], []⟩ 8 (by kernel_rfl) (by kernel_rfl) (by kernel_rfl) (by kernel_rfl)) ?_
  intro W base args ds gs before hval0 hW hcnd _
  have hval : ∀ (j : Nat) t v, Try.f3.params[j]? = some t → args[j]? = some v → Value.okWide Try.prog W .any base t v := hval0
  have hW' := hW
  obtain ⟨p, q, hA0, hV, rfl, hfz, hnd⟩ := hW
  have hA : DataW.TrodAll enc Try.prog W 0 (fun _ => true) true Try.f3.params.toList args.toList ds p := hA0
  rw [Try.params3] at hA hval
  obtain ⟨v0, vs0, d0, ds0, p0, q0, hargs, rfl, rfl, h0, r0⟩ := trodAll_cons hA
  obtain ⟨rfl, rfl, rfl⟩ := trodAll_nil r0
  obtain rfl : args = #[v0] := by cases args; simp_all
  obtain ⟨rfl, rfl⟩ := trodVars_none hV
  clear hA0 hval0
  obtain ⟨A1, B1, c1, d1, m, A2, B2, c2, d2, m2, n, p, k, rfl, R1, S1, l1, l2, R2, S2, l3, l4, ⟨n0, n1⟩, ⟨p0, p1⟩, ⟨k0, k1⟩⟩ := opened (hval 0 _ v0 rfl rfl) h0
  refine (walk A1 B1 c1 d1 m A2 B2 c2 d2 m2 n p k W R1 S1 l1 l2 R2 S2 l3 l4 n0 n1 p0 p1 k0 k1).mono fun e W' ⟨he, hb⟩ => ?_
  subst he
  exact ⟨_, rfl, law_post (tb := 4) (by kernel_rfl) (by kernel_rfl) (by kernel_rfl) Try.underlying4 rfl hW' rfl hb⟩

theorem over : Rows.memTellsRow.holds Try.pinned (OpenSpec.ofChange Rows.memTellsSpec) :=
  OpenClaim.holds_of_wide 3 Try.f3 rfl rfl rfl rfl rfl rfl rfl ⟨rfl, rfl, rfl, rfl, rfl⟩ rfl rfl rfl rfl rfl (by kernel_rfl) Try.func3 (by kernel_rfl)
    (of_decide_eq_true (by kernel_rfl)) (by unfold Func.isWrapper; first | (rw [if_pos (by decide +kernel)]; kernel_rfl) | (rw [if_neg (by decide +kernel)]; exact ⟨rfl, rfl⟩))
    (fun os started H enc _ => lifted os started H enc)
end MemTells

theorem memTells_holds : Rows.MemTellsSaid := MemTells.over
#print axioms memTells_holds
end Go.Proofs.Ytbpkndjnohdnjaa
