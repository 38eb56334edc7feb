/- For every arena and every two uint8, the law MemGuards (of a place that isn't Bad yet a touch is Bad just if there is none, or it is a cell but the link of a free node; turned to Live it isn't any more) returns true, and the arguments read afterwards as before. No conditions. -/
import Derived.Test.YtbpkndjnohdnjaaRows
import Derived.Test.YtbpkndjnohdnjaaShown2
import Derived.Test.YtbpkndjnohdnjaaLaw
import Derived.Test.YtbpkndjnohdnjaaOpen2
import Derived.Test.YtbpkndjnohdnjaaGuards
import Derived.IntWalk
namespace Go.Proofs.Ytbpkndjnohdnjaa
namespace MemGuards
open Go.ChangeShapes Go.WideShapes Go.ChangeAt Go.RowKit
set_option linter.unusedVariables false
set_option linter.unusedSimpArgs false

theorem own : ownKnob Try.prog.godebug = none := by kernel_rfl

set_option maxRecDepth 100000 in
set_option maxHeartbeats 8000000 in
theorem walk (A1 B1 : Option Addr) (c1 d1 : Nat) (m : Ar) (a b : Int) (w : World) (R1 : Row w A1 m.W) (S1 : Row w B1 m.G) (l1 : m.W.length ≤ maxLen) (l2 : m.G.length ≤ maxLen) (a0 : 0 ≤ a) (a1 : a ≤ 255) (b0 : 0 ≤ b) (b1 : b ≤ 255) :
    Calls Try.prog 6 #[.agg #[.slice A1 m.W.length c1, .slice B1 m.G.length d1, .bool m.bad], .int .u8 a, .int .u8 b] w fun e w' => e = .returned (.bool true) ∧ Below w.heap.size w w' := by
  cases q : mMays m
  · have hb : Below w.heap.size w w := Below.refl _ _
    go_enter Try.func6, Try.ntmps6
    go_wp2_with fail
    refine (shown_any _).mono ?_
    rintro e w1 ⟨rfl, hk⟩
    replace hb := bstep hb (bstep (by repeat (first | exact Below.refl _ _ | apply up | apply dr | apply drN)) hk)
    have V1 := (Vr.box (c := c1) (c' := d1) R1 S1).step (bstep (by repeat (first | exact Below.refl _ _ | apply up | apply dr | apply drN)) hk)
    clear hk
    have m10 := V1.c0; have m11 := V1.c1; have m12 := V1.c2; have m1l := V1.lt
    go_wp2_with fail
    refine (may_any _ _ _ _ m _ (V1.r2.step (by repeat (first | exact Below.refl _ _ | apply up | apply dr | apply drN))) l2 l1).mono ?_
    rintro e w2 ⟨rfl, hk⟩
    replace hb := bstep hb (bstep (by repeat (first | exact Below.refl _ _ | apply up | apply dr | apply drN)) hk)
    replace V1 := V1.step (bstep (by repeat (first | exact Below.refl _ _ | apply up | apply dr | apply drN)) hk)
    clear hk
    clear m10 m11 m12 m1l
    have m10 := V1.c0; have m11 := V1.c1; have m12 := V1.c2; have m1l := V1.lt
    go_wp2
    go_ret
    exact ⟨rfl, hb⟩
  · rcases (Bool.eq_false_or_eq_true m.bad).symm with qb | qb
    all_goals
      have QB := hid qb
      clear qb
    · have hR : mSmall m = true ∧ mRight m = true := by simpa [mMays] using q
      obtain ⟨g1, g2, g3, g4, g5⟩ := mRight_out hR.2
      have g6 : m.G.length ≤ 61 ∧ m.W.length ≤ 368 := by simpa [mSmall] using hR.1
      obtain ⟨g6, g7⟩ := g6
      have G3 := hid g3
      have G4 := hid g4
      have G5 := hid g5
      clear g3 g4 g5 hR
      have hne : m.G ≠ [] := by intro h; rw [h] at g1; simp at g1
      obtain ⟨i, hi⟩ : ∃ i : Nat, 1 + a % ((m.G.length : Int) - 1) = i := ⟨(1 + a % ((m.G.length : Int) - 1)).toNat, by have := Int.emod_nonneg a (b := (m.G.length : Int) - 1) (by omega); omega⟩
      have i0 : 1 ≤ i := by have := Int.emod_nonneg a (b := (m.G.length : Int) - 1) (by omega); omega
      have i1 : i < m.G.length := by have := Int.emod_lt_of_pos a (b := (m.G.length : Int) - 1) (by omega); omega
      have i2 : (i : Int) < (m.G.length : Int) := by omega
      have i3 : 0 ≤ (i : Int) := by omega
      obtain ⟨z, hz⟩ : ∃ z, b % 4 = z := ⟨_, rfl⟩
      have z0 : 0 ≤ z ∧ z ≤ 3 := by omega
      obtain ⟨z0, z1⟩ := z0
      obtain ⟨gb, ob, x, rfl, hgb, HX, hc⟩ := S1.atX i i1
      clear hc
      obtain ⟨p, hp⟩ : ∃ p, 124 + 4 * (i : Int) + z = p := ⟨_, rfl⟩
      have HIN : Hid (mIn m.W p = true) := by show _ = _; rw [← hp]; exact place_in G3.out i0 i1 z0 z1
      have p0 : 0 ≤ p ∧ p ≤ 1000 := by omega
      obtain ⟨p0, p1⟩ := p0
      have k1 : m.G.length ≤ 1000000000 := by omega
      have k3 : m.W.length ≤ 1000000 := by omega
      have k4 : m.G.length ≤ 1000000 := by omega
      have k2 : (mTurn m i 1).W.length ≤ 1000000 ∧ (mTurn m i 1).G.length ≤ 1000000 ∧ 2 ≤ (mTurn m i 1).G.length := by obtain ⟨e1, e2⟩ := turned_len (m := m) (i := (i : Int)) (z := 1); rw [e1, e2]; omega
      have hcase : (z = 0 ∧ mNode m.G p = 0 ∧ mBad m p = false) ∨ (1 ≤ z ∧ mNode m.G p = i ∧ mBad m p = (x == 0)) := by
        by_cases h : z = 0
        · left
          have hn : mNode m.G p = 0 := by rw [← hp, h]; exact place_link
          exact ⟨h, hn, (bad_link HIN.out hn).trans QB.out⟩
        · right
          have hn : mNode m.G p = i := by rw [← hp]; exact place_cell i0 i1 (by omega) z1
          exact ⟨by omega, hn, by rw [bad_cell HIN.out hn i0 HX.out, QB.out]; rfl⟩
      have TR : Hid (mBad m z = false) := (root_bad G3.out g1 z0 z1).trans QB.out
      have TX : Hid ((mTurn m i 1).bad = !(x == 0)) := turned_is QB.out i0 i1 HX.out
      have TD : Hid (mBad (mTurn m i 1) p = !(x == 0)) := by
        show _ = _
        rw [turned_bad HIN.out (by rcases hcase with h | h; exact .inl h.2.1; exact .inr h.2.1) i0 i1 HX.out]
        exact TX.out
      have HC := hid hcase
      clear hcase
      have hb : Below w.heap.size w w := Below.refl _ _
      go_enter Try.func6, Try.ntmps6
      go_wp2_with fail
      refine (shown_any _).mono ?_
      rintro e w1 ⟨rfl, hk⟩
      replace hb := bstep hb (bstep (by repeat (first | exact Below.refl _ _ | apply up | apply dr | apply drN)) hk)
      have V1 := (Vr.box (c := c1) (c' := d1) R1 S1).step (bstep (by repeat (first | exact Below.refl _ _ | apply up | apply dr | apply drN)) hk)
      clear hk
      have m10 := V1.c0; have m11 := V1.c1; have m12 := V1.c2; have m1l := V1.lt
      go_wp2_with fail
      refine (may_any _ _ _ _ m _ (V1.r2.step (by repeat (first | exact Below.refl _ _ | apply up | apply dr | apply drN))) l2 l1).mono ?_
      rintro e w2 ⟨rfl, hk⟩
      replace hb := bstep hb (bstep (by repeat (first | exact Below.refl _ _ | apply up | apply dr | apply drN)) hk)
      replace V1 := V1.step (bstep (by repeat (first | exact Below.refl _ _ | apply up | apply dr | apply drN)) hk)
      clear hk
      clear m10 m11 m12 m1l
      have m10 := V1.c0; have m11 := V1.c1; have m12 := V1.c2; have m1l := V1.lt
      have qb := QB.out
      go_upto_region 4 with (fail)
      clear qb
      go_wp2_with fail
      refine (at_any _ _ _ (by omega) (by omega) (by omega) (by omega)).mono ?_
      rintro e w' ⟨rfl, rfl⟩
      go_wp2_with fail
      refine (load_any _ _ _ _ m p _ (V1.r1.step (by repeat (first | exact Below.refl _ _ | apply up | apply dr | apply drN))) (V1.r2.step (by repeat (first | exact Below.refl _ _ | apply up | apply dr | apply drN))) k3 k4 g1 (by omega) (by omega)).mono ?_
      rintro e w3 ⟨A2, B2, c2, d2, rfl, R2, S2, hk⟩
      replace hb := bstep hb (bstep (by repeat (first | exact Below.refl _ _ | apply up | apply dr | apply drN)) hk)
      replace V1 := V1.step (bstep (by repeat (first | exact Below.refl _ _ | apply up | apply dr | apply drN)) hk)
      clear hk
      clear m10 m11 m12 m1l
      have m10 := V1.c0; have m11 := V1.c1; have m12 := V1.c2; have m1l := V1.lt
      go_wp2_with fail
      refine (cas_any _ _ _ _ m p 0 0 _ (V1.r1.step (by repeat (first | exact Below.refl _ _ | apply up | apply dr | apply drN))) (V1.r2.step (by repeat (first | exact Below.refl _ _ | apply up | apply dr | apply drN))) k3 k4 g1 (by omega) (by omega)).mono ?_
      rintro e w4 ⟨A3, B3, c3, d3, rfl, R3, S3, hk⟩
      replace hb := bstep hb (bstep (by repeat (first | exact Below.refl _ _ | apply up | apply dr | apply drN)) hk)
      replace V1 := V1.step (bstep (by repeat (first | exact Below.refl _ _ | apply up | apply dr | apply drN)) hk)
      have V2 := (Vr.box (c := c2) (c' := d2) R2 S2).step (bstep (by repeat (first | exact Below.refl _ _ | apply up | apply dr | apply drN)) hk)
      clear hk
      clear m10 m11 m12 m1l
      have m10 := V1.c0; have m11 := V1.c1; have m12 := V1.c2; have m1l := V1.lt
      have m20 := V2.c0; have m21 := V2.c1; have m22 := V2.c2; have m2l := V2.lt
      go_wp2_with fail
      refine (store_any _ _ _ _ m p 5 _ (V1.r1.step (by repeat (first | exact Below.refl _ _ | apply up | apply dr | apply drN))) (V1.r2.step (by repeat (first | exact Below.refl _ _ | apply up | apply dr | apply drN))) k3 k4 g1 (by omega) (by omega)).mono ?_
      rintro e w5 ⟨A4, B4, c4, d4, rfl, R4, S4, hk⟩
      replace hb := bstep hb (bstep (by repeat (first | exact Below.refl _ _ | apply up | apply dr | apply drN)) hk)
      replace V1 := V1.step (bstep (by repeat (first | exact Below.refl _ _ | apply up | apply dr | apply drN)) hk)
      replace V2 := V2.step (bstep (by repeat (first | exact Below.refl _ _ | apply up | apply dr | apply drN)) hk)
      have V3 := (Vr.box (c := c3) (c' := d3) R3 S3).step (bstep (by repeat (first | exact Below.refl _ _ | apply up | apply dr | apply drN)) hk)
      clear hk
      clear m10 m11 m12 m1l
      have m10 := V1.c0; have m11 := V1.c1; have m12 := V1.c2; have m1l := V1.lt
      clear m20 m21 m22 m2l
      have m20 := V2.c0; have m21 := V2.c1; have m22 := V2.c2; have m2l := V2.lt
      have m30 := V3.c0; have m31 := V3.c1; have m32 := V3.c2; have m3l := V3.lt
      go_upto_region 10 with (fail)
      replace hb := bstep hb (boxed w5 (.cells #[.slice A4 (mStore m p 5).W.length c4, .slice B4 (mStore m p 5).G.length d4, .bool (mStore m p 5).bad] 24))
      replace V1 := V1.step (boxed w5 (.cells #[.slice A4 (mStore m p 5).W.length c4, .slice B4 (mStore m p 5).G.length d4, .bool (mStore m p 5).bad] 24))
      replace V2 := V2.step (boxed w5 (.cells #[.slice A4 (mStore m p 5).W.length c4, .slice B4 (mStore m p 5).G.length d4, .bool (mStore m p 5).bad] 24))
      replace V3 := V3.step (boxed w5 (.cells #[.slice A4 (mStore m p 5).W.length c4, .slice B4 (mStore m p 5).G.length d4, .bool (mStore m p 5).bad] 24))
      have V4 := Vr.box (w := w5) (m := (mStore m p 5)) (c := c4) (c' := d4) R4 S4
      obtain ⟨b4, hbl4⟩ : ∃ b, w5.heap.size = b := ⟨_, rfl⟩
      rw [hbl4] at V4 ⊢
      generalize w5.alloc (.cells #[.slice A4 (mStore m p 5).W.length c4, .slice B4 (mStore m p 5).G.length d4, .bool (mStore m p 5).bad] 24) = w6 at *
      clear hbl4 R4 S4
      clear m10 m11 m12 m1l
      have m10 := V1.c0; have m11 := V1.c1; have m12 := V1.c2; have m1l := V1.lt
      clear m20 m21 m22 m2l
      have m20 := V2.c0; have m21 := V2.c1; have m22 := V2.c2; have m2l := V2.lt
      clear m30 m31 m32 m3l
      have m30 := V3.c0; have m31 := V3.c1; have m32 := V3.c2; have m3l := V3.lt
      have m40 := V4.c0; have m41 := V4.c1; have m42 := V4.c2; have m4l := V4.lt
      have cx := V1.r2.cellX i i1 HX
      have hgb' : gb < w6.heap.size := Nat.lt_of_lt_of_le hgb hb.size
      obtain ⟨b2, hbl2⟩ : ∃ b, w3.heap.size = b := ⟨_, rfl⟩
      obtain ⟨b3, hbl3⟩ : ∃ b, w4.heap.size = b := ⟨_, rfl⟩
      rw [hbl2] at V2 m20 m21 m22 m2l ⊢
      rw [hbl3] at V3 m30 m31 m32 m3l ⊢
      clear hbl2 hbl3
      have hcases : (z = 0 ∧ mNode m.G p = 0 ∧ mBad m p = false ∧ ((x == 0) = true ∨ (x == 0) = false)) ∨ (1 ≤ z ∧ mNode m.G p = i ∧ mBad m p = true ∧ (x == 0) = true) ∨ (1 ≤ z ∧ mNode m.G p = i ∧ mBad m p = false ∧ (x == 0) = false) := by
        rcases HC.out with ⟨h1, h2, h3⟩ | ⟨h1, h2, h3⟩
        · left; exact ⟨h1, h2, h3, by cases (x == 0) <;> simp⟩
        · right; cases t : (x == 0)
          · right; exact ⟨h1, h2, h3.trans t, rfl⟩
          · left; exact ⟨h1, h2, h3.trans t, rfl⟩
      rcases hcases with ⟨h1, h2, h3, h4⟩ | ⟨h1, h2, h3, tx⟩ | ⟨h1, h2, h3, tx⟩
      · have h5 : z ≤ 0 := by omega
        have Z0 := hid h1
        clear h1
        have TB := hid h3
        clear h3
        rcases h4 with tx | tx
        · clear HC
          have Tx := hid tx
          go_upto_region 11 with (fail)
          clear tx
          go_wp2_with fail
          refine (turn_any _ _ _ _ m i 1 _ (V1.r1.step (by repeat (first | exact Below.refl _ _ | apply up | apply dr | apply drN))) (V1.r2.step (by repeat (first | exact Below.refl _ _ | apply up | apply dr | apply drN))) k3 k4).mono ?_
          rintro e w7 ⟨A5, B5, c5, d5, rfl, R5, S5, hk⟩
          replace hb := bstep hb (bstep (by repeat (first | exact Below.refl _ _ | apply up | apply dr | apply drN)) hk)
          replace V1 := V1.step (bstep (by repeat (first | exact Below.refl _ _ | apply up | apply dr | apply drN)) hk)
          replace V2 := V2.step (bstep (by repeat (first | exact Below.refl _ _ | apply up | apply dr | apply drN)) hk)
          replace V3 := V3.step (bstep (by repeat (first | exact Below.refl _ _ | apply up | apply dr | apply drN)) hk)
          replace V4 := V4.step (bstep (by repeat (first | exact Below.refl _ _ | apply up | apply dr | apply drN)) hk)
          clear hk
          clear m10 m11 m12 m1l
          have m10 := V1.c0; have m11 := V1.c1; have m12 := V1.c2; have m1l := V1.lt
          clear m20 m21 m22 m2l
          have m20 := V2.c0; have m21 := V2.c1; have m22 := V2.c2; have m2l := V2.lt
          clear m30 m31 m32 m3l
          have m30 := V3.c0; have m31 := V3.c1; have m32 := V3.c2; have m3l := V3.lt
          clear m40 m41 m42 m4l
          have m40 := V4.c0; have m41 := V4.c1; have m42 := V4.c2; have m4l := V4.lt
          go_wp2_with fail
          refine (load_any _ _ _ _ (mTurn m i 1) p _ (R5.step (by repeat (first | exact Below.refl _ _ | apply up | apply dr | apply drN))) (S5.step (by repeat (first | exact Below.refl _ _ | apply up | apply dr | apply drN))) k2.1 k2.2.1 k2.2.2 (by omega) (by omega)).mono ?_
          rintro e w8 ⟨A6, B6, c6, d6, rfl, R6, S6, hk⟩
          replace hb := bstep hb (bstep (by repeat (first | exact Below.refl _ _ | apply up | apply dr | apply drN)) hk)
          replace V1 := V1.step (bstep (by repeat (first | exact Below.refl _ _ | apply up | apply dr | apply drN)) hk)
          replace V2 := V2.step (bstep (by repeat (first | exact Below.refl _ _ | apply up | apply dr | apply drN)) hk)
          replace V3 := V3.step (bstep (by repeat (first | exact Below.refl _ _ | apply up | apply dr | apply drN)) hk)
          replace V4 := V4.step (bstep (by repeat (first | exact Below.refl _ _ | apply up | apply dr | apply drN)) hk)
          have V5 := (Vr.box (c := c5) (c' := d5) R5 S5).step (bstep (by repeat (first | exact Below.refl _ _ | apply up | apply dr | apply drN)) hk)
          clear hk
          clear m10 m11 m12 m1l
          have m10 := V1.c0; have m11 := V1.c1; have m12 := V1.c2; have m1l := V1.lt
          clear m20 m21 m22 m2l
          have m20 := V2.c0; have m21 := V2.c1; have m22 := V2.c2; have m2l := V2.lt
          clear m30 m31 m32 m3l
          have m30 := V3.c0; have m31 := V3.c1; have m32 := V3.c2; have m3l := V3.lt
          clear m40 m41 m42 m4l
          have m40 := V4.c0; have m41 := V4.c1; have m42 := V4.c2; have m4l := V4.lt
          have m50 := V5.c0; have m51 := V5.c1; have m52 := V5.c2; have m5l := V5.lt
          go_wp2_with fail
          refine (load_any _ _ _ _ m z _ (V1.r1.step (by repeat (first | exact Below.refl _ _ | apply up | apply dr | apply drN))) (V1.r2.step (by repeat (first | exact Below.refl _ _ | apply up | apply dr | apply drN))) k3 k4 g1 (by omega) (by omega)).mono ?_
          rintro e w9 ⟨A7, B7, c7, d7, rfl, R7, S7, hk⟩
          replace hb := bstep hb (bstep (by repeat (first | exact Below.refl _ _ | apply up | apply dr | apply drN)) hk)
          replace V1 := V1.step (bstep (by repeat (first | exact Below.refl _ _ | apply up | apply dr | apply drN)) hk)
          replace V2 := V2.step (bstep (by repeat (first | exact Below.refl _ _ | apply up | apply dr | apply drN)) hk)
          replace V3 := V3.step (bstep (by repeat (first | exact Below.refl _ _ | apply up | apply dr | apply drN)) hk)
          replace V4 := V4.step (bstep (by repeat (first | exact Below.refl _ _ | apply up | apply dr | apply drN)) hk)
          replace V5 := V5.step (bstep (by repeat (first | exact Below.refl _ _ | apply up | apply dr | apply drN)) hk)
          have V6 := (Vr.box (c := c6) (c' := d6) R6 S6).step (bstep (by repeat (first | exact Below.refl _ _ | apply up | apply dr | apply drN)) hk)
          clear hk
          clear m10 m11 m12 m1l
          have m10 := V1.c0; have m11 := V1.c1; have m12 := V1.c2; have m1l := V1.lt
          clear m20 m21 m22 m2l
          have m20 := V2.c0; have m21 := V2.c1; have m22 := V2.c2; have m2l := V2.lt
          clear m30 m31 m32 m3l
          have m30 := V3.c0; have m31 := V3.c1; have m32 := V3.c2; have m3l := V3.lt
          clear m40 m41 m42 m4l
          have m40 := V4.c0; have m41 := V4.c1; have m42 := V4.c2; have m4l := V4.lt
          clear m50 m51 m52 m5l
          have m50 := V5.c0; have m51 := V5.c1; have m52 := V5.c2; have m5l := V5.lt
          have m60 := V6.c0; have m61 := V6.c1; have m62 := V6.c2; have m6l := V6.lt
          go_upto_region 14 with (fail)
          replace hb := bstep hb (boxed w9 (.cells #[.slice A7 (mLoad m z).W.length c7, .slice B7 (mLoad m z).G.length d7, .bool (mLoad m z).bad] 24))
          replace V1 := V1.step (boxed w9 (.cells #[.slice A7 (mLoad m z).W.length c7, .slice B7 (mLoad m z).G.length d7, .bool (mLoad m z).bad] 24))
          replace V2 := V2.step (boxed w9 (.cells #[.slice A7 (mLoad m z).W.length c7, .slice B7 (mLoad m z).G.length d7, .bool (mLoad m z).bad] 24))
          replace V3 := V3.step (boxed w9 (.cells #[.slice A7 (mLoad m z).W.length c7, .slice B7 (mLoad m z).G.length d7, .bool (mLoad m z).bad] 24))
          replace V4 := V4.step (boxed w9 (.cells #[.slice A7 (mLoad m z).W.length c7, .slice B7 (mLoad m z).G.length d7, .bool (mLoad m z).bad] 24))
          replace V5 := V5.step (boxed w9 (.cells #[.slice A7 (mLoad m z).W.length c7, .slice B7 (mLoad m z).G.length d7, .bool (mLoad m z).bad] 24))
          replace V6 := V6.step (boxed w9 (.cells #[.slice A7 (mLoad m z).W.length c7, .slice B7 (mLoad m z).G.length d7, .bool (mLoad m z).bad] 24))
          have V7 := Vr.box (w := w9) (m := (mLoad m z)) (c := c7) (c' := d7) R7 S7
          obtain ⟨b7, hbl7⟩ : ∃ b, w9.heap.size = b := ⟨_, rfl⟩
          rw [hbl7] at V7 ⊢
          generalize w9.alloc (.cells #[.slice A7 (mLoad m z).W.length c7, .slice B7 (mLoad m z).G.length d7, .bool (mLoad m z).bad] 24) = w10 at *
          clear hbl7 R7 S7
          clear m10 m11 m12 m1l
          have m10 := V1.c0; have m11 := V1.c1; have m12 := V1.c2; have m1l := V1.lt
          clear m20 m21 m22 m2l
          have m20 := V2.c0; have m21 := V2.c1; have m22 := V2.c2; have m2l := V2.lt
          clear m30 m31 m32 m3l
          have m30 := V3.c0; have m31 := V3.c1; have m32 := V3.c2; have m3l := V3.lt
          clear m40 m41 m42 m4l
          have m40 := V4.c0; have m41 := V4.c1; have m42 := V4.c2; have m4l := V4.lt
          clear m50 m51 m52 m5l
          have m50 := V5.c0; have m51 := V5.c1; have m52 := V5.c2; have m5l := V5.lt
          clear m60 m61 m62 m6l
          have m60 := V6.c0; have m61 := V6.c1; have m62 := V6.c2; have m6l := V6.lt
          have m70 := V7.c0; have m71 := V7.c1; have m72 := V7.c2; have m7l := V7.lt
          have cx := V1.r2.cellX i i1 HX
          have hgb' : gb < w10.heap.size := Nat.lt_of_lt_of_le hgb hb.size
          obtain ⟨b5, hbl5⟩ : ∃ b, w7.heap.size = b := ⟨_, rfl⟩
          obtain ⟨b6, hbl6⟩ : ∃ b, w8.heap.size = b := ⟨_, rfl⟩
          rw [hbl5] at V5 m50 m51 m52 m5l ⊢
          rw [hbl6] at V6 m60 m61 m62 m6l ⊢
          clear hbl5 hbl6
          have tx := Tx.out
          have n22 : w10.cell? ⟨b2, 2, none⟩ = some (.bool false) := by rw [m22]; exact congrArg (fun q => some (Value.bool q)) TB.out
          have n32 : w10.cell? ⟨b3, 2, none⟩ = some (.bool false) := by rw [m32]; exact congrArg (fun q => some (Value.bool q)) TB.out
          have n42 : w10.cell? ⟨b4, 2, none⟩ = some (.bool false) := by rw [m42]; exact congrArg (fun q => some (Value.bool q)) TB.out
          have n72 : w10.cell? ⟨b7, 2, none⟩ = some (.bool false) := by rw [m72]; exact congrArg (fun q => some (Value.bool q)) TR.out
          have n52 : w10.cell? ⟨b5, 2, none⟩ = some (.bool false) := by rw [m52]; exact congrArg (fun q => some (Value.bool q)) (TX.out.trans (by rw [tx]; rfl))
          have n62 : w10.cell? ⟨b6, 2, none⟩ = some (.bool false) := by rw [m62]; exact congrArg (fun q => some (Value.bool q)) (TD.out.trans (by rw [tx]; rfl))
          have x1 : (x != 0) = false := by have := tx; simp at this ⊢; omega
          clear m20 m21 m22 m30 m31 m32 m40 m41 m42 m50 m51 m52 m60 m61 m62 m70 m71 m72
          have p2 : -9223372036854775808 ≤ p := by omega
          have p3 : p ≤ 9223372036854775807 := by omega
          have y3 : IntKind.i64.wrap (i : Int) = i := IntWalk.i64_in _ (by omega)
          have y0 : IntKind.i64.wrap 0 = 0 := IntWalk.i64_in _ (by omega)
          have hmn : (if 1 < z then 1 else z) = 0 := by split <;> omega
          clear V2 V3 V4 V5 V6 V7 l1 l2 q a0 a1 b0 b1 k2 k3 k4 hi hz hp
          go_wp2_with fail
          have hS : ∀ w', Below w10.heap.size w10 w' → (Below w10.heap.size w10 w' ∧ w'.cell? ⟨w.heap.size, 0, none⟩ = some (.slice A1 m.W.length c1) ∧ w'.cell? ⟨w.heap.size, 1, none⟩ = some (.slice (some ⟨gb, ob, none⟩) m.G.length d1) ∧ w'.cell? ⟨w.heap.size, 2, none⟩ = some (.bool m.bad) ∧ w'.cell? ⟨b2, 2, none⟩ = some (.bool false) ∧ w'.cell? ⟨b3, 2, none⟩ = some (.bool false) ∧ w'.cell? ⟨b4, 2, none⟩ = some (.bool false) ∧ w'.cell? ⟨b5, 2, none⟩ = some (.bool false) ∧ w'.cell? ⟨b6, 2, none⟩ = some (.bool false) ∧ w'.cell? ⟨b7, 2, none⟩ = some (.bool false) ∧ w'.cell? ⟨gb, ob + i, none⟩ = some (.int .i64 x)) := fun w' h => ⟨h, (h.cell m1l).trans m10, (h.cell m1l).trans m11, (h.cell m1l).trans m12, (h.cell m2l).trans n22, (h.cell m3l).trans n32, (h.cell m4l).trans n42, (h.cell m5l).trans n52, (h.cell m6l).trans n62, (h.cell m7l).trans n72, (h.cell hgb').trans cx⟩
          go_region_held3 (fun w' => Below w10.heap.size w10 w' ∧ w'.cell? ⟨w.heap.size, 0, none⟩ = some (.slice A1 m.W.length c1) ∧ w'.cell? ⟨w.heap.size, 1, none⟩ = some (.slice (some ⟨gb, ob, none⟩) m.G.length d1) ∧ w'.cell? ⟨w.heap.size, 2, none⟩ = some (.bool m.bad) ∧ w'.cell? ⟨b2, 2, none⟩ = some (.bool false) ∧ w'.cell? ⟨b3, 2, none⟩ = some (.bool false) ∧ w'.cell? ⟨b4, 2, none⟩ = some (.bool false) ∧ w'.cell? ⟨b5, 2, none⟩ = some (.bool false) ∧ w'.cell? ⟨b6, 2, none⟩ = some (.bool false) ∧ w'.cell? ⟨b7, 2, none⟩ = some (.bool false) ∧ w'.cell? ⟨gb, ob + i, none⟩ = some (.int .i64 x)) (first | exact hS _ ((Below.refl _ _).drew) | exact hS _ (bstep ((Below.refl _ _).drew) hk) | (go_split_ands; exact hS _ (bstep (by assumption) hk)))
            (first
              | (go_at_call 21; (with_reducible refine (node_any _ _ _ _ m p _ k1 g1 p2 p3).mono ?_); rintro e wk ⟨rfl, hk⟩))
          all_goals
            go_wp2
            go_ret
            exact ⟨rfl, bstep hb (bstep ((Below.refl _ _).drew) hk)⟩
        · clear HC
          have Tx := hid tx
          go_upto_region 11 with (fail)
          clear tx
          go_wp2_with fail
          refine (turn_any _ _ _ _ m i 1 _ (V1.r1.step (by repeat (first | exact Below.refl _ _ | apply up | apply dr | apply drN))) (V1.r2.step (by repeat (first | exact Below.refl _ _ | apply up | apply dr | apply drN))) k3 k4).mono ?_
          rintro e w7 ⟨A5, B5, c5, d5, rfl, R5, S5, hk⟩
          replace hb := bstep hb (bstep (by repeat (first | exact Below.refl _ _ | apply up | apply dr | apply drN)) hk)
          replace V1 := V1.step (bstep (by repeat (first | exact Below.refl _ _ | apply up | apply dr | apply drN)) hk)
          replace V2 := V2.step (bstep (by repeat (first | exact Below.refl _ _ | apply up | apply dr | apply drN)) hk)
          replace V3 := V3.step (bstep (by repeat (first | exact Below.refl _ _ | apply up | apply dr | apply drN)) hk)
          replace V4 := V4.step (bstep (by repeat (first | exact Below.refl _ _ | apply up | apply dr | apply drN)) hk)
          clear hk
          clear m10 m11 m12 m1l
          have m10 := V1.c0; have m11 := V1.c1; have m12 := V1.c2; have m1l := V1.lt
          clear m20 m21 m22 m2l
          have m20 := V2.c0; have m21 := V2.c1; have m22 := V2.c2; have m2l := V2.lt
          clear m30 m31 m32 m3l
          have m30 := V3.c0; have m31 := V3.c1; have m32 := V3.c2; have m3l := V3.lt
          clear m40 m41 m42 m4l
          have m40 := V4.c0; have m41 := V4.c1; have m42 := V4.c2; have m4l := V4.lt
          go_wp2_with fail
          refine (load_any _ _ _ _ (mTurn m i 1) p _ (R5.step (by repeat (first | exact Below.refl _ _ | apply up | apply dr | apply drN))) (S5.step (by repeat (first | exact Below.refl _ _ | apply up | apply dr | apply drN))) k2.1 k2.2.1 k2.2.2 (by omega) (by omega)).mono ?_
          rintro e w8 ⟨A6, B6, c6, d6, rfl, R6, S6, hk⟩
          replace hb := bstep hb (bstep (by repeat (first | exact Below.refl _ _ | apply up | apply dr | apply drN)) hk)
          replace V1 := V1.step (bstep (by repeat (first | exact Below.refl _ _ | apply up | apply dr | apply drN)) hk)
          replace V2 := V2.step (bstep (by repeat (first | exact Below.refl _ _ | apply up | apply dr | apply drN)) hk)
          replace V3 := V3.step (bstep (by repeat (first | exact Below.refl _ _ | apply up | apply dr | apply drN)) hk)
          replace V4 := V4.step (bstep (by repeat (first | exact Below.refl _ _ | apply up | apply dr | apply drN)) hk)
          have V5 := (Vr.box (c := c5) (c' := d5) R5 S5).step (bstep (by repeat (first | exact Below.refl _ _ | apply up | apply dr | apply drN)) hk)
          clear hk
          clear m10 m11 m12 m1l
          have m10 := V1.c0; have m11 := V1.c1; have m12 := V1.c2; have m1l := V1.lt
          clear m20 m21 m22 m2l
          have m20 := V2.c0; have m21 := V2.c1; have m22 := V2.c2; have m2l := V2.lt
          clear m30 m31 m32 m3l
          have m30 := V3.c0; have m31 := V3.c1; have m32 := V3.c2; have m3l := V3.lt
          clear m40 m41 m42 m4l
          have m40 := V4.c0; have m41 := V4.c1; have m42 := V4.c2; have m4l := V4.lt
          have m50 := V5.c0; have m51 := V5.c1; have m52 := V5.c2; have m5l := V5.lt
          go_wp2_with fail
          refine (load_any _ _ _ _ m z _ (V1.r1.step (by repeat (first | exact Below.refl _ _ | apply up | apply dr | apply drN))) (V1.r2.step (by repeat (first | exact Below.refl _ _ | apply up | apply dr | apply drN))) k3 k4 g1 (by omega) (by omega)).mono ?_
          rintro e w9 ⟨A7, B7, c7, d7, rfl, R7, S7, hk⟩
          replace hb := bstep hb (bstep (by repeat (first | exact Below.refl _ _ | apply up | apply dr | apply drN)) hk)
          replace V1 := V1.step (bstep (by repeat (first | exact Below.refl _ _ | apply up | apply dr | apply drN)) hk)
          replace V2 := V2.step (bstep (by repeat (first | exact Below.refl _ _ | apply up | apply dr | apply drN)) hk)
          replace V3 := V3.step (bstep (by repeat (first | exact Below.refl _ _ | apply up | apply dr | apply drN)) hk)
          replace V4 := V4.step (bstep (by repeat (first | exact Below.refl _ _ | apply up | apply dr | apply drN)) hk)
          replace V5 := V5.step (bstep (by repeat (first | exact Below.refl _ _ | apply up | apply dr | apply drN)) hk)
          have V6 := (Vr.box (c := c6) (c' := d6) R6 S6).step (bstep (by repeat (first | exact Below.refl _ _ | apply up | apply dr | apply drN)) hk)
          clear hk
          clear m10 m11 m12 m1l
          have m10 := V1.c0; have m11 := V1.c1; have m12 := V1.c2; have m1l := V1.lt
          clear m20 m21 m22 m2l
          have m20 := V2.c0; have m21 := V2.c1; have m22 := V2.c2; have m2l := V2.lt
          clear m30 m31 m32 m3l
          have m30 := V3.c0; have m31 := V3.c1; have m32 := V3.c2; have m3l := V3.lt
          clear m40 m41 m42 m4l
          have m40 := V4.c0; have m41 := V4.c1; have m42 := V4.c2; have m4l := V4.lt
          clear m50 m51 m52 m5l
          have m50 := V5.c0; have m51 := V5.c1; have m52 := V5.c2; have m5l := V5.lt
          have m60 := V6.c0; have m61 := V6.c1; have m62 := V6.c2; have m6l := V6.lt
          go_upto_region 14 with (fail)
          replace hb := bstep hb (boxed w9 (.cells #[.slice A7 (mLoad m z).W.length c7, .slice B7 (mLoad m z).G.length d7, .bool (mLoad m z).bad] 24))
          replace V1 := V1.step (boxed w9 (.cells #[.slice A7 (mLoad m z).W.length c7, .slice B7 (mLoad m z).G.length d7, .bool (mLoad m z).bad] 24))
          replace V2 := V2.step (boxed w9 (.cells #[.slice A7 (mLoad m z).W.length c7, .slice B7 (mLoad m z).G.length d7, .bool (mLoad m z).bad] 24))
          replace V3 := V3.step (boxed w9 (.cells #[.slice A7 (mLoad m z).W.length c7, .slice B7 (mLoad m z).G.length d7, .bool (mLoad m z).bad] 24))
          replace V4 := V4.step (boxed w9 (.cells #[.slice A7 (mLoad m z).W.length c7, .slice B7 (mLoad m z).G.length d7, .bool (mLoad m z).bad] 24))
          replace V5 := V5.step (boxed w9 (.cells #[.slice A7 (mLoad m z).W.length c7, .slice B7 (mLoad m z).G.length d7, .bool (mLoad m z).bad] 24))
          replace V6 := V6.step (boxed w9 (.cells #[.slice A7 (mLoad m z).W.length c7, .slice B7 (mLoad m z).G.length d7, .bool (mLoad m z).bad] 24))
          have V7 := Vr.box (w := w9) (m := (mLoad m z)) (c := c7) (c' := d7) R7 S7
          obtain ⟨b7, hbl7⟩ : ∃ b, w9.heap.size = b := ⟨_, rfl⟩
          rw [hbl7] at V7 ⊢
          generalize w9.alloc (.cells #[.slice A7 (mLoad m z).W.length c7, .slice B7 (mLoad m z).G.length d7, .bool (mLoad m z).bad] 24) = w10 at *
          clear hbl7 R7 S7
          clear m10 m11 m12 m1l
          have m10 := V1.c0; have m11 := V1.c1; have m12 := V1.c2; have m1l := V1.lt
          clear m20 m21 m22 m2l
          have m20 := V2.c0; have m21 := V2.c1; have m22 := V2.c2; have m2l := V2.lt
          clear m30 m31 m32 m3l
          have m30 := V3.c0; have m31 := V3.c1; have m32 := V3.c2; have m3l := V3.lt
          clear m40 m41 m42 m4l
          have m40 := V4.c0; have m41 := V4.c1; have m42 := V4.c2; have m4l := V4.lt
          clear m50 m51 m52 m5l
          have m50 := V5.c0; have m51 := V5.c1; have m52 := V5.c2; have m5l := V5.lt
          clear m60 m61 m62 m6l
          have m60 := V6.c0; have m61 := V6.c1; have m62 := V6.c2; have m6l := V6.lt
          have m70 := V7.c0; have m71 := V7.c1; have m72 := V7.c2; have m7l := V7.lt
          have cx := V1.r2.cellX i i1 HX
          have hgb' : gb < w10.heap.size := Nat.lt_of_lt_of_le hgb hb.size
          obtain ⟨b5, hbl5⟩ : ∃ b, w7.heap.size = b := ⟨_, rfl⟩
          obtain ⟨b6, hbl6⟩ : ∃ b, w8.heap.size = b := ⟨_, rfl⟩
          rw [hbl5] at V5 m50 m51 m52 m5l ⊢
          rw [hbl6] at V6 m60 m61 m62 m6l ⊢
          clear hbl5 hbl6
          have tx := Tx.out
          have n22 : w10.cell? ⟨b2, 2, none⟩ = some (.bool false) := by rw [m22]; exact congrArg (fun q => some (Value.bool q)) TB.out
          have n32 : w10.cell? ⟨b3, 2, none⟩ = some (.bool false) := by rw [m32]; exact congrArg (fun q => some (Value.bool q)) TB.out
          have n42 : w10.cell? ⟨b4, 2, none⟩ = some (.bool false) := by rw [m42]; exact congrArg (fun q => some (Value.bool q)) TB.out
          have n72 : w10.cell? ⟨b7, 2, none⟩ = some (.bool false) := by rw [m72]; exact congrArg (fun q => some (Value.bool q)) TR.out
          have n52 : w10.cell? ⟨b5, 2, none⟩ = some (.bool true) := by rw [m52]; exact congrArg (fun q => some (Value.bool q)) (TX.out.trans (by rw [tx]; rfl))
          have n62 : w10.cell? ⟨b6, 2, none⟩ = some (.bool true) := by rw [m62]; exact congrArg (fun q => some (Value.bool q)) (TD.out.trans (by rw [tx]; rfl))
          have x1 : (x != 0) = true := by have := tx; simp at this ⊢; omega
          clear m20 m21 m22 m30 m31 m32 m40 m41 m42 m50 m51 m52 m60 m61 m62 m70 m71 m72
          have p2 : -9223372036854775808 ≤ p := by omega
          have p3 : p ≤ 9223372036854775807 := by omega
          have y3 : IntKind.i64.wrap (i : Int) = i := IntWalk.i64_in _ (by omega)
          have y0 : IntKind.i64.wrap 0 = 0 := IntWalk.i64_in _ (by omega)
          have hmn : (if 1 < z then 1 else z) = 0 := by split <;> omega
          clear V2 V3 V4 V5 V6 V7 l1 l2 q a0 a1 b0 b1 k2 k3 k4 hi hz hp
          go_wp2_with fail
          have hS : ∀ w', Below w10.heap.size w10 w' → (Below w10.heap.size w10 w' ∧ w'.cell? ⟨w.heap.size, 0, none⟩ = some (.slice A1 m.W.length c1) ∧ w'.cell? ⟨w.heap.size, 1, none⟩ = some (.slice (some ⟨gb, ob, none⟩) m.G.length d1) ∧ w'.cell? ⟨w.heap.size, 2, none⟩ = some (.bool m.bad) ∧ w'.cell? ⟨b2, 2, none⟩ = some (.bool false) ∧ w'.cell? ⟨b3, 2, none⟩ = some (.bool false) ∧ w'.cell? ⟨b4, 2, none⟩ = some (.bool false) ∧ w'.cell? ⟨b5, 2, none⟩ = some (.bool true) ∧ w'.cell? ⟨b6, 2, none⟩ = some (.bool true) ∧ w'.cell? ⟨b7, 2, none⟩ = some (.bool false) ∧ w'.cell? ⟨gb, ob + i, none⟩ = some (.int .i64 x)) := fun w' h => ⟨h, (h.cell m1l).trans m10, (h.cell m1l).trans m11, (h.cell m1l).trans m12, (h.cell m2l).trans n22, (h.cell m3l).trans n32, (h.cell m4l).trans n42, (h.cell m5l).trans n52, (h.cell m6l).trans n62, (h.cell m7l).trans n72, (h.cell hgb').trans cx⟩
          go_region_held3 (fun w' => Below w10.heap.size w10 w' ∧ w'.cell? ⟨w.heap.size, 0, none⟩ = some (.slice A1 m.W.length c1) ∧ w'.cell? ⟨w.heap.size, 1, none⟩ = some (.slice (some ⟨gb, ob, none⟩) m.G.length d1) ∧ w'.cell? ⟨w.heap.size, 2, none⟩ = some (.bool m.bad) ∧ w'.cell? ⟨b2, 2, none⟩ = some (.bool false) ∧ w'.cell? ⟨b3, 2, none⟩ = some (.bool false) ∧ w'.cell? ⟨b4, 2, none⟩ = some (.bool false) ∧ w'.cell? ⟨b5, 2, none⟩ = some (.bool true) ∧ w'.cell? ⟨b6, 2, none⟩ = some (.bool true) ∧ w'.cell? ⟨b7, 2, none⟩ = some (.bool false) ∧ w'.cell? ⟨gb, ob + i, none⟩ = some (.int .i64 x)) (first | exact hS _ ((Below.refl _ _).drew) | exact hS _ (bstep ((Below.refl _ _).drew) hk) | (go_split_ands; exact hS _ (bstep (by assumption) hk)))
            (first
              | (go_at_call 21; (with_reducible refine (node_any _ _ _ _ m p _ k1 g1 p2 p3).mono ?_); rintro e wk ⟨rfl, hk⟩))
          all_goals
            go_wp2
            go_ret
            exact ⟨rfl, bstep hb (bstep ((Below.refl _ _).drew) hk)⟩
      · have TB := hid h3
        clear h3
        clear HC
        have Tx := hid tx
        go_upto_region 11 with (fail)
        clear tx
        go_wp2_with fail
        refine (turn_any _ _ _ _ m i 1 _ (V1.r1.step (by repeat (first | exact Below.refl _ _ | apply up | apply dr | apply drN))) (V1.r2.step (by repeat (first | exact Below.refl _ _ | apply up | apply dr | apply drN))) k3 k4).mono ?_
        rintro e w7 ⟨A5, B5, c5, d5, rfl, R5, S5, hk⟩
        replace hb := bstep hb (bstep (by repeat (first | exact Below.refl _ _ | apply up | apply dr | apply drN)) hk)
        replace V1 := V1.step (bstep (by repeat (first | exact Below.refl _ _ | apply up | apply dr | apply drN)) hk)
        replace V2 := V2.step (bstep (by repeat (first | exact Below.refl _ _ | apply up | apply dr | apply drN)) hk)
        replace V3 := V3.step (bstep (by repeat (first | exact Below.refl _ _ | apply up | apply dr | apply drN)) hk)
        replace V4 := V4.step (bstep (by repeat (first | exact Below.refl _ _ | apply up | apply dr | apply drN)) hk)
        clear hk
        clear m10 m11 m12 m1l
        have m10 := V1.c0; have m11 := V1.c1; have m12 := V1.c2; have m1l := V1.lt
        clear m20 m21 m22 m2l
        have m20 := V2.c0; have m21 := V2.c1; have m22 := V2.c2; have m2l := V2.lt
        clear m30 m31 m32 m3l
        have m30 := V3.c0; have m31 := V3.c1; have m32 := V3.c2; have m3l := V3.lt
        clear m40 m41 m42 m4l
        have m40 := V4.c0; have m41 := V4.c1; have m42 := V4.c2; have m4l := V4.lt
        go_wp2_with fail
        refine (load_any _ _ _ _ (mTurn m i 1) p _ (R5.step (by repeat (first | exact Below.refl _ _ | apply up | apply dr | apply drN))) (S5.step (by repeat (first | exact Below.refl _ _ | apply up | apply dr | apply drN))) k2.1 k2.2.1 k2.2.2 (by omega) (by omega)).mono ?_
        rintro e w8 ⟨A6, B6, c6, d6, rfl, R6, S6, hk⟩
        replace hb := bstep hb (bstep (by repeat (first | exact Below.refl _ _ | apply up | apply dr | apply drN)) hk)
        replace V1 := V1.step (bstep (by repeat (first | exact Below.refl _ _ | apply up | apply dr | apply drN)) hk)
        replace V2 := V2.step (bstep (by repeat (first | exact Below.refl _ _ | apply up | apply dr | apply drN)) hk)
        replace V3 := V3.step (bstep (by repeat (first | exact Below.refl _ _ | apply up | apply dr | apply drN)) hk)
        replace V4 := V4.step (bstep (by repeat (first | exact Below.refl _ _ | apply up | apply dr | apply drN)) hk)
        have V5 := (Vr.box (c := c5) (c' := d5) R5 S5).step (bstep (by repeat (first | exact Below.refl _ _ | apply up | apply dr | apply drN)) hk)
        clear hk
        clear m10 m11 m12 m1l
        have m10 := V1.c0; have m11 := V1.c1; have m12 := V1.c2; have m1l := V1.lt
        clear m20 m21 m22 m2l
        have m20 := V2.c0; have m21 := V2.c1; have m22 := V2.c2; have m2l := V2.lt
        clear m30 m31 m32 m3l
        have m30 := V3.c0; have m31 := V3.c1; have m32 := V3.c2; have m3l := V3.lt
        clear m40 m41 m42 m4l
        have m40 := V4.c0; have m41 := V4.c1; have m42 := V4.c2; have m4l := V4.lt
        have m50 := V5.c0; have m51 := V5.c1; have m52 := V5.c2; have m5l := V5.lt
        go_wp2_with fail
        refine (load_any _ _ _ _ m z _ (V1.r1.step (by repeat (first | exact Below.refl _ _ | apply up | apply dr | apply drN))) (V1.r2.step (by repeat (first | exact Below.refl _ _ | apply up | apply dr | apply drN))) k3 k4 g1 (by omega) (by omega)).mono ?_
        rintro e w9 ⟨A7, B7, c7, d7, rfl, R7, S7, hk⟩
        replace hb := bstep hb (bstep (by repeat (first | exact Below.refl _ _ | apply up | apply dr | apply drN)) hk)
        replace V1 := V1.step (bstep (by repeat (first | exact Below.refl _ _ | apply up | apply dr | apply drN)) hk)
        replace V2 := V2.step (bstep (by repeat (first | exact Below.refl _ _ | apply up | apply dr | apply drN)) hk)
        replace V3 := V3.step (bstep (by repeat (first | exact Below.refl _ _ | apply up | apply dr | apply drN)) hk)
        replace V4 := V4.step (bstep (by repeat (first | exact Below.refl _ _ | apply up | apply dr | apply drN)) hk)
        replace V5 := V5.step (bstep (by repeat (first | exact Below.refl _ _ | apply up | apply dr | apply drN)) hk)
        have V6 := (Vr.box (c := c6) (c' := d6) R6 S6).step (bstep (by repeat (first | exact Below.refl _ _ | apply up | apply dr | apply drN)) hk)
        clear hk
        clear m10 m11 m12 m1l
        have m10 := V1.c0; have m11 := V1.c1; have m12 := V1.c2; have m1l := V1.lt
        clear m20 m21 m22 m2l
        have m20 := V2.c0; have m21 := V2.c1; have m22 := V2.c2; have m2l := V2.lt
        clear m30 m31 m32 m3l
        have m30 := V3.c0; have m31 := V3.c1; have m32 := V3.c2; have m3l := V3.lt
        clear m40 m41 m42 m4l
        have m40 := V4.c0; have m41 := V4.c1; have m42 := V4.c2; have m4l := V4.lt
        clear m50 m51 m52 m5l
        have m50 := V5.c0; have m51 := V5.c1; have m52 := V5.c2; have m5l := V5.lt
        have m60 := V6.c0; have m61 := V6.c1; have m62 := V6.c2; have m6l := V6.lt
        go_upto_region 14 with (fail)
        replace hb := bstep hb (boxed w9 (.cells #[.slice A7 (mLoad m z).W.length c7, .slice B7 (mLoad m z).G.length d7, .bool (mLoad m z).bad] 24))
        replace V1 := V1.step (boxed w9 (.cells #[.slice A7 (mLoad m z).W.length c7, .slice B7 (mLoad m z).G.length d7, .bool (mLoad m z).bad] 24))
        replace V2 := V2.step (boxed w9 (.cells #[.slice A7 (mLoad m z).W.length c7, .slice B7 (mLoad m z).G.length d7, .bool (mLoad m z).bad] 24))
        replace V3 := V3.step (boxed w9 (.cells #[.slice A7 (mLoad m z).W.length c7, .slice B7 (mLoad m z).G.length d7, .bool (mLoad m z).bad] 24))
        replace V4 := V4.step (boxed w9 (.cells #[.slice A7 (mLoad m z).W.length c7, .slice B7 (mLoad m z).G.length d7, .bool (mLoad m z).bad] 24))
        replace V5 := V5.step (boxed w9 (.cells #[.slice A7 (mLoad m z).W.length c7, .slice B7 (mLoad m z).G.length d7, .bool (mLoad m z).bad] 24))
        replace V6 := V6.step (boxed w9 (.cells #[.slice A7 (mLoad m z).W.length c7, .slice B7 (mLoad m z).G.length d7, .bool (mLoad m z).bad] 24))
        have V7 := Vr.box (w := w9) (m := (mLoad m z)) (c := c7) (c' := d7) R7 S7
        obtain ⟨b7, hbl7⟩ : ∃ b, w9.heap.size = b := ⟨_, rfl⟩
        rw [hbl7] at V7 ⊢
        generalize w9.alloc (.cells #[.slice A7 (mLoad m z).W.length c7, .slice B7 (mLoad m z).G.length d7, .bool (mLoad m z).bad] 24) = w10 at *
        clear hbl7 R7 S7
        clear m10 m11 m12 m1l
        have m10 := V1.c0; have m11 := V1.c1; have m12 := V1.c2; have m1l := V1.lt
        clear m20 m21 m22 m2l
        have m20 := V2.c0; have m21 := V2.c1; have m22 := V2.c2; have m2l := V2.lt
        clear m30 m31 m32 m3l
        have m30 := V3.c0; have m31 := V3.c1; have m32 := V3.c2; have m3l := V3.lt
        clear m40 m41 m42 m4l
        have m40 := V4.c0; have m41 := V4.c1; have m42 := V4.c2; have m4l := V4.lt
        clear m50 m51 m52 m5l
        have m50 := V5.c0; have m51 := V5.c1; have m52 := V5.c2; have m5l := V5.lt
        clear m60 m61 m62 m6l
        have m60 := V6.c0; have m61 := V6.c1; have m62 := V6.c2; have m6l := V6.lt
        have m70 := V7.c0; have m71 := V7.c1; have m72 := V7.c2; have m7l := V7.lt
        have cx := V1.r2.cellX i i1 HX
        have hgb' : gb < w10.heap.size := Nat.lt_of_lt_of_le hgb hb.size
        obtain ⟨b5, hbl5⟩ : ∃ b, w7.heap.size = b := ⟨_, rfl⟩
        obtain ⟨b6, hbl6⟩ : ∃ b, w8.heap.size = b := ⟨_, rfl⟩
        rw [hbl5] at V5 m50 m51 m52 m5l ⊢
        rw [hbl6] at V6 m60 m61 m62 m6l ⊢
        clear hbl5 hbl6
        have tx := Tx.out
        have n22 : w10.cell? ⟨b2, 2, none⟩ = some (.bool true) := by rw [m22]; exact congrArg (fun q => some (Value.bool q)) TB.out
        have n32 : w10.cell? ⟨b3, 2, none⟩ = some (.bool true) := by rw [m32]; exact congrArg (fun q => some (Value.bool q)) TB.out
        have n42 : w10.cell? ⟨b4, 2, none⟩ = some (.bool true) := by rw [m42]; exact congrArg (fun q => some (Value.bool q)) TB.out
        have n72 : w10.cell? ⟨b7, 2, none⟩ = some (.bool false) := by rw [m72]; exact congrArg (fun q => some (Value.bool q)) TR.out
        have n52 : w10.cell? ⟨b5, 2, none⟩ = some (.bool false) := by rw [m52]; exact congrArg (fun q => some (Value.bool q)) (TX.out.trans (by rw [tx]; rfl))
        have n62 : w10.cell? ⟨b6, 2, none⟩ = some (.bool false) := by rw [m62]; exact congrArg (fun q => some (Value.bool q)) (TD.out.trans (by rw [tx]; rfl))
        have x1 : (x != 0) = false := by have := tx; simp at this ⊢; omega
        clear m20 m21 m22 m30 m31 m32 m40 m41 m42 m50 m51 m52 m60 m61 m62 m70 m71 m72
        have p2 : -9223372036854775808 ≤ p := by omega
        have p3 : p ≤ 9223372036854775807 := by omega
        have y3 : IntKind.i64.wrap (i : Int) = i := IntWalk.i64_in _ (by omega)
        have y0 : IntKind.i64.wrap 0 = 0 := IntWalk.i64_in _ (by omega)
        have hmn : (if 1 < z then 1 else z) = 1 := by split <;> omega
        clear V2 V3 V4 V5 V6 V7 l1 l2 q a0 a1 b0 b1 k2 k3 k4 hi hz hp
        go_wp2_with fail
        have hS : ∀ w', Below w10.heap.size w10 w' → (Below w10.heap.size w10 w' ∧ w'.cell? ⟨w.heap.size, 0, none⟩ = some (.slice A1 m.W.length c1) ∧ w'.cell? ⟨w.heap.size, 1, none⟩ = some (.slice (some ⟨gb, ob, none⟩) m.G.length d1) ∧ w'.cell? ⟨w.heap.size, 2, none⟩ = some (.bool m.bad) ∧ w'.cell? ⟨b2, 2, none⟩ = some (.bool true) ∧ w'.cell? ⟨b3, 2, none⟩ = some (.bool true) ∧ w'.cell? ⟨b4, 2, none⟩ = some (.bool true) ∧ w'.cell? ⟨b5, 2, none⟩ = some (.bool false) ∧ w'.cell? ⟨b6, 2, none⟩ = some (.bool false) ∧ w'.cell? ⟨b7, 2, none⟩ = some (.bool false) ∧ w'.cell? ⟨gb, ob + i, none⟩ = some (.int .i64 x)) := fun w' h => ⟨h, (h.cell m1l).trans m10, (h.cell m1l).trans m11, (h.cell m1l).trans m12, (h.cell m2l).trans n22, (h.cell m3l).trans n32, (h.cell m4l).trans n42, (h.cell m5l).trans n52, (h.cell m6l).trans n62, (h.cell m7l).trans n72, (h.cell hgb').trans cx⟩
        go_region_held3 (fun w' => Below w10.heap.size w10 w' ∧ w'.cell? ⟨w.heap.size, 0, none⟩ = some (.slice A1 m.W.length c1) ∧ w'.cell? ⟨w.heap.size, 1, none⟩ = some (.slice (some ⟨gb, ob, none⟩) m.G.length d1) ∧ w'.cell? ⟨w.heap.size, 2, none⟩ = some (.bool m.bad) ∧ w'.cell? ⟨b2, 2, none⟩ = some (.bool true) ∧ w'.cell? ⟨b3, 2, none⟩ = some (.bool true) ∧ w'.cell? ⟨b4, 2, none⟩ = some (.bool true) ∧ w'.cell? ⟨b5, 2, none⟩ = some (.bool false) ∧ w'.cell? ⟨b6, 2, none⟩ = some (.bool false) ∧ w'.cell? ⟨b7, 2, none⟩ = some (.bool false) ∧ w'.cell? ⟨gb, ob + i, none⟩ = some (.int .i64 x)) (first | exact hS _ ((Below.refl _ _).drew) | exact hS _ (bstep ((Below.refl _ _).drew) hk) | (go_split_ands; exact hS _ (bstep (by assumption) hk)))
          (first
            | (go_at_call 21; (with_reducible refine (node_any _ _ _ _ m p _ k1 g1 p2 p3).mono ?_); rintro e wk ⟨rfl, hk⟩))
        all_goals
          go_wp2
          go_ret
          exact ⟨rfl, bstep hb (bstep ((Below.refl _ _).drew) hk)⟩
      · have TB := hid h3
        clear h3
        clear HC
        have Tx := hid tx
        go_upto_region 11 with (fail)
        clear tx
        go_wp2_with fail
        refine (turn_any _ _ _ _ m i 1 _ (V1.r1.step (by repeat (first | exact Below.refl _ _ | apply up | apply dr | apply drN))) (V1.r2.step (by repeat (first | exact Below.refl _ _ | apply up | apply dr | apply drN))) k3 k4).mono ?_
        rintro e w7 ⟨A5, B5, c5, d5, rfl, R5, S5, hk⟩
        replace hb := bstep hb (bstep (by repeat (first | exact Below.refl _ _ | apply up | apply dr | apply drN)) hk)
        replace V1 := V1.step (bstep (by repeat (first | exact Below.refl _ _ | apply up | apply dr | apply drN)) hk)
        replace V2 := V2.step (bstep (by repeat (first | exact Below.refl _ _ | apply up | apply dr | apply drN)) hk)
        replace V3 := V3.step (bstep (by repeat (first | exact Below.refl _ _ | apply up | apply dr | apply drN)) hk)
        replace V4 := V4.step (bstep (by repeat (first | exact Below.refl _ _ | apply up | apply dr | apply drN)) hk)
        clear hk
        clear m10 m11 m12 m1l
        have m10 := V1.c0; have m11 := V1.c1; have m12 := V1.c2; have m1l := V1.lt
        clear m20 m21 m22 m2l
        have m20 := V2.c0; have m21 := V2.c1; have m22 := V2.c2; have m2l := V2.lt
        clear m30 m31 m32 m3l
        have m30 := V3.c0; have m31 := V3.c1; have m32 := V3.c2; have m3l := V3.lt
        clear m40 m41 m42 m4l
        have m40 := V4.c0; have m41 := V4.c1; have m42 := V4.c2; have m4l := V4.lt
        go_wp2_with fail
        refine (load_any _ _ _ _ (mTurn m i 1) p _ (R5.step (by repeat (first | exact Below.refl _ _ | apply up | apply dr | apply drN))) (S5.step (by repeat (first | exact Below.refl _ _ | apply up | apply dr | apply drN))) k2.1 k2.2.1 k2.2.2 (by omega) (by omega)).mono ?_
        rintro e w8 ⟨A6, B6, c6, d6, rfl, R6, S6, hk⟩
        replace hb := bstep hb (bstep (by repeat (first | exact Below.refl _ _ | apply up | apply dr | apply drN)) hk)
        replace V1 := V1.step (bstep (by repeat (first | exact Below.refl _ _ | apply up | apply dr | apply drN)) hk)
        replace V2 := V2.step (bstep (by repeat (first | exact Below.refl _ _ | apply up | apply dr | apply drN)) hk)
        replace V3 := V3.step (bstep (by repeat (first | exact Below.refl _ _ | apply up | apply dr | apply drN)) hk)
        replace V4 := V4.step (bstep (by repeat (first | exact Below.refl _ _ | apply up | apply dr | apply drN)) hk)
        have V5 := (Vr.box (c := c5) (c' := d5) R5 S5).step (bstep (by repeat (first | exact Below.refl _ _ | apply up | apply dr | apply drN)) hk)
        clear hk
        clear m10 m11 m12 m1l
        have m10 := V1.c0; have m11 := V1.c1; have m12 := V1.c2; have m1l := V1.lt
        clear m20 m21 m22 m2l
        have m20 := V2.c0; have m21 := V2.c1; have m22 := V2.c2; have m2l := V2.lt
        clear m30 m31 m32 m3l
        have m30 := V3.c0; have m31 := V3.c1; have m32 := V3.c2; have m3l := V3.lt
        clear m40 m41 m42 m4l
        have m40 := V4.c0; have m41 := V4.c1; have m42 := V4.c2; have m4l := V4.lt
        have m50 := V5.c0; have m51 := V5.c1; have m52 := V5.c2; have m5l := V5.lt
        go_wp2_with fail
        refine (load_any _ _ _ _ m z _ (V1.r1.step (by repeat (first | exact Below.refl _ _ | apply up | apply dr | apply drN))) (V1.r2.step (by repeat (first | exact Below.refl _ _ | apply up | apply dr | apply drN))) k3 k4 g1 (by omega) (by omega)).mono ?_
        rintro e w9 ⟨A7, B7, c7, d7, rfl, R7, S7, hk⟩
        replace hb := bstep hb (bstep (by repeat (first | exact Below.refl _ _ | apply up | apply dr | apply drN)) hk)
        replace V1 := V1.step (bstep (by repeat (first | exact Below.refl _ _ | apply up | apply dr | apply drN)) hk)
        replace V2 := V2.step (bstep (by repeat (first | exact Below.refl _ _ | apply up | apply dr | apply drN)) hk)
        replace V3 := V3.step (bstep (by repeat (first | exact Below.refl _ _ | apply up | apply dr | apply drN)) hk)
        replace V4 := V4.step (bstep (by repeat (first | exact Below.refl _ _ | apply up | apply dr | apply drN)) hk)
        replace V5 := V5.step (bstep (by repeat (first | exact Below.refl _ _ | apply up | apply dr | apply drN)) hk)
        have V6 := (Vr.box (c := c6) (c' := d6) R6 S6).step (bstep (by repeat (first | exact Below.refl _ _ | apply up | apply dr | apply drN)) hk)
        clear hk
        clear m10 m11 m12 m1l
        have m10 := V1.c0; have m11 := V1.c1; have m12 := V1.c2; have m1l := V1.lt
        clear m20 m21 m22 m2l
        have m20 := V2.c0; have m21 := V2.c1; have m22 := V2.c2; have m2l := V2.lt
        clear m30 m31 m32 m3l
        have m30 := V3.c0; have m31 := V3.c1; have m32 := V3.c2; have m3l := V3.lt
        clear m40 m41 m42 m4l
        have m40 := V4.c0; have m41 := V4.c1; have m42 := V4.c2; have m4l := V4.lt
        clear m50 m51 m52 m5l
        have m50 := V5.c0; have m51 := V5.c1; have m52 := V5.c2; have m5l := V5.lt
        have m60 := V6.c0; have m61 := V6.c1; have m62 := V6.c2; have m6l := V6.lt
        go_upto_region 14 with (fail)
        replace hb := bstep hb (boxed w9 (.cells #[.slice A7 (mLoad m z).W.length c7, .slice B7 (mLoad m z).G.length d7, .bool (mLoad m z).bad] 24))
        replace V1 := V1.step (boxed w9 (.cells #[.slice A7 (mLoad m z).W.length c7, .slice B7 (mLoad m z).G.length d7, .bool (mLoad m z).bad] 24))
        replace V2 := V2.step (boxed w9 (.cells #[.slice A7 (mLoad m z).W.length c7, .slice B7 (mLoad m z).G.length d7, .bool (mLoad m z).bad] 24))
        replace V3 := V3.step (boxed w9 (.cells #[.slice A7 (mLoad m z).W.length c7, .slice B7 (mLoad m z).G.length d7, .bool (mLoad m z).bad] 24))
        replace V4 := V4.step (boxed w9 (.cells #[.slice A7 (mLoad m z).W.length c7, .slice B7 (mLoad m z).G.length d7, .bool (mLoad m z).bad] 24))
        replace V5 := V5.step (boxed w9 (.cells #[.slice A7 (mLoad m z).W.length c7, .slice B7 (mLoad m z).G.length d7, .bool (mLoad m z).bad] 24))
        replace V6 := V6.step (boxed w9 (.cells #[.slice A7 (mLoad m z).W.length c7, .slice B7 (mLoad m z).G.length d7, .bool (mLoad m z).bad] 24))
        have V7 := Vr.box (w := w9) (m := (mLoad m z)) (c := c7) (c' := d7) R7 S7
        obtain ⟨b7, hbl7⟩ : ∃ b, w9.heap.size = b := ⟨_, rfl⟩
        rw [hbl7] at V7 ⊢
        generalize w9.alloc (.cells #[.slice A7 (mLoad m z).W.length c7, .slice B7 (mLoad m z).G.length d7, .bool (mLoad m z).bad] 24) = w10 at *
        clear hbl7 R7 S7
        clear m10 m11 m12 m1l
        have m10 := V1.c0; have m11 := V1.c1; have m12 := V1.c2; have m1l := V1.lt
        clear m20 m21 m22 m2l
        have m20 := V2.c0; have m21 := V2.c1; have m22 := V2.c2; have m2l := V2.lt
        clear m30 m31 m32 m3l
        have m30 := V3.c0; have m31 := V3.c1; have m32 := V3.c2; have m3l := V3.lt
        clear m40 m41 m42 m4l
        have m40 := V4.c0; have m41 := V4.c1; have m42 := V4.c2; have m4l := V4.lt
        clear m50 m51 m52 m5l
        have m50 := V5.c0; have m51 := V5.c1; have m52 := V5.c2; have m5l := V5.lt
        clear m60 m61 m62 m6l
        have m60 := V6.c0; have m61 := V6.c1; have m62 := V6.c2; have m6l := V6.lt
        have m70 := V7.c0; have m71 := V7.c1; have m72 := V7.c2; have m7l := V7.lt
        have cx := V1.r2.cellX i i1 HX
        have hgb' : gb < w10.heap.size := Nat.lt_of_lt_of_le hgb hb.size
        obtain ⟨b5, hbl5⟩ : ∃ b, w7.heap.size = b := ⟨_, rfl⟩
        obtain ⟨b6, hbl6⟩ : ∃ b, w8.heap.size = b := ⟨_, rfl⟩
        rw [hbl5] at V5 m50 m51 m52 m5l ⊢
        rw [hbl6] at V6 m60 m61 m62 m6l ⊢
        clear hbl5 hbl6
        have tx := Tx.out
        have n22 : w10.cell? ⟨b2, 2, none⟩ = some (.bool false) := by rw [m22]; exact congrArg (fun q => some (Value.bool q)) TB.out
        have n32 : w10.cell? ⟨b3, 2, none⟩ = some (.bool false) := by rw [m32]; exact congrArg (fun q => some (Value.bool q)) TB.out
        have n42 : w10.cell? ⟨b4, 2, none⟩ = some (.bool false) := by rw [m42]; exact congrArg (fun q => some (Value.bool q)) TB.out
        have n72 : w10.cell? ⟨b7, 2, none⟩ = some (.bool false) := by rw [m72]; exact congrArg (fun q => some (Value.bool q)) TR.out
        have n52 : w10.cell? ⟨b5, 2, none⟩ = some (.bool true) := by rw [m52]; exact congrArg (fun q => some (Value.bool q)) (TX.out.trans (by rw [tx]; rfl))
        have n62 : w10.cell? ⟨b6, 2, none⟩ = some (.bool true) := by rw [m62]; exact congrArg (fun q => some (Value.bool q)) (TD.out.trans (by rw [tx]; rfl))
        have x1 : (x != 0) = true := by have := tx; simp at this ⊢; omega
        clear m20 m21 m22 m30 m31 m32 m40 m41 m42 m50 m51 m52 m60 m61 m62 m70 m71 m72
        have p2 : -9223372036854775808 ≤ p := by omega
        have p3 : p ≤ 9223372036854775807 := by omega
        have y3 : IntKind.i64.wrap (i : Int) = i := IntWalk.i64_in _ (by omega)
        have y0 : IntKind.i64.wrap 0 = 0 := IntWalk.i64_in _ (by omega)
        have hmn : (if 1 < z then 1 else z) = 1 := by split <;> omega
        clear V2 V3 V4 V5 V6 V7 l1 l2 q a0 a1 b0 b1 k2 k3 k4 hi hz hp
        go_wp2_with fail
        have hS : ∀ w', Below w10.heap.size w10 w' → (Below w10.heap.size w10 w' ∧ w'.cell? ⟨w.heap.size, 0, none⟩ = some (.slice A1 m.W.length c1) ∧ w'.cell? ⟨w.heap.size, 1, none⟩ = some (.slice (some ⟨gb, ob, none⟩) m.G.length d1) ∧ w'.cell? ⟨w.heap.size, 2, none⟩ = some (.bool m.bad) ∧ w'.cell? ⟨b2, 2, none⟩ = some (.bool false) ∧ w'.cell? ⟨b3, 2, none⟩ = some (.bool false) ∧ w'.cell? ⟨b4, 2, none⟩ = some (.bool false) ∧ w'.cell? ⟨b5, 2, none⟩ = some (.bool true) ∧ w'.cell? ⟨b6, 2, none⟩ = some (.bool true) ∧ w'.cell? ⟨b7, 2, none⟩ = some (.bool false) ∧ w'.cell? ⟨gb, ob + i, none⟩ = some (.int .i64 x)) := fun w' h => ⟨h, (h.cell m1l).trans m10, (h.cell m1l).trans m11, (h.cell m1l).trans m12, (h.cell m2l).trans n22, (h.cell m3l).trans n32, (h.cell m4l).trans n42, (h.cell m5l).trans n52, (h.cell m6l).trans n62, (h.cell m7l).trans n72, (h.cell hgb').trans cx⟩
        go_region_held3 (fun w' => Below w10.heap.size w10 w' ∧ w'.cell? ⟨w.heap.size, 0, none⟩ = some (.slice A1 m.W.length c1) ∧ w'.cell? ⟨w.heap.size, 1, none⟩ = some (.slice (some ⟨gb, ob, none⟩) m.G.length d1) ∧ w'.cell? ⟨w.heap.size, 2, none⟩ = some (.bool m.bad) ∧ w'.cell? ⟨b2, 2, none⟩ = some (.bool false) ∧ w'.cell? ⟨b3, 2, none⟩ = some (.bool false) ∧ w'.cell? ⟨b4, 2, none⟩ = some (.bool false) ∧ w'.cell? ⟨b5, 2, none⟩ = some (.bool true) ∧ w'.cell? ⟨b6, 2, none⟩ = some (.bool true) ∧ w'.cell? ⟨b7, 2, none⟩ = some (.bool false) ∧ w'.cell? ⟨gb, ob + i, none⟩ = some (.int .i64 x)) (first | exact hS _ ((Below.refl _ _).drew) | exact hS _ (bstep ((Below.refl _ _).drew) hk) | (go_split_ands; exact hS _ (bstep (by assumption) hk)))
          (first
            | (go_at_call 21; (with_reducible refine (node_any _ _ _ _ m p _ k1 g1 p2 p3).mono ?_); rintro e wk ⟨rfl, hk⟩))
        all_goals
          go_wp2
          go_ret
          exact ⟨rfl, bstep hb (bstep ((Below.refl _ _).drew) hk)⟩
    · have hb : Below w.heap.size w w := Below.refl _ _
      go_enter Try.func6, Try.ntmps6
      go_wp2_with fail
      refine (shown_any _).mono ?_
      rintro e w1 ⟨rfl, hk⟩
      replace hb := bstep hb (bstep (by repeat (first | exact Below.refl _ _ | apply up | apply dr | apply drN)) hk)
      have V1 := (Vr.box (c := c1) (c' := d1) R1 S1).step (bstep (by repeat (first | exact Below.refl _ _ | apply up | apply dr | apply drN)) hk)
      clear hk
      have m10 := V1.c0; have m11 := V1.c1; have m12 := V1.c2; have m1l := V1.lt
      go_wp2_with fail
      refine (may_any _ _ _ _ m _ (V1.r2.step (by repeat (first | exact Below.refl _ _ | apply up | apply dr | apply drN))) l2 l1).mono ?_
      rintro e w2 ⟨rfl, hk⟩
      replace hb := bstep hb (bstep (by repeat (first | exact Below.refl _ _ | apply up | apply dr | apply drN)) hk)
      replace V1 := V1.step (bstep (by repeat (first | exact Below.refl _ _ | apply up | apply dr | apply drN)) hk)
      clear hk
      clear m10 m11 m12 m1l
      have m10 := V1.c0; have m11 := V1.c1; have m12 := V1.c2; have m1l := V1.lt
      have qb := QB.out
      go_wp2
      go_ret
      exact ⟨rfl, hb⟩

set_option maxRecDepth 100000 in
theorem lifted (os : Os) (started : os.Started) (H : Type) (enc : TypeId × Value → H) :
    ReturnsInHanded {} Try.checked os 6 .any (Rows.memGuardsSpec.pre6 enc Try.prog Try.f6 Rows.memGuardsRow.domain false) (Rows.memGuardsSpec.post enc Try.prog Try.f6 false true false false) := by
  refine returnsInHanded_of_change (C := Try.checked) own started (by kernel_rfl) Try.func6
    (ChangeSpec.witness6 (enc := enc) (C := Try.checked) false ⟨#[], #[.agg #[.slice none 0 0, .slice none 0 0, .bool false], .int .u8 0, .int .u8 0], []⟩ 8 (by kernel_rfl) (by kernel_rfl) (by kernel_rfl) (by kernel_rfl)) ?_
  intro W base args ds gs before hval0 hW hcnd _
  have hval : ∀ (j : Nat) t v, Try.f6.params[j]? = some t → args[j]? = some v → Value.okWide Try.prog W .any base t v := hval0
  have hW' := hW
  obtain ⟨p, q, hA0, hV, rfl, hfz, hnd⟩ := hW
  have hA : DataW.TrodAll enc Try.prog W 0 (fun _ => true) true Try.f6.params.toList args.toList ds p := hA0
  rw [Try.params6] at hA hval
  obtain ⟨v0, vs0, d0, ds0, p0, q0, hargs, rfl, rfl, h0, r0⟩ := trodAll_cons hA
  obtain ⟨v1, vs1, d1, ds1, p1, q1, rfl, rfl, rfl, h1, r1⟩ := trodAll_cons r0
  obtain ⟨v2, vs2, d2, ds2, p2, q2, rfl, rfl, rfl, h2, r2⟩ := trodAll_cons r1
  obtain ⟨rfl, rfl, rfl⟩ := trodAll_nil r2
  obtain rfl : args = #[v0, v1, v2] := by cases args; simp_all
  obtain ⟨rfl, rfl⟩ := trodVars_none hV
  clear hA0 hval0
  obtain ⟨A1, B1, c1, d1, m, rfl, R1, S1, l1, l2⟩ := open_arena (hval 0 24 v0 rfl rfl) h0
  obtain ⟨n1, hn1⟩ := h1
  obtain ⟨a, e1, _, u1⟩ := DataW.trod_int Try.underlying5 hn1
  obtain ⟨a', rfl⟩ := okWide_int Try.underlying5 (hval 1 5 v1 rfl rfl)
  obtain rfl : a' = a := by simpa [Value.cells] using e1
  obtain ⟨a0, a1⟩ := bounds_u8 u1
  obtain ⟨n2, hn2⟩ := h2
  obtain ⟨b, e2, _, u2⟩ := DataW.trod_int Try.underlying5 hn2
  obtain ⟨b', rfl⟩ := okWide_int Try.underlying5 (hval 2 5 v2 rfl rfl)
  obtain rfl : b' = b := by simpa [Value.cells] using e2
  obtain ⟨b0, b1⟩ := bounds_u8 u2
  refine (walk A1 B1 c1 d1 m a' b' W R1 S1 l1 l2 a0 a1 b0 b1).mono fun e W' ⟨he, hb⟩ => ?_
  subst he
  exact ⟨_, rfl, law_post (tb := 4) (by kernel_rfl) (by kernel_rfl) (by kernel_rfl) Try.underlying4 rfl hW' rfl hb⟩

theorem over : Rows.memGuardsRow.holds Try.pinned (OpenSpec.ofChange Rows.memGuardsSpec) :=
  OpenClaim.holds_of_wide 6 Try.f6 rfl rfl rfl rfl rfl rfl rfl ⟨rfl, rfl, rfl, rfl, rfl⟩ rfl rfl rfl rfl rfl (by kernel_rfl) Try.func6 (by kernel_rfl)
    (of_decide_eq_true (by kernel_rfl)) (by unfold Func.isWrapper; first | (rw [if_pos (by decide +kernel)]; kernel_rfl) | (rw [if_neg (by decide +kernel)]; exact ⟨rfl, rfl⟩))
    (fun os started H enc _ => lifted os started H enc)
end MemGuards

theorem memGuards_holds : Rows.MemGuardsSaid := MemGuards.over
#print axioms memGuards_holds
end Go.Proofs.Ytbpkndjnohdnjaa
