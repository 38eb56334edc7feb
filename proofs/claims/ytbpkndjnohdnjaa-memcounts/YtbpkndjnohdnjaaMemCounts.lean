/- For every arena and every two uint8, the law MemCounts (free, live and retired nodes are all there are; a turn that may be moves one from one count to another) returns true, and the arguments read afterwards as before. No conditions. -/
import Derived.Test.YtbpkndjnohdnjaaRows
import Derived.Test.YtbpkndjnohdnjaaShown2
import Derived.Test.YtbpkndjnohdnjaaLaw
import Derived.Test.YtbpkndjnohdnjaaOpen2
import Derived.Test.YtbpkndjnohdnjaaCounts
import Derived.IntWalk
namespace Go.Proofs.Ytbpkndjnohdnjaa
namespace MemCounts
open Go.ChangeShapes Go.WideShapes Go.ChangeAt Go.RowKit
set_option linter.unusedVariables false
set_option linter.unusedSimpArgs false

theorem own : ownKnob Try.prog.godebug = none := by kernel_rfl

set_option maxRecDepth 100000 in
set_option maxHeartbeats 1000000 in
theorem walk (A1 B1 : Option Addr) (c1 d1 : Nat) (m : Ar) (a b : Int) (w : World) (R1 : Row w A1 m.W) (S1 : Row w B1 m.G) (l1 : m.W.length ≤ maxLen) (l2 : m.G.length ≤ maxLen) (a0 : 0 ≤ a) (a1 : a ≤ 255) (b0 : 0 ≤ b) (b1 : b ≤ 255) :
    Calls Try.prog 10 #[.agg #[.slice A1 m.W.length c1, .slice B1 m.G.length d1, .bool m.bad], .int .u8 a, .int .u8 b] w fun e w' => e = .returned (.bool true) ∧ Below w.heap.size w w' := by
  cases q : mMays m
  · have hb : Below w.heap.size w w := Below.refl _ _
    go_enter Try.func10, Try.ntmps10
    go_wp2_with fail
    refine (shown_any _).mono ?_
    rintro e w1 ⟨rfl, hk⟩
    replace hb := bstep hb (bstep (by repeat (first | exact Below.refl _ _ | apply up | apply dr | apply drN)) hk)
    have V1 := (Vr.box (c := c1) (c' := d1) R1 S1).step (bstep (by repeat (first | exact Below.refl _ _ | apply up | apply dr | apply drN)) hk)
    clear hk
    have m10 := V1.c0; have m11 := V1.c1; have m12 := V1.c2; have m1l := V1.lt
    go_wp2_with fail
    refine (may_any _ _ _ _ m _ (V1.r2.step (by repeat (first | exact Below.refl _ _ | apply up | apply dr | apply drN))) l2 l1).mono ?_
    rintro e w2 ⟨rfl, hk⟩
    replace hb := bstep hb (bstep (by repeat (first | exact Below.refl _ _ | apply up | apply dr | apply drN)) hk)
    replace V1 := V1.step (bstep (by repeat (first | exact Below.refl _ _ | apply up | apply dr | apply drN)) hk)
    clear hk
    clear m10 m11 m12 m1l
    have m10 := V1.c0; have m11 := V1.c1; have m12 := V1.c2; have m1l := V1.lt
    go_wp2
    go_ret
    exact ⟨rfl, hb⟩
  · rcases (Bool.eq_false_or_eq_true m.bad).symm with qb | qb
    all_goals
      have QB := hid qb
      clear qb
    · have hR : mSmall m = true ∧ mRight m = true := by simpa [mMays] using q
      obtain ⟨g1, g2, g3, g4, g5⟩ := mRight_out hR.2
      have g6 : m.G.length ≤ 61 ∧ m.W.length ≤ 368 := by simpa [mSmall] using hR.1
      obtain ⟨g6, g7⟩ := g6
      have G3 := hid g3
      have G4 := hid g4
      have G5 := hid g5
      clear g3 g4 g5 hR
      have hsum := mCount_sum m.G (by omega) G5.out
      have hne : m.G ≠ [] := by intro h; rw [h] at g1; simp at g1
      obtain ⟨i, hi⟩ : ∃ i : Nat, 1 + a % ((m.G.length : Int) - 1) = i := ⟨(1 + a % ((m.G.length : Int) - 1)).toNat, by have := Int.emod_nonneg a (b := (m.G.length : Int) - 1) (by omega); omega⟩
      have i0 : 1 ≤ i := by have := Int.emod_nonneg a (b := (m.G.length : Int) - 1) (by omega); omega
      have i1 : i < m.G.length := by have := Int.emod_lt_of_pos a (b := (m.G.length : Int) - 1) (by omega); omega
      obtain ⟨z, hz⟩ : ∃ z, b % 3 = z := ⟨_, rfl⟩
      have z0 : 0 ≤ z ∧ z ≤ 2 := by omega
      obtain ⟨z0, z1⟩ := z0
      obtain ⟨gb, ob, x, rfl, hgb, HX, hc⟩ := S1.atX i i1
      clear hc
      have n7 : mCount m.G 7 = 0 := mCount_none m.G 7 (fun j hj => by have := G5.out j hj; omega)
      have cl : ∀ y, mCount m.G y ≤ 61 := fun y => Nat.le_trans (mCount_le m.G y) g6
      have cl0 := cl 0; have cl1 := cl 1; have cl2 := cl 2; have clz := cl z; have clx := cl x
      clear cl
      have HT := hid (mTurns_in (m := m) (i := (i : Int)) (z := z) (by omega) (by omega))
      obtain ⟨n0, hn0⟩ : ∃ n, mCount m.G 0 = n := ⟨_, rfl⟩
      obtain ⟨n1, hn1⟩ : ∃ n, mCount m.G 1 = n := ⟨_, rfl⟩
      obtain ⟨n2, hn2⟩ : ∃ n, mCount m.G 2 = n := ⟨_, rfl⟩
      obtain ⟨nz, hnz⟩ : ∃ n, mCount m.G z = n := ⟨_, rfl⟩
      obtain ⟨nx, hnx⟩ : ∃ n, mCount m.G x = n := ⟨_, rfl⟩
      rw [hn0] at cl0 hsum
      rw [hn1] at cl1 hsum
      rw [hn2] at cl2 hsum
      rw [hnz] at clz
      rw [hnx] at clx
      have e1 : ((n0 : Int) + n1 + n2 == (m.G.length : Int) - 1) = true := by simp; omega
      clear hsum
      cases tt : mTurns m i z
      · have T := hid (mTurn_no tt)
        have sG : Hid ((mTurn m i z).G.length ≤ 61) := by show _ ≤ _; rw [T.out.2.1]; exact g6
        have hb : Below w.heap.size w w := Below.refl _ _
        go_enter Try.func10, Try.ntmps10
        go_wp2_with fail
        refine (shown_any _).mono ?_
        rintro e w1 ⟨rfl, hk⟩
        replace hb := bstep hb (bstep (by repeat (first | exact Below.refl _ _ | apply up | apply dr | apply drN)) hk)
        have V1 := (Vr.box (c := c1) (c' := d1) R1 S1).step (bstep (by repeat (first | exact Below.refl _ _ | apply up | apply dr | apply drN)) hk)
        clear hk
        have m10 := V1.c0; have m11 := V1.c1; have m12 := V1.c2; have m1l := V1.lt
        go_wp2_with fail
        refine (may_any _ _ _ _ m _ (V1.r2.step (by repeat (first | exact Below.refl _ _ | apply up | apply dr | apply drN))) l2 l1).mono ?_
        rintro e w2 ⟨rfl, hk⟩
        replace hb := bstep hb (bstep (by repeat (first | exact Below.refl _ _ | apply up | apply dr | apply drN)) hk)
        replace V1 := V1.step (bstep (by repeat (first | exact Below.refl _ _ | apply up | apply dr | apply drN)) hk)
        clear hk
        clear m10 m11 m12 m1l
        have m10 := V1.c0; have m11 := V1.c1; have m12 := V1.c2; have m1l := V1.lt
        have qb := QB.out
        go_upto_region 4 with (fail)
        clear qb
        go_wp2_with fail
        refine (count_any _ _ _ _ m 0 _ (V1.r2.step (by repeat (first | exact Below.refl _ _ | apply up | apply dr | apply drN))) (by omega)).mono ?_
        rintro e w3 ⟨rfl, hk⟩
        replace hb := bstep hb (bstep (by repeat (first | exact Below.refl _ _ | apply up | apply dr | apply drN)) hk)
        replace V1 := V1.step (bstep (by repeat (first | exact Below.refl _ _ | apply up | apply dr | apply drN)) hk)
        clear hk
        clear m10 m11 m12 m1l
        have m10 := V1.c0; have m11 := V1.c1; have m12 := V1.c2; have m1l := V1.lt
        go_wp2_with fail
        refine (count_any _ _ _ _ m 1 _ (V1.r2.step (by repeat (first | exact Below.refl _ _ | apply up | apply dr | apply drN))) (by omega)).mono ?_
        rintro e w4 ⟨rfl, hk⟩
        replace hb := bstep hb (bstep (by repeat (first | exact Below.refl _ _ | apply up | apply dr | apply drN)) hk)
        replace V1 := V1.step (bstep (by repeat (first | exact Below.refl _ _ | apply up | apply dr | apply drN)) hk)
        clear hk
        clear m10 m11 m12 m1l
        have m10 := V1.c0; have m11 := V1.c1; have m12 := V1.c2; have m1l := V1.lt
        go_wp2_with fail
        refine (count_any _ _ _ _ m 2 _ (V1.r2.step (by repeat (first | exact Below.refl _ _ | apply up | apply dr | apply drN))) (by omega)).mono ?_
        rintro e w5 ⟨rfl, hk⟩
        replace hb := bstep hb (bstep (by repeat (first | exact Below.refl _ _ | apply up | apply dr | apply drN)) hk)
        replace V1 := V1.step (bstep (by repeat (first | exact Below.refl _ _ | apply up | apply dr | apply drN)) hk)
        clear hk
        clear m10 m11 m12 m1l
        have m10 := V1.c0; have m11 := V1.c1; have m12 := V1.c2; have m1l := V1.lt
        go_wp2_with fail
        refine (turn_any _ _ _ _ m i z _ (V1.r1.step (by repeat (first | exact Below.refl _ _ | apply up | apply dr | apply drN))) (V1.r2.step (by repeat (first | exact Below.refl _ _ | apply up | apply dr | apply drN))) (by omega) (by omega)).mono ?_
        rintro e w6 ⟨A5, B5, c5, d5, rfl, R5, S5, hk⟩
        replace hb := bstep hb (bstep (by repeat (first | exact Below.refl _ _ | apply up | apply dr | apply drN)) hk)
        replace V1 := V1.step (bstep (by repeat (first | exact Below.refl _ _ | apply up | apply dr | apply drN)) hk)
        clear hk
        clear m10 m11 m12 m1l
        have m10 := V1.c0; have m11 := V1.c1; have m12 := V1.c2; have m1l := V1.lt
        go_upto_region 10 with (fail)
        replace hb := bstep hb (boxed w6 (.cells #[.slice A5 (mTurn m i z).W.length c5, .slice B5 (mTurn m i z).G.length d5, .bool (mTurn m i z).bad] 24))
        replace V1 := V1.step (boxed w6 (.cells #[.slice A5 (mTurn m i z).W.length c5, .slice B5 (mTurn m i z).G.length d5, .bool (mTurn m i z).bad] 24))
        have V5 := Vr.box (w := w6) (m := (mTurn m i z)) (c := c5) (c' := d5) R5 S5
        obtain ⟨b5, hbl5⟩ : ∃ b, w6.heap.size = b := ⟨_, rfl⟩
        rw [hbl5] at V5 ⊢
        generalize w6.alloc (.cells #[.slice A5 (mTurn m i z).W.length c5, .slice B5 (mTurn m i z).G.length d5, .bool (mTurn m i z).bad] 24) = w7 at *
        clear hbl5 R5 S5
        clear m10 m11 m12 m1l
        have m10 := V1.c0; have m11 := V1.c1; have m12 := V1.c2; have m1l := V1.lt
        have m50 := V5.c0; have m51 := V5.c1; have m52 := V5.c2; have m5l := V5.lt
        obtain ⟨t1, t2, t3⟩ := T.out
        have u1 : mCount (mTurn m i z).G z = nz := by rw [t2]; exact hnz
        have k1 : m.G.length ≤ 1000000000 := by omega
        have k2 : (mTurn m i z).G.length ≤ 1000000000 := by have := sG.out; omega
        clear t1 t2
        go_upto_region 11 with (fail)
        clear t3
        have y1 : IntKind.i64.wrap ((n0 : Int) + n1) = n0 + n1 := IntWalk.i64_in _ (by omega)
        have y2 : IntKind.i64.wrap ((n0 : Int) + n1 + n2) = n0 + n1 + n2 := IntWalk.i64_in _ (by omega)
        have y3 : IntKind.i64.wrap ((m.G.length : Int) - 1) = m.G.length - 1 := IntWalk.i64_in _ (by omega)
        have hS : ∀ w', Below w7.heap.size w7 w' → (Below w7.heap.size w7 w' ∧ w'.cell? ⟨w.heap.size, 0, none⟩ = some (.slice A1 m.W.length c1) ∧ w'.cell? ⟨w.heap.size, 1, none⟩ = some (.slice (some ⟨gb, ob, none⟩) m.G.length d1) ∧ w'.cell? ⟨w.heap.size, 2, none⟩ = some (.bool m.bad) ∧ w'.cell? ⟨b5, 0, none⟩ = some (.slice A5 (mTurn m i z).W.length c5) ∧ w'.cell? ⟨b5, 1, none⟩ = some (.slice B5 (mTurn m i z).G.length d5) ∧ w'.cell? ⟨b5, 2, none⟩ = some (.bool (mTurn m i z).bad)) := fun w' h => ⟨h, (h.cell m1l).trans m10, (h.cell m1l).trans m11, (h.cell m1l).trans m12, (h.cell m5l).trans m50, (h.cell m5l).trans m51, (h.cell m5l).trans m52⟩
        go_region_held3 (fun w' => Below w7.heap.size w7 w' ∧ w'.cell? ⟨w.heap.size, 0, none⟩ = some (.slice A1 m.W.length c1) ∧ w'.cell? ⟨w.heap.size, 1, none⟩ = some (.slice (some ⟨gb, ob, none⟩) m.G.length d1) ∧ w'.cell? ⟨w.heap.size, 2, none⟩ = some (.bool m.bad) ∧ w'.cell? ⟨b5, 0, none⟩ = some (.slice A5 (mTurn m i z).W.length c5) ∧ w'.cell? ⟨b5, 1, none⟩ = some (.slice B5 (mTurn m i z).G.length d5) ∧ w'.cell? ⟨b5, 2, none⟩ = some (.bool (mTurn m i z).bad)) (first | exact hS _ ((Below.refl _ _).drew) | (go_split_ands; exact hS _ (bstep (by assumption) hk)))
          (first
            | (go_at_call 23; (with_reducible refine (count_any _ _ _ _ m _ _ (V1.r2.step (by go_split_ands; assumption)) k1).mono ?_); rintro e wk ⟨rfl, hk⟩)
            | (go_at_call 23; (with_reducible refine (count_any _ _ _ _ (mTurn m i z) _ _ (V5.r2.step (by go_split_ands; assumption)) k2).mono ?_); rintro e wk ⟨rfl, hk⟩))
        go_wp2
        go_ret
        exact ⟨rfl, bstep hb (by first | assumption | (go_split_ands; assumption))⟩
      · have T := hid (mTurn_yes tt)
        have sG : Hid ((mTurn m i z).G.length ≤ 61) := by show _ ≤ _; rw [T.out.2.1, List.length_set]; exact g6
        have hb : Below w.heap.size w w := Below.refl _ _
        go_enter Try.func10, Try.ntmps10
        go_wp2_with fail
        refine (shown_any _).mono ?_
        rintro e w1 ⟨rfl, hk⟩
        replace hb := bstep hb (bstep (by repeat (first | exact Below.refl _ _ | apply up | apply dr | apply drN)) hk)
        have V1 := (Vr.box (c := c1) (c' := d1) R1 S1).step (bstep (by repeat (first | exact Below.refl _ _ | apply up | apply dr | apply drN)) hk)
        clear hk
        have m10 := V1.c0; have m11 := V1.c1; have m12 := V1.c2; have m1l := V1.lt
        go_wp2_with fail
        refine (may_any _ _ _ _ m _ (V1.r2.step (by repeat (first | exact Below.refl _ _ | apply up | apply dr | apply drN))) l2 l1).mono ?_
        rintro e w2 ⟨rfl, hk⟩
        replace hb := bstep hb (bstep (by repeat (first | exact Below.refl _ _ | apply up | apply dr | apply drN)) hk)
        replace V1 := V1.step (bstep (by repeat (first | exact Below.refl _ _ | apply up | apply dr | apply drN)) hk)
        clear hk
        clear m10 m11 m12 m1l
        have m10 := V1.c0; have m11 := V1.c1; have m12 := V1.c2; have m1l := V1.lt
        have qb := QB.out
        go_upto_region 4 with (fail)
        clear qb
        go_wp2_with fail
        refine (count_any _ _ _ _ m 0 _ (V1.r2.step (by repeat (first | exact Below.refl _ _ | apply up | apply dr | apply drN))) (by omega)).mono ?_
        rintro e w3 ⟨rfl, hk⟩
        replace hb := bstep hb (bstep (by repeat (first | exact Below.refl _ _ | apply up | apply dr | apply drN)) hk)
        replace V1 := V1.step (bstep (by repeat (first | exact Below.refl _ _ | apply up | apply dr | apply drN)) hk)
        clear hk
        clear m10 m11 m12 m1l
        have m10 := V1.c0; have m11 := V1.c1; have m12 := V1.c2; have m1l := V1.lt
        go_wp2_with fail
        refine (count_any _ _ _ _ m 1 _ (V1.r2.step (by repeat (first | exact Below.refl _ _ | apply up | apply dr | apply drN))) (by omega)).mono ?_
        rintro e w4 ⟨rfl, hk⟩
        replace hb := bstep hb (bstep (by repeat (first | exact Below.refl _ _ | apply up | apply dr | apply drN)) hk)
        replace V1 := V1.step (bstep (by repeat (first | exact Below.refl _ _ | apply up | apply dr | apply drN)) hk)
        clear hk
        clear m10 m11 m12 m1l
        have m10 := V1.c0; have m11 := V1.c1; have m12 := V1.c2; have m1l := V1.lt
        go_wp2_with fail
        refine (count_any _ _ _ _ m 2 _ (V1.r2.step (by repeat (first | exact Below.refl _ _ | apply up | apply dr | apply drN))) (by omega)).mono ?_
        rintro e w5 ⟨rfl, hk⟩
        replace hb := bstep hb (bstep (by repeat (first | exact Below.refl _ _ | apply up | apply dr | apply drN)) hk)
        replace V1 := V1.step (bstep (by repeat (first | exact Below.refl _ _ | apply up | apply dr | apply drN)) hk)
        clear hk
        clear m10 m11 m12 m1l
        have m10 := V1.c0; have m11 := V1.c1; have m12 := V1.c2; have m1l := V1.lt
        go_wp2_with fail
        refine (turn_any _ _ _ _ m i z _ (V1.r1.step (by repeat (first | exact Below.refl _ _ | apply up | apply dr | apply drN))) (V1.r2.step (by repeat (first | exact Below.refl _ _ | apply up | apply dr | apply drN))) (by omega) (by omega)).mono ?_
        rintro e w6 ⟨A5, B5, c5, d5, rfl, R5, S5, hk⟩
        replace hb := bstep hb (bstep (by repeat (first | exact Below.refl _ _ | apply up | apply dr | apply drN)) hk)
        replace V1 := V1.step (bstep (by repeat (first | exact Below.refl _ _ | apply up | apply dr | apply drN)) hk)
        clear hk
        clear m10 m11 m12 m1l
        have m10 := V1.c0; have m11 := V1.c1; have m12 := V1.c2; have m1l := V1.lt
        go_upto_region 10 with (fail)
        replace hb := bstep hb (boxed w6 (.cells #[.slice A5 (mTurn m i z).W.length c5, .slice B5 (mTurn m i z).G.length d5, .bool (mTurn m i z).bad] 24))
        replace V1 := V1.step (boxed w6 (.cells #[.slice A5 (mTurn m i z).W.length c5, .slice B5 (mTurn m i z).G.length d5, .bool (mTurn m i z).bad] 24))
        have V5 := Vr.box (w := w6) (m := (mTurn m i z)) (c := c5) (c' := d5) R5 S5
        obtain ⟨b5, hbl5⟩ : ∃ b, w6.heap.size = b := ⟨_, rfl⟩
        rw [hbl5] at V5 ⊢
        generalize w6.alloc (.cells #[.slice A5 (mTurn m i z).W.length c5, .slice B5 (mTurn m i z).G.length d5, .bool (mTurn m i z).bad] 24) = w7 at *
        clear hbl5 R5 S5
        clear m10 m11 m12 m1l
        have m10 := V1.c0; have m11 := V1.c1; have m12 := V1.c2; have m1l := V1.lt
        have m50 := V5.c0; have m51 := V5.c1; have m52 := V5.c2; have m5l := V5.lt
        obtain ⟨t1, t2, t3⟩ := T.out
        rw [Int.toNat_natCast] at t2
        have hxz : x ≠ z := by have h1 := HT.out; rw [tt, Int.toNat_natCast, HX.out] at h1; intro h; subst h; simp [mMay] at h1; omega
        have s1 := mCount_set m.G i z z i0 i1
        have s2 := mCount_set m.G i z x i0 i1
        rw [← t2, HX.out, if_neg hxz, if_pos rfl, hnz] at s1
        rw [← t2, HX.out, if_pos rfl, if_neg hxz.symm, hnx] at s2
        obtain ⟨mz, hmz⟩ : ∃ n, mCount (mTurn m i z).G z = n := ⟨_, rfl⟩
        obtain ⟨mx, hmx⟩ : ∃ n, mCount (mTurn m i z).G x = n := ⟨_, rfl⟩
        rw [hmz] at s1
        rw [hmx] at s2
        have e2 : ((mz : Int) == (nz : Int) + 1) = true := by simp; omega
        have e3 : ((mx : Int) == (nx : Int) - 1) = true := by simp; omega
        clear s1 s2 hxz
        have k1 : m.G.length ≤ 1000000000 := by omega
        have k2 : (mTurn m i z).G.length ≤ 1000000000 := by have := sG.out; omega
        have i2 : (i : Int) < (m.G.length : Int) := by omega
        have i3 : 0 ≤ (i : Int) := by omega
        have cx := V1.r2.cellX i i1 HX
        have hgb' : gb < w7.heap.size := Nat.lt_of_lt_of_le hgb hb.size
        clear t1 t2
        have t4 : (mTurn m i z).bad = false := by rw [t3]; exact QB.out
        clear t3
        go_upto_region 12 with (fail)
        clear t4
        have y1 : IntKind.i64.wrap ((n0 : Int) + n1) = n0 + n1 := IntWalk.i64_in _ (by omega)
        have y2 : IntKind.i64.wrap ((n0 : Int) + n1 + n2) = n0 + n1 + n2 := IntWalk.i64_in _ (by omega)
        have y3 : IntKind.i64.wrap ((m.G.length : Int) - 1) = m.G.length - 1 := IntWalk.i64_in _ (by omega)
        have y4 : IntKind.i64.wrap ((nz : Int) + 1) = nz + 1 := IntWalk.i64_in _ (by omega)
        have y5 : IntKind.i64.wrap ((nx : Int) - 1) = nx - 1 := IntWalk.i64_in _ (by omega)
        have hS : ∀ w', Below w7.heap.size w7 w' → (Below w7.heap.size w7 w' ∧ w'.cell? ⟨w.heap.size, 0, none⟩ = some (.slice A1 m.W.length c1) ∧ w'.cell? ⟨w.heap.size, 1, none⟩ = some (.slice (some ⟨gb, ob, none⟩) m.G.length d1) ∧ w'.cell? ⟨w.heap.size, 2, none⟩ = some (.bool m.bad) ∧ w'.cell? ⟨b5, 0, none⟩ = some (.slice A5 (mTurn m i z).W.length c5) ∧ w'.cell? ⟨b5, 1, none⟩ = some (.slice B5 (mTurn m i z).G.length d5) ∧ w'.cell? ⟨b5, 2, none⟩ = some (.bool (mTurn m i z).bad) ∧ w'.cell? ⟨gb, ob + i, none⟩ = some (.int .i64 x)) := fun w' h => ⟨h, (h.cell m1l).trans m10, (h.cell m1l).trans m11, (h.cell m1l).trans m12, (h.cell m5l).trans m50, (h.cell m5l).trans m51, (h.cell m5l).trans m52, (h.cell hgb').trans cx⟩
        go_region_held3 (fun w' => Below w7.heap.size w7 w' ∧ w'.cell? ⟨w.heap.size, 0, none⟩ = some (.slice A1 m.W.length c1) ∧ w'.cell? ⟨w.heap.size, 1, none⟩ = some (.slice (some ⟨gb, ob, none⟩) m.G.length d1) ∧ w'.cell? ⟨w.heap.size, 2, none⟩ = some (.bool m.bad) ∧ w'.cell? ⟨b5, 0, none⟩ = some (.slice A5 (mTurn m i z).W.length c5) ∧ w'.cell? ⟨b5, 1, none⟩ = some (.slice B5 (mTurn m i z).G.length d5) ∧ w'.cell? ⟨b5, 2, none⟩ = some (.bool (mTurn m i z).bad) ∧ w'.cell? ⟨gb, ob + i, none⟩ = some (.int .i64 x)) (first | exact hS _ ((Below.refl _ _).drew) | (go_split_ands; exact hS _ (bstep (by assumption) hk)))
          (first
            | (go_at_call 23; (with_reducible refine (count_any _ _ _ _ m _ _ (V1.r2.step (by go_split_ands; assumption)) k1).mono ?_); rintro e wk ⟨rfl, hk⟩)
            | (go_at_call 23; (with_reducible refine (count_any _ _ _ _ (mTurn m i z) _ _ (V5.r2.step (by go_split_ands; assumption)) k2).mono ?_); rintro e wk ⟨rfl, hk⟩))
        go_wp2
        go_ret
        exact ⟨rfl, bstep hb (by first | assumption | (go_split_ands; assumption))⟩
    · have hb : Below w.heap.size w w := Below.refl _ _
      go_enter Try.func10, Try.ntmps10
      go_wp2_with fail
      refine (shown_any _).mono ?_
      rintro e w1 ⟨rfl, hk⟩
      replace hb := bstep hb (bstep (by repeat (first | exact Below.refl _ _ | apply up | apply dr | apply drN)) hk)
      have V1 := (Vr.box (c := c1) (c' := d1) R1 S1).step (bstep (by repeat (first | exact Below.refl _ _ | apply up | apply dr | apply drN)) hk)
      clear hk
      have m10 := V1.c0; have m11 := V1.c1; have m12 := V1.c2; have m1l := V1.lt
      go_wp2_with fail
      refine (may_any _ _ _ _ m _ (V1.r2.step (by repeat (first | exact Below.refl _ _ | apply up | apply dr | apply drN))) l2 l1).mono ?_
      rintro e w2 ⟨rfl, hk⟩
      replace hb := bstep hb (bstep (by repeat (first | exact Below.refl _ _ | apply up | apply dr | apply drN)) hk)
      replace V1 := V1.step (bstep (by repeat (first | exact Below.refl _ _ | apply up | apply dr | apply drN)) hk)
      clear hk
      clear m10 m11 m12 m1l
      have m10 := V1.c0; have m11 := V1.c1; have m12 := V1.c2; have m1l := V1.lt
      have qb := QB.out
      go_wp2
      go_ret
      exact ⟨rfl, hb⟩

set_option maxRecDepth 100000 in
theorem lifted (os : Os) (started : os.Started) (H : Type) (enc : TypeId × Value → H) :
    ReturnsInHanded {} Try.checked os 10 .any (Rows.memCountsSpec.pre6 enc Try.prog Try.f10 Rows.memCountsRow.domain false) (Rows.memCountsSpec.post enc Try.prog Try.f10 false true false false) := by
  refine returnsInHanded_of_change (C := Try.checked) own started (by kernel_rfl) Try.func10
    (ChangeSpec.witness6 (enc := enc) (C := Try.checked) false ⟨#[], #[.agg #[.slice none 0 0, .slice none 0 0, .bool false], .int .u8 0, .int .u8 0], []⟩ 8 (by kernel_rfl) (by kernel_rfl) (by kernel_rfl) (by kernel_rfl)) ?_
  intro W base args ds gs before hval0 hW hcnd _
  have hval : ∀ (j : Nat) t v, Try.f10.params[j]? = some t → args[j]? = some v → Value.okWide Try.prog W .any base t v := hval0
  have hW' := hW
  obtain ⟨p, q, hA0, hV, rfl, hfz, hnd⟩ := hW
  have hA : DataW.TrodAll enc Try.prog W 0 (fun _ => true) true Try.f10.params.toList args.toList ds p := hA0
  rw [Try.params10] at hA hval
  obtain ⟨v0, vs0, d0, ds0, p0, q0, hargs, rfl, rfl, h0, r0⟩ := trodAll_cons hA
  obtain ⟨v1, vs1, d1, ds1, p1, q1, rfl, rfl, rfl, h1, r1⟩ := trodAll_cons r0
  obtain ⟨v2, vs2, d2, ds2, p2, q2, rfl, rfl, rfl, h2, r2⟩ := trodAll_cons r1
  obtain ⟨rfl, rfl, rfl⟩ := trodAll_nil r2
  obtain rfl : args = #[v0, v1, v2] := by cases args; simp_all
  obtain ⟨rfl, rfl⟩ := trodVars_none hV
  clear hA0 hval0
  obtain ⟨A1, B1, c1, d1, m, rfl, R1, S1, l1, l2⟩ := open_arena (hval 0 24 v0 rfl rfl) h0
  obtain ⟨n1, hn1⟩ := h1
  obtain ⟨a, e1, _, u1⟩ := DataW.trod_int Try.underlying5 hn1
  obtain ⟨a', rfl⟩ := okWide_int Try.underlying5 (hval 1 5 v1 rfl rfl)
  obtain rfl : a' = a := by simpa [Value.cells] using e1
  obtain ⟨a0, a1⟩ := bounds_u8 u1
  obtain ⟨n2, hn2⟩ := h2
  obtain ⟨b, e2, _, u2⟩ := DataW.trod_int Try.underlying5 hn2
  obtain ⟨b', rfl⟩ := okWide_int Try.underlying5 (hval 2 5 v2 rfl rfl)
  obtain rfl : b' = b := by simpa [Value.cells] using e2
  obtain ⟨b0, b1⟩ := bounds_u8 u2
  refine (walk A1 B1 c1 d1 m a' b' W R1 S1 l1 l2 a0 a1 b0 b1).mono fun e W' ⟨he, hb⟩ => ?_
  subst he
  exact ⟨_, rfl, law_post (tb := 4) (by kernel_rfl) (by kernel_rfl) (by kernel_rfl) Try.underlying4 rfl hW' rfl hb⟩

theorem over : Rows.memCountsRow.holds Try.pinned (OpenSpec.ofChange Rows.memCountsSpec) :=
  OpenClaim.holds_of_wide 10 Try.f10 rfl rfl rfl rfl rfl rfl rfl ⟨rfl, rfl, rfl, rfl, rfl⟩ rfl rfl rfl rfl rfl (by kernel_rfl) Try.func10 (by kernel_rfl)
    (of_decide_eq_true (by kernel_rfl)) (by unfold Func.isWrapper; first | (rw [if_pos (by decide +kernel)]; kernel_rfl) | (rw [if_neg (by decide +kernel)]; exact ⟨rfl, rfl⟩))
    (fun os started H enc _ => lifted os started H enc)
end MemCounts

theorem memCounts_holds : Rows.MemCountsSaid := MemCounts.over
#print axioms memCounts_holds
end Go.Proofs.Ytbpkndjnohdnjaa
