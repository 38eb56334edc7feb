/- For every arena, every two places and every two ints, the law MemTwice (two stores to two places may be done in any order; of two to one place the later one counts; what is swapped is swapped back) returns true, and the arguments read afterwards as before. No conditions. -/
import Derived.Test.YtbpkndjnohdnjaaRows
import Derived.Test.YtbpkndjnohdnjaaShown2
import Derived.Test.YtbpkndjnohdnjaaLaw
import Derived.Test.YtbpkndjnohdnjaaOpen2
import Derived.Test.YtbpkndjnohdnjaaTwice
namespace Go.Proofs.Ytbpkndjnohdnjaa
namespace MemTwice
open Go.ChangeShapes Go.WideShapes Go.ChangeAt Go.RowKit
set_option linter.unusedVariables false
set_option linter.unusedSimpArgs false

theorem own : ownKnob Try.prog.godebug = none := by kernel_rfl

set_option maxRecDepth 100000 in
set_option maxHeartbeats 3000000 in
theorem walk (A1 B1 : Option Addr) (c1 d1 : Nat) (m : Ar) (a0 a1 v0 v1 : Int) (w : World) (R1 : Row w A1 m.W) (S1 : Row w B1 m.G) (l1 : m.W.length ≤ maxLen) (l2 : m.G.length ≤ maxLen) (p0 : -9223372036854775808 ≤ a0 ∧ a0 ≤ 9223372036854775807) (p1 : -9223372036854775808 ≤ a1 ∧ a1 ≤ 9223372036854775807) :
    Calls Try.prog 7 #[.agg #[.slice A1 m.W.length c1, .slice B1 m.G.length d1, .bool m.bad], .agg #[.int .i64 a0, .int .i64 a1], .agg #[.int .i64 v0, .int .i64 v1]] w fun e w' => e = .returned (.bool true) ∧ Below w.heap.size w w' := by
  cases q : mMays m
  · go_enter Try.func7, Try.ntmps7
    go_wp2_with fail
    refine (shown_any _).mono ?_
    rintro e w1 ⟨rfl, hk⟩
    have hb : Below w.heap.size w w1 := bstep (by repeat (first | exact Below.refl _ _ | apply up | apply dr | apply drN)) hk
    have V1 : Vr w1 w.heap.size m A1 B1 c1 d1 := (Vr.box (c := c1) (c' := d1) R1 S1).step (bstep (by repeat (first | exact Below.refl _ _ | apply up | apply dr | apply drN)) hk)
    have xl1 : w.heap.size + 1 < w1.heap.size := by have := hk.size; simp at this; omega
    have xl2 : w.heap.size + 1 + 1 < w1.heap.size := by have := hk.size; simp at this; omega
    have xa0 : w1.cell? ⟨w.heap.size + 1, 0, none⟩ = some (.int .i64 a0) := (hk.cell (by simp)).trans (by simp [go_sem])
    have xa1 : w1.cell? ⟨w.heap.size + 1, 1, none⟩ = some (.int .i64 a1) := (hk.cell (by simp)).trans (by simp [go_sem])
    have xv0 : w1.cell? ⟨w.heap.size + 1 + 1, 0, none⟩ = some (.int .i64 v0) := (hk.cell (by simp)).trans (by simp [go_sem])
    have xv1 : w1.cell? ⟨w.heap.size + 1 + 1, 1, none⟩ = some (.int .i64 v1) := (hk.cell (by simp)).trans (by simp [go_sem])
    clear hk
    have m10 := V1.c0; have m11 := V1.c1; have m12 := V1.c2; have m1l := V1.lt
    go_wp2_with fail
    refine (may_any _ _ _ _ m _ (V1.r2.step (by repeat (first | exact Below.refl _ _ | apply up | apply dr | apply drN))) l2 l1).mono ?_
    rintro e w2 ⟨rfl, hk⟩
    replace hb := bstep hb (bstep (by repeat (first | exact Below.refl _ _ | apply up | apply dr | apply drN)) hk)
    replace V1 := V1.step (bstep (by repeat (first | exact Below.refl _ _ | apply up | apply dr | apply drN)) hk)
    have hkk : Below w1.heap.size w1 w2 := bstep (by repeat (first | exact Below.refl _ _ | apply up | apply dr | apply drN)) hk
    replace xa0 : w2.cell? ⟨w.heap.size + 1, 0, none⟩ = some (.int .i64 a0) := (hkk.cell xl1).trans xa0
    replace xa1 : w2.cell? ⟨w.heap.size + 1, 1, none⟩ = some (.int .i64 a1) := (hkk.cell xl1).trans xa1
    replace xv0 : w2.cell? ⟨w.heap.size + 1 + 1, 0, none⟩ = some (.int .i64 v0) := (hkk.cell xl2).trans xv0
    replace xv1 : w2.cell? ⟨w.heap.size + 1 + 1, 1, none⟩ = some (.int .i64 v1) := (hkk.cell xl2).trans xv1
    replace xl1 : w.heap.size + 1 < w2.heap.size := Nat.lt_of_lt_of_le xl1 hkk.size
    replace xl2 : w.heap.size + 1 + 1 < w2.heap.size := Nat.lt_of_lt_of_le xl2 hkk.size
    clear hkk
    clear hk
    clear m10 m11 m12 m1l
    have m10 := V1.c0; have m11 := V1.c1; have m12 := V1.c2; have m1l := V1.lt
    go_wp2
    go_ret
    exact ⟨rfl, hb⟩
  · have hR : mSmall m = true ∧ mRight m = true := by simpa [mMays] using q
    obtain ⟨g1, g2, g3, g4, g5⟩ := mRight_out hR.2
    have g6 : m.G.length ≤ 61 ∧ m.W.length ≤ 368 := by simpa [mSmall] using hR.1
    obtain ⟨g6, g7⟩ := g6
    have G3 := hid g3
    have G4 := hid g4
    have G5 := hid g5
    clear g3 g4 g5 hR
    have k3 : m.W.length ≤ 1000000 := by omega
    have k4 : m.G.length ≤ 1000000 := by omega
    obtain ⟨⟨x1, x2, x3⟩, ⟨x4, x5, x6⟩⟩ := lens2 m a0 v0 a1 v1 g7 g6 g1
    obtain ⟨⟨y1, y2, y3⟩, _⟩ := lens2 m a1 v1 a0 v0 g7 g6 g1
    go_enter Try.func7, Try.ntmps7
    go_wp2_with fail
    refine (shown_any _).mono ?_
    rintro e w1 ⟨rfl, hk⟩
    have hb : Below w.heap.size w w1 := bstep (by repeat (first | exact Below.refl _ _ | apply up | apply dr | apply drN)) hk
    have V1 : Vr w1 w.heap.size m A1 B1 c1 d1 := (Vr.box (c := c1) (c' := d1) R1 S1).step (bstep (by repeat (first | exact Below.refl _ _ | apply up | apply dr | apply drN)) hk)
    have xl1 : w.heap.size + 1 < w1.heap.size := by have := hk.size; simp at this; omega
    have xl2 : w.heap.size + 1 + 1 < w1.heap.size := by have := hk.size; simp at this; omega
    have xa0 : w1.cell? ⟨w.heap.size + 1, 0, none⟩ = some (.int .i64 a0) := (hk.cell (by simp)).trans (by simp [go_sem])
    have xa1 : w1.cell? ⟨w.heap.size + 1, 1, none⟩ = some (.int .i64 a1) := (hk.cell (by simp)).trans (by simp [go_sem])
    have xv0 : w1.cell? ⟨w.heap.size + 1 + 1, 0, none⟩ = some (.int .i64 v0) := (hk.cell (by simp)).trans (by simp [go_sem])
    have xv1 : w1.cell? ⟨w.heap.size + 1 + 1, 1, none⟩ = some (.int .i64 v1) := (hk.cell (by simp)).trans (by simp [go_sem])
    clear hk
    have m10 := V1.c0; have m11 := V1.c1; have m12 := V1.c2; have m1l := V1.lt
    go_wp2_with fail
    refine (may_any _ _ _ _ m _ (V1.r2.step (by repeat (first | exact Below.refl _ _ | apply up | apply dr | apply drN))) l2 l1).mono ?_
    rintro e w2 ⟨rfl, hk⟩
    replace hb := bstep hb (bstep (by repeat (first | exact Below.refl _ _ | apply up | apply dr | apply drN)) hk)
    replace V1 := V1.step (bstep (by repeat (first | exact Below.refl _ _ | apply up | apply dr | apply drN)) hk)
    have hkk : Below w1.heap.size w1 w2 := bstep (by repeat (first | exact Below.refl _ _ | apply up | apply dr | apply drN)) hk
    replace xa0 : w2.cell? ⟨w.heap.size + 1, 0, none⟩ = some (.int .i64 a0) := (hkk.cell xl1).trans xa0
    replace xa1 : w2.cell? ⟨w.heap.size + 1, 1, none⟩ = some (.int .i64 a1) := (hkk.cell xl1).trans xa1
    replace xv0 : w2.cell? ⟨w.heap.size + 1 + 1, 0, none⟩ = some (.int .i64 v0) := (hkk.cell xl2).trans xv0
    replace xv1 : w2.cell? ⟨w.heap.size + 1 + 1, 1, none⟩ = some (.int .i64 v1) := (hkk.cell xl2).trans xv1
    replace xl1 : w.heap.size + 1 < w2.heap.size := Nat.lt_of_lt_of_le xl1 hkk.size
    replace xl2 : w.heap.size + 1 + 1 < w2.heap.size := Nat.lt_of_lt_of_le xl2 hkk.size
    clear hkk
    clear hk
    clear m10 m11 m12 m1l
    have m10 := V1.c0; have m11 := V1.c1; have m12 := V1.c2; have m1l := V1.lt
    go_upto_region 4 with (fail)
    go_cut [8] from 22 (fun s wx => ∃ (b : Nat) (A B : Option Addr) (c d : Nat), s = .pointer (some ⟨b, 0, none⟩) ∧ Vr wx b (mStore (mStore m a0 v0) a1 v1) A B c d ∧ Below w2.heap.size w2 wx)
    case first =>
      have hS : ∀ w', Below w2.heap.size w2 w' → (Below w2.heap.size w2 w' ∧ w'.cell? ⟨w.heap.size, 0, none⟩ = some (.slice A1 m.W.length c1) ∧ w'.cell? ⟨w.heap.size, 1, none⟩ = some (.slice B1 m.G.length d1) ∧ w'.cell? ⟨w.heap.size, 2, none⟩ = some (.bool m.bad) ∧ w'.cell? ⟨w.heap.size + 1, 0, none⟩ = some (.int .i64 a0) ∧ w'.cell? ⟨w.heap.size + 1, 1, none⟩ = some (.int .i64 a1) ∧ w'.cell? ⟨w.heap.size + 1 + 1, 0, none⟩ = some (.int .i64 v0) ∧ w'.cell? ⟨w.heap.size + 1 + 1, 1, none⟩ = some (.int .i64 v1)) := fun w' h => ⟨h, (h.cell m1l).trans m10, (h.cell m1l).trans m11, (h.cell m1l).trans m12, (h.cell xl1).trans xa0, (h.cell xl1).trans xa1, (h.cell xl2).trans xv0, (h.cell xl2).trans xv1⟩
      go_region_held3 (fun w' => Below w2.heap.size w2 w' ∧ w'.cell? ⟨w.heap.size, 0, none⟩ = some (.slice A1 m.W.length c1) ∧ w'.cell? ⟨w.heap.size, 1, none⟩ = some (.slice B1 m.G.length d1) ∧ w'.cell? ⟨w.heap.size, 2, none⟩ = some (.bool m.bad) ∧ w'.cell? ⟨w.heap.size + 1, 0, none⟩ = some (.int .i64 a0) ∧ w'.cell? ⟨w.heap.size + 1, 1, none⟩ = some (.int .i64 a1) ∧ w'.cell? ⟨w.heap.size + 1 + 1, 0, none⟩ = some (.int .i64 v0) ∧ w'.cell? ⟨w.heap.size + 1 + 1, 1, none⟩ = some (.int .i64 v1)) ((exact hS _ (by repeat (first | exact Below.refl _ _ | apply up | apply dr | apply drN | (refine bstep ?_ hk2) | (refine bstep ?_ hk1) | (refine keep3 ?_ (by first | (simp; done) | (simp; omega) | (have := hk1.size; simp at this ⊢; omega)) _ _ _)))))
        (first
          | (go_at_call 30; (with_reducible refine (store_any _ _ _ _ m a0 v0 _ (V1.r1.step (by repeat (first | exact Below.refl _ _ | apply up | apply dr | apply drN | (refine bstep ?_ hk2) | (refine bstep ?_ hk1) | (refine keep3 ?_ (by first | (simp; done) | (simp; omega) | (have := hk1.size; simp at this ⊢; omega)) _ _ _)))) (V1.r2.step (by repeat (first | exact Below.refl _ _ | apply up | apply dr | apply drN | (refine bstep ?_ hk2) | (refine bstep ?_ hk1) | (refine keep3 ?_ (by first | (simp; done) | (simp; omega) | (have := hk1.size; simp at this ⊢; omega)) _ _ _)))) k3 k4 g1 p0.1 p0.2).mono ?_); rintro e wk1 ⟨Aa, Ba, ca, da, rfl, Ra, Sa, hk1⟩; obtain ⟨gc1, gf1⟩ := bcell hk1; try (have hz1 : w2.heap.size < wk1.heap.size := (by have := hk1.size; simp at this; omega)))
          | (go_at_call 30; (with_reducible refine (store_any _ _ _ _ (mStore m a0 v0) a1 v1 _ (Ra.step (by repeat (first | exact Below.refl _ _ | apply up | apply dr | apply drN))) (Sa.step (by repeat (first | exact Below.refl _ _ | apply up | apply dr | apply drN))) x1 x2 x3 p1.1 p1.2).mono ?_); rintro e wk2 ⟨Ab, Bb, cb, db, rfl, Rb, Sb, hk2⟩; obtain ⟨gc2, gf2⟩ := bcell hk2))
      all_goals go_wp2_with fail
      all_goals go_meet
      all_goals
        first
          | exact ⟨_, _, _, _, _, rfl, Vr.box Rb Sb, by repeat (first | exact Below.refl _ _ | apply up | apply dr | apply drN | (refine bstep ?_ hk2) | (refine bstep ?_ hk1) | (refine keep3 ?_ (by first | (simp; done) | (simp; omega) | (have := hk1.size; simp at this ⊢; omega)) _ _ _))⟩
          | (have hz : wk2.heap[w2.heap.size]? = some (.cells #[.slice none 0 0, .slice none 0 0, .bool false] 24 (0, 0)) := (hk2.block _ (by have := hk1.size; simp at this ⊢; omega)).trans ((hk1.block _ (by simp)).trans (heap_alloc_new w2 _)); exact ⟨_, _, _, _, _, rfl, ⟨set3 hz, Rb.far3 hz _ _ _, Sb.far3 hz _ _ _⟩, by repeat (first | exact Below.refl _ _ | apply up | apply dr | apply drN | (refine bstep ?_ hk2) | (refine bstep ?_ hk1) | (refine keep3 ?_ (by first | (simp; done) | (simp; omega) | (have := hk1.size; simp at this ⊢; omega)) _ _ _))⟩)
          | (have hz : wk2.heap[wk1.heap.size]? = some (.cells #[.slice none 0 0, .slice none 0 0, .bool false] 24 (0, 0)) := (hk2.block _ (by simp)).trans (heap_alloc_new wk1 _); exact ⟨_, _, _, _, _, rfl, ⟨set3 hz, Rb.far3 hz _ _ _, Sb.far3 hz _ _ _⟩, by repeat (first | exact Below.refl _ _ | apply up | apply dr | apply drN | (refine bstep ?_ hk2) | (refine bstep ?_ hk1) | (refine keep3 ?_ (by first | (simp; done) | (simp; omega) | (have := hk1.size; simp at this ⊢; omega)) _ _ _))⟩)
    case rest =>
      obtain ⟨b2, A2, B2, c2, d2, rfl, V2, hk⟩ := hcut
      generalize wc = w3 at *
      replace hb := bstep hb hk
      replace V1 := V1.step hk
      have hkk : Below w2.heap.size w2 w3 := hk
      replace xa0 : w3.cell? ⟨w.heap.size + 1, 0, none⟩ = some (.int .i64 a0) := (hkk.cell xl1).trans xa0
      replace xa1 : w3.cell? ⟨w.heap.size + 1, 1, none⟩ = some (.int .i64 a1) := (hkk.cell xl1).trans xa1
      replace xv0 : w3.cell? ⟨w.heap.size + 1 + 1, 0, none⟩ = some (.int .i64 v0) := (hkk.cell xl2).trans xv0
      replace xv1 : w3.cell? ⟨w.heap.size + 1 + 1, 1, none⟩ = some (.int .i64 v1) := (hkk.cell xl2).trans xv1
      replace xl1 : w.heap.size + 1 < w3.heap.size := Nat.lt_of_lt_of_le xl1 hkk.size
      replace xl2 : w.heap.size + 1 + 1 < w3.heap.size := Nat.lt_of_lt_of_le xl2 hkk.size
      clear hkk
      clear hk
      clear m10 m11 m12 m1l
      have m10 := V1.c0; have m11 := V1.c1; have m12 := V1.c2; have m1l := V1.lt
      have m20 := V2.c0; have m21 := V2.c1; have m22 := V2.c2; have m2l := V2.lt
      go_upto_region 5 with (fail)
      go_cut [9] from 33 (fun s wx => ∃ (b : Nat) (A B : Option Addr) (c d : Nat), s = .pointer (some ⟨b, 0, none⟩) ∧ Vr wx b (mStore (mStore m a1 v1) a0 v0) A B c d ∧ Below w3.heap.size w3 wx)
      case first =>
        have hS : ∀ w', Below w3.heap.size w3 w' → (Below w3.heap.size w3 w' ∧ w'.cell? ⟨w.heap.size, 0, none⟩ = some (.slice A1 m.W.length c1) ∧ w'.cell? ⟨w.heap.size, 1, none⟩ = some (.slice B1 m.G.length d1) ∧ w'.cell? ⟨w.heap.size, 2, none⟩ = some (.bool m.bad) ∧ w'.cell? ⟨w.heap.size + 1, 0, none⟩ = some (.int .i64 a0) ∧ w'.cell? ⟨w.heap.size + 1, 1, none⟩ = some (.int .i64 a1) ∧ w'.cell? ⟨w.heap.size + 1 + 1, 0, none⟩ = some (.int .i64 v0) ∧ w'.cell? ⟨w.heap.size + 1 + 1, 1, none⟩ = some (.int .i64 v1)) := fun w' h => ⟨h, (h.cell m1l).trans m10, (h.cell m1l).trans m11, (h.cell m1l).trans m12, (h.cell xl1).trans xa0, (h.cell xl1).trans xa1, (h.cell xl2).trans xv0, (h.cell xl2).trans xv1⟩
        go_region_held3 (fun w' => Below w3.heap.size w3 w' ∧ w'.cell? ⟨w.heap.size, 0, none⟩ = some (.slice A1 m.W.length c1) ∧ w'.cell? ⟨w.heap.size, 1, none⟩ = some (.slice B1 m.G.length d1) ∧ w'.cell? ⟨w.heap.size, 2, none⟩ = some (.bool m.bad) ∧ w'.cell? ⟨w.heap.size + 1, 0, none⟩ = some (.int .i64 a0) ∧ w'.cell? ⟨w.heap.size + 1, 1, none⟩ = some (.int .i64 a1) ∧ w'.cell? ⟨w.heap.size + 1 + 1, 0, none⟩ = some (.int .i64 v0) ∧ w'.cell? ⟨w.heap.size + 1 + 1, 1, none⟩ = some (.int .i64 v1)) ((exact hS _ (by repeat (first | exact Below.refl _ _ | apply up | apply dr | apply drN | (refine bstep ?_ hk2) | (refine bstep ?_ hk1) | (refine keep3 ?_ (by first | (simp; done) | (simp; omega) | (have := hk1.size; simp at this ⊢; omega)) _ _ _)))))
          (first
            | (go_at_call 30; (with_reducible refine (store_any _ _ _ _ m a1 v1 _ (V1.r1.step (by repeat (first | exact Below.refl _ _ | apply up | apply dr | apply drN | (refine bstep ?_ hk2) | (refine bstep ?_ hk1) | (refine keep3 ?_ (by first | (simp; done) | (simp; omega) | (have := hk1.size; simp at this ⊢; omega)) _ _ _)))) (V1.r2.step (by repeat (first | exact Below.refl _ _ | apply up | apply dr | apply drN | (refine bstep ?_ hk2) | (refine bstep ?_ hk1) | (refine keep3 ?_ (by first | (simp; done) | (simp; omega) | (have := hk1.size; simp at this ⊢; omega)) _ _ _)))) k3 k4 g1 p1.1 p1.2).mono ?_); rintro e wk1 ⟨Aa, Ba, ca, da, rfl, Ra, Sa, hk1⟩; obtain ⟨gc1, gf1⟩ := bcell hk1; try (have hz1 : w3.heap.size < wk1.heap.size := (by have := hk1.size; simp at this; omega)))
            | (go_at_call 30; (with_reducible refine (store_any _ _ _ _ (mStore m a1 v1) a0 v0 _ (Ra.step (by repeat (first | exact Below.refl _ _ | apply up | apply dr | apply drN))) (Sa.step (by repeat (first | exact Below.refl _ _ | apply up | apply dr | apply drN))) y1 y2 y3 p0.1 p0.2).mono ?_); rintro e wk2 ⟨Ab, Bb, cb, db, rfl, Rb, Sb, hk2⟩; obtain ⟨gc2, gf2⟩ := bcell hk2))
        all_goals go_wp2_with fail
        all_goals go_meet
        all_goals
          first
            | exact ⟨_, _, _, _, _, rfl, Vr.box Rb Sb, by repeat (first | exact Below.refl _ _ | apply up | apply dr | apply drN | (refine bstep ?_ hk2) | (refine bstep ?_ hk1) | (refine keep3 ?_ (by first | (simp; done) | (simp; omega) | (have := hk1.size; simp at this ⊢; omega)) _ _ _))⟩
            | (have hz : wk2.heap[w3.heap.size]? = some (.cells #[.slice none 0 0, .slice none 0 0, .bool false] 24 (0, 0)) := (hk2.block _ (by have := hk1.size; simp at this ⊢; omega)).trans ((hk1.block _ (by simp)).trans (heap_alloc_new w3 _)); exact ⟨_, _, _, _, _, rfl, ⟨set3 hz, Rb.far3 hz _ _ _, Sb.far3 hz _ _ _⟩, by repeat (first | exact Below.refl _ _ | apply up | apply dr | apply drN | (refine bstep ?_ hk2) | (refine bstep ?_ hk1) | (refine keep3 ?_ (by first | (simp; done) | (simp; omega) | (have := hk1.size; simp at this ⊢; omega)) _ _ _))⟩)
            | (have hz : wk2.heap[wk1.heap.size]? = some (.cells #[.slice none 0 0, .slice none 0 0, .bool false] 24 (0, 0)) := (hk2.block _ (by simp)).trans (heap_alloc_new wk1 _); exact ⟨_, _, _, _, _, rfl, ⟨set3 hz, Rb.far3 hz _ _ _, Sb.far3 hz _ _ _⟩, by repeat (first | exact Below.refl _ _ | apply up | apply dr | apply drN | (refine bstep ?_ hk2) | (refine bstep ?_ hk1) | (refine keep3 ?_ (by first | (simp; done) | (simp; omega) | (have := hk1.size; simp at this ⊢; omega)) _ _ _))⟩)
      case rest =>
        obtain ⟨b3, A3, B3, c3, d3, rfl, V3, hk⟩ := hcut
        generalize wc = w4 at *
        replace hb := bstep hb hk
        replace V1 := V1.step hk
        replace V2 := V2.step hk
        have hkk : Below w3.heap.size w3 w4 := hk
        replace xa0 : w4.cell? ⟨w.heap.size + 1, 0, none⟩ = some (.int .i64 a0) := (hkk.cell xl1).trans xa0
        replace xa1 : w4.cell? ⟨w.heap.size + 1, 1, none⟩ = some (.int .i64 a1) := (hkk.cell xl1).trans xa1
        replace xv0 : w4.cell? ⟨w.heap.size + 1 + 1, 0, none⟩ = some (.int .i64 v0) := (hkk.cell xl2).trans xv0
        replace xv1 : w4.cell? ⟨w.heap.size + 1 + 1, 1, none⟩ = some (.int .i64 v1) := (hkk.cell xl2).trans xv1
        replace xl1 : w.heap.size + 1 < w4.heap.size := Nat.lt_of_lt_of_le xl1 hkk.size
        replace xl2 : w.heap.size + 1 + 1 < w4.heap.size := Nat.lt_of_lt_of_le xl2 hkk.size
        clear hkk
        clear hk
        clear m10 m11 m12 m1l
        clear m20 m21 m22 m2l
        have m10 := V1.c0; have m11 := V1.c1; have m12 := V1.c2; have m1l := V1.lt
        have m20 := V2.c0; have m21 := V2.c1; have m22 := V2.c2; have m2l := V2.lt
        have m30 := V3.c0; have m31 := V3.c1; have m32 := V3.c2; have m3l := V3.lt
        go_wp2_with fail
        refine (load_any _ _ _ _ (mStore (mStore m a0 v0) a1 v1) a1 _ (V2.r1.step (by repeat (first | exact Below.refl _ _ | apply up | apply dr | apply drN))) (V2.r2.step (by repeat (first | exact Below.refl _ _ | apply up | apply dr | apply drN))) x4 x5 x6 p1.1 p1.2).mono ?_
        rintro e w5 ⟨A4, B4, c4, d4, rfl, R4, S4, hk⟩
        replace hb := bstep hb (bstep (by repeat (first | exact Below.refl _ _ | apply up | apply dr | apply drN)) hk)
        replace V1 := V1.step (bstep (by repeat (first | exact Below.refl _ _ | apply up | apply dr | apply drN)) hk)
        replace V2 := V2.step (bstep (by repeat (first | exact Below.refl _ _ | apply up | apply dr | apply drN)) hk)
        replace V3 := V3.step (bstep (by repeat (first | exact Below.refl _ _ | apply up | apply dr | apply drN)) hk)
        have hkk : Below w4.heap.size w4 w5 := bstep (by repeat (first | exact Below.refl _ _ | apply up | apply dr | apply drN)) hk
        replace xa0 : w5.cell? ⟨w.heap.size + 1, 0, none⟩ = some (.int .i64 a0) := (hkk.cell xl1).trans xa0
        replace xa1 : w5.cell? ⟨w.heap.size + 1, 1, none⟩ = some (.int .i64 a1) := (hkk.cell xl1).trans xa1
        replace xv0 : w5.cell? ⟨w.heap.size + 1 + 1, 0, none⟩ = some (.int .i64 v0) := (hkk.cell xl2).trans xv0
        replace xv1 : w5.cell? ⟨w.heap.size + 1 + 1, 1, none⟩ = some (.int .i64 v1) := (hkk.cell xl2).trans xv1
        replace xl1 : w.heap.size + 1 < w5.heap.size := Nat.lt_of_lt_of_le xl1 hkk.size
        replace xl2 : w.heap.size + 1 + 1 < w5.heap.size := Nat.lt_of_lt_of_le xl2 hkk.size
        clear hkk
        clear hk
        clear m10 m11 m12 m1l
        have m10 := V1.c0; have m11 := V1.c1; have m12 := V1.c2; have m1l := V1.lt
        clear m20 m21 m22 m2l
        have m20 := V2.c0; have m21 := V2.c1; have m22 := V2.c2; have m2l := V2.lt
        clear m30 m31 m32 m3l
        have m30 := V3.c0; have m31 := V3.c1; have m32 := V3.c2; have m3l := V3.lt
        go_upto_region 7 with (fail)
        replace hb := bstep hb (boxed w5 (.cells #[.slice A4 (mLoad (mStore (mStore m a0 v0) a1 v1) a1).W.length c4, .slice B4 (mLoad (mStore (mStore m a0 v0) a1 v1) a1).G.length d4, .bool (mLoad (mStore (mStore m a0 v0) a1 v1) a1).bad] 24))
        replace V1 := V1.step (boxed w5 (.cells #[.slice A4 (mLoad (mStore (mStore m a0 v0) a1 v1) a1).W.length c4, .slice B4 (mLoad (mStore (mStore m a0 v0) a1 v1) a1).G.length d4, .bool (mLoad (mStore (mStore m a0 v0) a1 v1) a1).bad] 24))
        replace V2 := V2.step (boxed w5 (.cells #[.slice A4 (mLoad (mStore (mStore m a0 v0) a1 v1) a1).W.length c4, .slice B4 (mLoad (mStore (mStore m a0 v0) a1 v1) a1).G.length d4, .bool (mLoad (mStore (mStore m a0 v0) a1 v1) a1).bad] 24))
        replace V3 := V3.step (boxed w5 (.cells #[.slice A4 (mLoad (mStore (mStore m a0 v0) a1 v1) a1).W.length c4, .slice B4 (mLoad (mStore (mStore m a0 v0) a1 v1) a1).G.length d4, .bool (mLoad (mStore (mStore m a0 v0) a1 v1) a1).bad] 24))
        have V4 := Vr.box (w := w5) (m := (mLoad (mStore (mStore m a0 v0) a1 v1) a1)) (c := c4) (c' := d4) R4 S4
        have hkk : Below w5.heap.size w5 (w5.alloc (.cells #[.slice A4 (mLoad (mStore (mStore m a0 v0) a1 v1) a1).W.length c4, .slice B4 (mLoad (mStore (mStore m a0 v0) a1 v1) a1).G.length d4, .bool (mLoad (mStore (mStore m a0 v0) a1 v1) a1).bad] 24)) := boxed w5 (.cells #[.slice A4 (mLoad (mStore (mStore m a0 v0) a1 v1) a1).W.length c4, .slice B4 (mLoad (mStore (mStore m a0 v0) a1 v1) a1).G.length d4, .bool (mLoad (mStore (mStore m a0 v0) a1 v1) a1).bad] 24)
        replace xa0 : (w5.alloc (.cells #[.slice A4 (mLoad (mStore (mStore m a0 v0) a1 v1) a1).W.length c4, .slice B4 (mLoad (mStore (mStore m a0 v0) a1 v1) a1).G.length d4, .bool (mLoad (mStore (mStore m a0 v0) a1 v1) a1).bad] 24)).cell? ⟨w.heap.size + 1, 0, none⟩ = some (.int .i64 a0) := (hkk.cell xl1).trans xa0
        replace xa1 : (w5.alloc (.cells #[.slice A4 (mLoad (mStore (mStore m a0 v0) a1 v1) a1).W.length c4, .slice B4 (mLoad (mStore (mStore m a0 v0) a1 v1) a1).G.length d4, .bool (mLoad (mStore (mStore m a0 v0) a1 v1) a1).bad] 24)).cell? ⟨w.heap.size + 1, 1, none⟩ = some (.int .i64 a1) := (hkk.cell xl1).trans xa1
        replace xv0 : (w5.alloc (.cells #[.slice A4 (mLoad (mStore (mStore m a0 v0) a1 v1) a1).W.length c4, .slice B4 (mLoad (mStore (mStore m a0 v0) a1 v1) a1).G.length d4, .bool (mLoad (mStore (mStore m a0 v0) a1 v1) a1).bad] 24)).cell? ⟨w.heap.size + 1 + 1, 0, none⟩ = some (.int .i64 v0) := (hkk.cell xl2).trans xv0
        replace xv1 : (w5.alloc (.cells #[.slice A4 (mLoad (mStore (mStore m a0 v0) a1 v1) a1).W.length c4, .slice B4 (mLoad (mStore (mStore m a0 v0) a1 v1) a1).G.length d4, .bool (mLoad (mStore (mStore m a0 v0) a1 v1) a1).bad] 24)).cell? ⟨w.heap.size + 1 + 1, 1, none⟩ = some (.int .i64 v1) := (hkk.cell xl2).trans xv1
        replace xl1 : w.heap.size + 1 < (w5.alloc (.cells #[.slice A4 (mLoad (mStore (mStore m a0 v0) a1 v1) a1).W.length c4, .slice B4 (mLoad (mStore (mStore m a0 v0) a1 v1) a1).G.length d4, .bool (mLoad (mStore (mStore m a0 v0) a1 v1) a1).bad] 24)).heap.size := Nat.lt_of_lt_of_le xl1 hkk.size
        replace xl2 : w.heap.size + 1 + 1 < (w5.alloc (.cells #[.slice A4 (mLoad (mStore (mStore m a0 v0) a1 v1) a1).W.length c4, .slice B4 (mLoad (mStore (mStore m a0 v0) a1 v1) a1).G.length d4, .bool (mLoad (mStore (mStore m a0 v0) a1 v1) a1).bad] 24)).heap.size := Nat.lt_of_lt_of_le xl2 hkk.size
        clear hkk
        obtain ⟨b4, hbl4⟩ : ∃ b, w5.heap.size = b := ⟨_, rfl⟩
        rw [hbl4] at V4 ⊢
        generalize w5.alloc (.cells #[.slice A4 (mLoad (mStore (mStore m a0 v0) a1 v1) a1).W.length c4, .slice B4 (mLoad (mStore (mStore m a0 v0) a1 v1) a1).G.length d4, .bool (mLoad (mStore (mStore m a0 v0) a1 v1) a1).bad] 24) = w6 at *
        clear hbl4 R4 S4
        clear m10 m11 m12 m1l
        have m10 := V1.c0; have m11 := V1.c1; have m12 := V1.c2; have m1l := V1.lt
        clear m20 m21 m22 m2l
        have m20 := V2.c0; have m21 := V2.c1; have m22 := V2.c2; have m2l := V2.lt
        clear m30 m31 m32 m3l
        have m30 := V3.c0; have m31 := V3.c1; have m32 := V3.c2; have m3l := V3.lt
        have m40 := V4.c0; have m41 := V4.c1; have m42 := V4.c2; have m4l := V4.lt
        have hin : (mIn m.W a1 = true ∧ 0 ≤ a1 ∧ a1 < (m.W.length : Int)) ∨ (mIn m.W a1 = false ∧ a1 < 0) ∨ (mIn m.W a1 = false ∧ 0 ≤ a1 ∧ (m.W.length : Int) ≤ a1) := by
          by_cases h0 : a1 < 0
          · right; left; exact ⟨mIn_no (.inl h0), h0⟩
          · by_cases h1 : (m.W.length : Int) ≤ a1
            · right; right; exact ⟨mIn_no (.inr h1), by omega, h1⟩
            · left; exact ⟨mIn_yes (by omega) (by omega), by omega, by omega⟩
        have iX : mIn (mStore (mStore m a0 v0) a1 v1).W a1 = mIn m.W a1 := (mIn_len (mStore_len _ _ _) a1).trans (mIn_len (mStore_len _ _ _) a1)
        have IX := hid iX
        have HN := hid hin
        clear iX hin
        go_cut [80] from 51 (fun s wx => s = .bool false ∧ Below w6.heap.size w6 wx)
        case first =>
          rcases HN.out with ⟨hi, z0, z1⟩ | ⟨hi, z0⟩ | ⟨hi, z0, z1⟩
          all_goals
            cases tt : (a0 != a1)
            · try have tv : (mVal (mStore (mStore m a0 v0) a1 v1) a1 != v1) = false := by rw [mVal_store ((mIn_len (mStore_len _ _ _) a1).trans hi)]; simp
              clear hi
              go_wp2
              go_meet
              exact ⟨rfl, Below.refl _ _⟩
            · have tS : mSame (mStore (mStore m a0 v0) a1 v1) (mStore (mStore m a1 v1) a0 v0) = true := twice_same m a0 v0 a1 v1 (by simpa using tt)
              try have tv : (mVal (mStore (mStore m a0 v0) a1 v1) a1 != v1) = false := by rw [mVal_store ((mIn_len (mStore_len _ _ _) a1).trans hi)]; simp
              clear hi
              go_wp2_with (go_at_call 16; refine (rsame_any _ _ _ _ _ _ _ _ (mStore (mStore m a0 v0) a1 v1) (mStore (mStore m a1 v1) a0 v0) _ V2.r1 V2.r2 V3.r1 V3.r2 (by omega) (by omega)).mono ?_; rintro e wk ⟨rfl, hk⟩; obtain ⟨gc, gf⟩ := bcell hk)
              go_meet
              exact ⟨rfl, hk⟩
        case rest =>
          obtain ⟨rfl, hk⟩ := hcut
          generalize wc = w7 at *
          replace hb := bstep hb hk
          replace V1 := V1.step hk
          replace V2 := V2.step hk
          replace V3 := V3.step hk
          replace V4 := V4.step hk
          have hkk : Below w6.heap.size w6 w7 := hk
          replace xa0 : w7.cell? ⟨w.heap.size + 1, 0, none⟩ = some (.int .i64 a0) := (hkk.cell xl1).trans xa0
          replace xa1 : w7.cell? ⟨w.heap.size + 1, 1, none⟩ = some (.int .i64 a1) := (hkk.cell xl1).trans xa1
          replace xv0 : w7.cell? ⟨w.heap.size + 1 + 1, 0, none⟩ = some (.int .i64 v0) := (hkk.cell xl2).trans xv0
          replace xv1 : w7.cell? ⟨w.heap.size + 1 + 1, 1, none⟩ = some (.int .i64 v1) := (hkk.cell xl2).trans xv1
          replace xl1 : w.heap.size + 1 < w7.heap.size := Nat.lt_of_lt_of_le xl1 hkk.size
          replace xl2 : w.heap.size + 1 + 1 < w7.heap.size := Nat.lt_of_lt_of_le xl2 hkk.size
          clear hkk
          clear hk
          clear m10 m11 m12 m1l
          clear m20 m21 m22 m2l
          clear m30 m31 m32 m3l
          clear m40 m41 m42 m4l
          clear V3 V4
          have m10 := V1.c0; have m11 := V1.c1; have m12 := V1.c2; have m1l := V1.lt
          have m20 := V2.c0; have m21 := V2.c1; have m22 := V2.c2; have m2l := V2.lt
          have cl : (mCas (mStore (mStore m a0 v0) a1 v1) a1 v1 v0).W.length ≤ 1000000 ∧ (mCas (mStore (mStore m a0 v0) a1 v1) a1 v1 v0).G.length ≤ 1000000 ∧ 2 ≤ (mCas (mStore (mStore m a0 v0) a1 v1) a1 v1 v0).G.length := ⟨by rw [cas_len]; exact x4, x5, x6⟩
          have dl : (mCas (mCas (mStore (mStore m a0 v0) a1 v1) a1 v1 v0) a1 v0 v1).W.length ≤ 1000000000 := by rw [cas_len, cas_len]; omega
          rcases HN.out with ⟨hi, z0, z1⟩ | ⟨hi, z0⟩ | ⟨hi, z0, z1⟩
          · have vX : mVal (mStore (mStore m a0 v0) a1 v1) a1 = v1 := mVal_store ((mIn_len (mStore_len _ _ _) a1).trans hi)
            obtain ⟨bv, bw⟩ := cas_back (v := v0) (IX.out.trans hi) vX
            have tis : mIs (mStore (mStore m a0 v0) a1 v1) a1 v1 = true := (cas_is (.inl vX)).trans (IX.out.trans hi)
            have tbk : mIs (mCas (mStore (mStore m a0 v0) a1 v1) a1 v1 v0) a1 v0 = true := (cas_is (.inl bv)).trans ((mIn_len (cas_len _ _ _ _) a1).trans (IX.out.trans hi))
            have tI : mInts (mCas (mCas (mStore (mStore m a0 v0) a1 v1) a1 v1 v0) a1 v0 v1).W (mStore (mStore m a0 v0) a1 v1).W = true := by rw [bw]; exact mInts_refl _
            clear vX bv bw hi
            go_wp2_with fail
            refine (cas_any _ _ _ _ (mStore (mStore m a0 v0) a1 v1) a1 v1 v0 _ (V2.r1.step (by repeat (first | exact Below.refl _ _ | apply up | apply dr | apply drN))) (V2.r2.step (by repeat (first | exact Below.refl _ _ | apply up | apply dr | apply drN))) x4 x5 x6 p1.1 p1.2).mono ?_
            rintro e w8 ⟨A5, B5, c5, d5, rfl, R5, S5, hk⟩
            replace hb := bstep hb (bstep (by repeat (first | exact Below.refl _ _ | apply up | apply dr | apply drN)) hk)
            replace V1 := V1.step (bstep (by repeat (first | exact Below.refl _ _ | apply up | apply dr | apply drN)) hk)
            replace V2 := V2.step (bstep (by repeat (first | exact Below.refl _ _ | apply up | apply dr | apply drN)) hk)
            have hkk : Below w7.heap.size w7 w8 := bstep (by repeat (first | exact Below.refl _ _ | apply up | apply dr | apply drN)) hk
            replace xa0 : w8.cell? ⟨w.heap.size + 1, 0, none⟩ = some (.int .i64 a0) := (hkk.cell xl1).trans xa0
            replace xa1 : w8.cell? ⟨w.heap.size + 1, 1, none⟩ = some (.int .i64 a1) := (hkk.cell xl1).trans xa1
            replace xv0 : w8.cell? ⟨w.heap.size + 1 + 1, 0, none⟩ = some (.int .i64 v0) := (hkk.cell xl2).trans xv0
            replace xv1 : w8.cell? ⟨w.heap.size + 1 + 1, 1, none⟩ = some (.int .i64 v1) := (hkk.cell xl2).trans xv1
            replace xl1 : w.heap.size + 1 < w8.heap.size := Nat.lt_of_lt_of_le xl1 hkk.size
            replace xl2 : w.heap.size + 1 + 1 < w8.heap.size := Nat.lt_of_lt_of_le xl2 hkk.size
            clear hkk
            clear hk
            clear m10 m11 m12 m1l
            have m10 := V1.c0; have m11 := V1.c1; have m12 := V1.c2; have m1l := V1.lt
            clear m20 m21 m22 m2l
            have m20 := V2.c0; have m21 := V2.c1; have m22 := V2.c2; have m2l := V2.lt
            go_wp2_with fail
            refine (cas_any _ _ _ _ (mCas (mStore (mStore m a0 v0) a1 v1) a1 v1 v0) a1 v0 v1 _ (R5.step (by repeat (first | exact Below.refl _ _ | apply up | apply dr | apply drN))) (S5.step (by repeat (first | exact Below.refl _ _ | apply up | apply dr | apply drN))) cl.1 cl.2.1 cl.2.2 p1.1 p1.2).mono ?_
            rintro e w9 ⟨A6, B6, c6, d6, rfl, R6, S6, hk⟩
            replace hb := bstep hb (bstep (by repeat (first | exact Below.refl _ _ | apply up | apply dr | apply drN)) hk)
            replace V1 := V1.step (bstep (by repeat (first | exact Below.refl _ _ | apply up | apply dr | apply drN)) hk)
            replace V2 := V2.step (bstep (by repeat (first | exact Below.refl _ _ | apply up | apply dr | apply drN)) hk)
            have V5 := (Vr.box (c := c5) (c' := d5) R5 S5).step (bstep (by repeat (first | exact Below.refl _ _ | apply up | apply dr | apply drN)) hk)
            have hkk : Below w8.heap.size w8 w9 := bstep (by repeat (first | exact Below.refl _ _ | apply up | apply dr | apply drN)) hk
            replace xa0 : w9.cell? ⟨w.heap.size + 1, 0, none⟩ = some (.int .i64 a0) := (hkk.cell xl1).trans xa0
            replace xa1 : w9.cell? ⟨w.heap.size + 1, 1, none⟩ = some (.int .i64 a1) := (hkk.cell xl1).trans xa1
            replace xv0 : w9.cell? ⟨w.heap.size + 1 + 1, 0, none⟩ = some (.int .i64 v0) := (hkk.cell xl2).trans xv0
            replace xv1 : w9.cell? ⟨w.heap.size + 1 + 1, 1, none⟩ = some (.int .i64 v1) := (hkk.cell xl2).trans xv1
            replace xl1 : w.heap.size + 1 < w9.heap.size := Nat.lt_of_lt_of_le xl1 hkk.size
            replace xl2 : w.heap.size + 1 + 1 < w9.heap.size := Nat.lt_of_lt_of_le xl2 hkk.size
            clear hkk
            clear hk
            clear m10 m11 m12 m1l
            have m10 := V1.c0; have m11 := V1.c1; have m12 := V1.c2; have m1l := V1.lt
            clear m20 m21 m22 m2l
            have m20 := V2.c0; have m21 := V2.c1; have m22 := V2.c2; have m2l := V2.lt
            have m50 := V5.c0; have m51 := V5.c1; have m52 := V5.c2; have m5l := V5.lt
            go_wp2_with fail
            refine (rints_any _ _ _ _ (mCas (mCas (mStore (mStore m a0 v0) a1 v1) a1 v1 v0) a1 v0 v1).W (mStore (mStore m a0 v0) a1 v1).W _ (R6.step (by repeat (first | exact Below.refl _ _ | apply up | apply dr | apply drN))) (V2.r1.step (by repeat (first | exact Below.refl _ _ | apply up | apply dr | apply drN))) dl).mono ?_
            rintro e w10 ⟨rfl, hk⟩
            replace hb := bstep hb (bstep (by repeat (first | exact Below.refl _ _ | apply up | apply dr | apply drN)) hk)
            replace V1 := V1.step (bstep (by repeat (first | exact Below.refl _ _ | apply up | apply dr | apply drN)) hk)
            replace V2 := V2.step (bstep (by repeat (first | exact Below.refl _ _ | apply up | apply dr | apply drN)) hk)
            replace V5 := V5.step (bstep (by repeat (first | exact Below.refl _ _ | apply up | apply dr | apply drN)) hk)
            have V6 := (Vr.box (c := c6) (c' := d6) R6 S6).step (bstep (by repeat (first | exact Below.refl _ _ | apply up | apply dr | apply drN)) hk)
            have hkk : Below w9.heap.size w9 w10 := bstep (by repeat (first | exact Below.refl _ _ | apply up | apply dr | apply drN)) hk
            replace xa0 : w10.cell? ⟨w.heap.size + 1, 0, none⟩ = some (.int .i64 a0) := (hkk.cell xl1).trans xa0
            replace xa1 : w10.cell? ⟨w.heap.size + 1, 1, none⟩ = some (.int .i64 a1) := (hkk.cell xl1).trans xa1
            replace xv0 : w10.cell? ⟨w.heap.size + 1 + 1, 0, none⟩ = some (.int .i64 v0) := (hkk.cell xl2).trans xv0
            replace xv1 : w10.cell? ⟨w.heap.size + 1 + 1, 1, none⟩ = some (.int .i64 v1) := (hkk.cell xl2).trans xv1
            replace xl1 : w.heap.size + 1 < w10.heap.size := Nat.lt_of_lt_of_le xl1 hkk.size
            replace xl2 : w.heap.size + 1 + 1 < w10.heap.size := Nat.lt_of_lt_of_le xl2 hkk.size
            clear hkk
            clear hk
            go_wp2
            go_ret
            exact ⟨rfl, bstep hb (by repeat (first | exact Below.refl _ _ | apply up | apply dr | apply drN))⟩
          · have tis : mIs (mStore (mStore m a0 v0) a1 v1) a1 v1 = false := mIs_no (IX.out.trans hi)
            have tbk : mIs (mCas (mStore (mStore m a0 v0) a1 v1) a1 v1 v0) a1 v0 = false := mIs_no ((mIn_len (cas_len _ _ _ _) a1).trans (IX.out.trans hi))
            clear hi
            go_wp2_with fail
            refine (cas_any _ _ _ _ (mStore (mStore m a0 v0) a1 v1) a1 v1 v0 _ (V2.r1.step (by repeat (first | exact Below.refl _ _ | apply up | apply dr | apply drN))) (V2.r2.step (by repeat (first | exact Below.refl _ _ | apply up | apply dr | apply drN))) x4 x5 x6 p1.1 p1.2).mono ?_
            rintro e w8 ⟨A5, B5, c5, d5, rfl, R5, S5, hk⟩
            replace hb := bstep hb (bstep (by repeat (first | exact Below.refl _ _ | apply up | apply dr | apply drN)) hk)
            replace V1 := V1.step (bstep (by repeat (first | exact Below.refl _ _ | apply up | apply dr | apply drN)) hk)
            replace V2 := V2.step (bstep (by repeat (first | exact Below.refl _ _ | apply up | apply dr | apply drN)) hk)
            have hkk : Below w7.heap.size w7 w8 := bstep (by repeat (first | exact Below.refl _ _ | apply up | apply dr | apply drN)) hk
            replace xa0 : w8.cell? ⟨w.heap.size + 1, 0, none⟩ = some (.int .i64 a0) := (hkk.cell xl1).trans xa0
            replace xa1 : w8.cell? ⟨w.heap.size + 1, 1, none⟩ = some (.int .i64 a1) := (hkk.cell xl1).trans xa1
            replace xv0 : w8.cell? ⟨w.heap.size + 1 + 1, 0, none⟩ = some (.int .i64 v0) := (hkk.cell xl2).trans xv0
            replace xv1 : w8.cell? ⟨w.heap.size + 1 + 1, 1, none⟩ = some (.int .i64 v1) := (hkk.cell xl2).trans xv1
            replace xl1 : w.heap.size + 1 < w8.heap.size := Nat.lt_of_lt_of_le xl1 hkk.size
            replace xl2 : w.heap.size + 1 + 1 < w8.heap.size := Nat.lt_of_lt_of_le xl2 hkk.size
            clear hkk
            clear hk
            clear m10 m11 m12 m1l
            have m10 := V1.c0; have m11 := V1.c1; have m12 := V1.c2; have m1l := V1.lt
            clear m20 m21 m22 m2l
            have m20 := V2.c0; have m21 := V2.c1; have m22 := V2.c2; have m2l := V2.lt
            go_wp2_with fail
            refine (cas_any _ _ _ _ (mCas (mStore (mStore m a0 v0) a1 v1) a1 v1 v0) a1 v0 v1 _ (R5.step (by repeat (first | exact Below.refl _ _ | apply up | apply dr | apply drN))) (S5.step (by repeat (first | exact Below.refl _ _ | apply up | apply dr | apply drN))) cl.1 cl.2.1 cl.2.2 p1.1 p1.2).mono ?_
            rintro e w9 ⟨A6, B6, c6, d6, rfl, R6, S6, hk⟩
            replace hb := bstep hb (bstep (by repeat (first | exact Below.refl _ _ | apply up | apply dr | apply drN)) hk)
            replace V1 := V1.step (bstep (by repeat (first | exact Below.refl _ _ | apply up | apply dr | apply drN)) hk)
            replace V2 := V2.step (bstep (by repeat (first | exact Below.refl _ _ | apply up | apply dr | apply drN)) hk)
            have V5 := (Vr.box (c := c5) (c' := d5) R5 S5).step (bstep (by repeat (first | exact Below.refl _ _ | apply up | apply dr | apply drN)) hk)
            have hkk : Below w8.heap.size w8 w9 := bstep (by repeat (first | exact Below.refl _ _ | apply up | apply dr | apply drN)) hk
            replace xa0 : w9.cell? ⟨w.heap.size + 1, 0, none⟩ = some (.int .i64 a0) := (hkk.cell xl1).trans xa0
            replace xa1 : w9.cell? ⟨w.heap.size + 1, 1, none⟩ = some (.int .i64 a1) := (hkk.cell xl1).trans xa1
            replace xv0 : w9.cell? ⟨w.heap.size + 1 + 1, 0, none⟩ = some (.int .i64 v0) := (hkk.cell xl2).trans xv0
            replace xv1 : w9.cell? ⟨w.heap.size + 1 + 1, 1, none⟩ = some (.int .i64 v1) := (hkk.cell xl2).trans xv1
            replace xl1 : w.heap.size + 1 < w9.heap.size := Nat.lt_of_lt_of_le xl1 hkk.size
            replace xl2 : w.heap.size + 1 + 1 < w9.heap.size := Nat.lt_of_lt_of_le xl2 hkk.size
            clear hkk
            clear hk
            clear m10 m11 m12 m1l
            have m10 := V1.c0; have m11 := V1.c1; have m12 := V1.c2; have m1l := V1.lt
            clear m20 m21 m22 m2l
            have m20 := V2.c0; have m21 := V2.c1; have m22 := V2.c2; have m2l := V2.lt
            have m50 := V5.c0; have m51 := V5.c1; have m52 := V5.c2; have m5l := V5.lt
            go_wp2
            go_ret
            exact ⟨rfl, bstep hb (by repeat (first | exact Below.refl _ _ | apply up | apply dr | apply drN))⟩
          · have tis : mIs (mStore (mStore m a0 v0) a1 v1) a1 v1 = false := mIs_no (IX.out.trans hi)
            have tbk : mIs (mCas (mStore (mStore m a0 v0) a1 v1) a1 v1 v0) a1 v0 = false := mIs_no ((mIn_len (cas_len _ _ _ _) a1).trans (IX.out.trans hi))
            clear hi
            go_wp2_with fail
            refine (cas_any _ _ _ _ (mStore (mStore m a0 v0) a1 v1) a1 v1 v0 _ (V2.r1.step (by repeat (first | exact Below.refl _ _ | apply up | apply dr | apply drN))) (V2.r2.step (by repeat (first | exact Below.refl _ _ | apply up | apply dr | apply drN))) x4 x5 x6 p1.1 p1.2).mono ?_
            rintro e w8 ⟨A5, B5, c5, d5, rfl, R5, S5, hk⟩
            replace hb := bstep hb (bstep (by repeat (first | exact Below.refl _ _ | apply up | apply dr | apply drN)) hk)
            replace V1 := V1.step (bstep (by repeat (first | exact Below.refl _ _ | apply up | apply dr | apply drN)) hk)
            replace V2 := V2.step (bstep (by repeat (first | exact Below.refl _ _ | apply up | apply dr | apply drN)) hk)
            have hkk : Below w7.heap.size w7 w8 := bstep (by repeat (first | exact Below.refl _ _ | apply up | apply dr | apply drN)) hk
            replace xa0 : w8.cell? ⟨w.heap.size + 1, 0, none⟩ = some (.int .i64 a0) := (hkk.cell xl1).trans xa0
            replace xa1 : w8.cell? ⟨w.heap.size + 1, 1, none⟩ = some (.int .i64 a1) := (hkk.cell xl1).trans xa1
            replace xv0 : w8.cell? ⟨w.heap.size + 1 + 1, 0, none⟩ = some (.int .i64 v0) := (hkk.cell xl2).trans xv0
            replace xv1 : w8.cell? ⟨w.heap.size + 1 + 1, 1, none⟩ = some (.int .i64 v1) := (hkk.cell xl2).trans xv1
            replace xl1 : w.heap.size + 1 < w8.heap.size := Nat.lt_of_lt_of_le xl1 hkk.size
            replace xl2 : w.heap.size + 1 + 1 < w8.heap.size := Nat.lt_of_lt_of_le xl2 hkk.size
            clear hkk
            clear hk
            clear m10 m11 m12 m1l
            have m10 := V1.c0; have m11 := V1.c1; have m12 := V1.c2; have m1l := V1.lt
            clear m20 m21 m22 m2l
            have m20 := V2.c0; have m21 := V2.c1; have m22 := V2.c2; have m2l := V2.lt
            go_wp2_with fail
            refine (cas_any _ _ _ _ (mCas (mStore (mStore m a0 v0) a1 v1) a1 v1 v0) a1 v0 v1 _ (R5.step (by repeat (first | exact Below.refl _ _ | apply up | apply dr | apply drN))) (S5.step (by repeat (first | exact Below.refl _ _ | apply up | apply dr | apply drN))) cl.1 cl.2.1 cl.2.2 p1.1 p1.2).mono ?_
            rintro e w9 ⟨A6, B6, c6, d6, rfl, R6, S6, hk⟩
            replace hb := bstep hb (bstep (by repeat (first | exact Below.refl _ _ | apply up | apply dr | apply drN)) hk)
            replace V1 := V1.step (bstep (by repeat (first | exact Below.refl _ _ | apply up | apply dr | apply drN)) hk)
            replace V2 := V2.step (bstep (by repeat (first | exact Below.refl _ _ | apply up | apply dr | apply drN)) hk)
            have V5 := (Vr.box (c := c5) (c' := d5) R5 S5).step (bstep (by repeat (first | exact Below.refl _ _ | apply up | apply dr | apply drN)) hk)
            have hkk : Below w8.heap.size w8 w9 := bstep (by repeat (first | exact Below.refl _ _ | apply up | apply dr | apply drN)) hk
            replace xa0 : w9.cell? ⟨w.heap.size + 1, 0, none⟩ = some (.int .i64 a0) := (hkk.cell xl1).trans xa0
            replace xa1 : w9.cell? ⟨w.heap.size + 1, 1, none⟩ = some (.int .i64 a1) := (hkk.cell xl1).trans xa1
            replace xv0 : w9.cell? ⟨w.heap.size + 1 + 1, 0, none⟩ = some (.int .i64 v0) := (hkk.cell xl2).trans xv0
            replace xv1 : w9.cell? ⟨w.heap.size + 1 + 1, 1, none⟩ = some (.int .i64 v1) := (hkk.cell xl2).trans xv1
            replace xl1 : w.heap.size + 1 < w9.heap.size := Nat.lt_of_lt_of_le xl1 hkk.size
            replace xl2 : w.heap.size + 1 + 1 < w9.heap.size := Nat.lt_of_lt_of_le xl2 hkk.size
            clear hkk
            clear hk
            clear m10 m11 m12 m1l
            have m10 := V1.c0; have m11 := V1.c1; have m12 := V1.c2; have m1l := V1.lt
            clear m20 m21 m22 m2l
            have m20 := V2.c0; have m21 := V2.c1; have m22 := V2.c2; have m2l := V2.lt
            have m50 := V5.c0; have m51 := V5.c1; have m52 := V5.c2; have m5l := V5.lt
            go_wp2
            go_ret
            exact ⟨rfl, bstep hb (by repeat (first | exact Below.refl _ _ | apply up | apply dr | apply drN))⟩

set_option maxRecDepth 100000 in
theorem lifted (os : Os) (started : os.Started) (H : Type) (enc : TypeId × Value → H) :
    ReturnsInHanded {} Try.checked os 7 .any (Rows.memTwiceSpec.pre6 enc Try.prog Try.f7 Rows.memTwiceRow.domain false) (Rows.memTwiceSpec.post enc Try.prog Try.f7 false true false false) := by
  refine returnsInHanded_of_change (C := Try.checked) own started (by kernel_rfl) Try.func7
    (ChangeSpec.witness6 (enc := enc) (C := Try.checked) false ⟨#[], #[.agg #[.slice none 0 0, .slice none 0 0, .bool false], .agg #[.int .i64 0, .int .i64 0], .agg #[.int .i64 0, .int .i64 0]], []⟩ 8 (by kernel_rfl) (by kernel_rfl) (by kernel_rfl) (by kernel_rfl)) ?_
  intro W base args ds gs before hval0 hW hcnd _
  have hval : ∀ (j : Nat) t v, Try.f7.params[j]? = some t → args[j]? = some v → Value.okWide Try.prog W .any base t v := hval0
  have hW' := hW
  obtain ⟨p, q, hA0, hV, rfl, hfz, hnd⟩ := hW
  have hA : DataW.TrodAll enc Try.prog W 0 (fun _ => true) true Try.f7.params.toList args.toList ds p := hA0
  rw [Try.params7] at hA hval
  obtain ⟨v0, vs0, d0, ds0, p0, q0, hargs, rfl, rfl, h0, r0⟩ := trodAll_cons hA
  obtain ⟨v1, vs1, d1, ds1, p1, q1, rfl, rfl, rfl, h1, r1⟩ := trodAll_cons r0
  obtain ⟨v2, vs2, d2, ds2, p2, q2, rfl, rfl, rfl, h2, r2⟩ := trodAll_cons r1
  obtain ⟨rfl, rfl, rfl⟩ := trodAll_nil r2
  obtain rfl : args = #[v0, v1, v2] := by cases args; simp_all
  obtain ⟨rfl, rfl⟩ := trodVars_none hV
  clear hA0 hval0
  obtain ⟨A1, B1, c1, d1, m, rfl, R1, S1, l1, l2⟩ := open_arena (hval 0 24 v0 rfl rfl) h0
  obtain ⟨a0, a1, rfl, u10, u11⟩ := open_arr2 Try.underlying51 Try.underlying3 (by kernel_rfl) (by kernel_rfl) (hval 1 51 v1 rfl rfl) h1
  obtain ⟨z0, z1, rfl, u20, u21⟩ := open_arr2 Try.underlying51 Try.underlying3 (by kernel_rfl) (by kernel_rfl) (hval 2 51 v2 rfl rfl) h2
  refine (walk A1 B1 c1 d1 m a0 a1 z0 z1 W R1 S1 l1 l2 (bounds_i64 u10) (bounds_i64 u11)).mono fun e W' ⟨he, hb⟩ => ?_
  subst he
  exact ⟨_, rfl, law_post (tb := 4) (by kernel_rfl) (by kernel_rfl) (by kernel_rfl) Try.underlying4 rfl hW' rfl hb⟩

theorem over : Rows.memTwiceRow.holds Try.pinned (OpenSpec.ofChange Rows.memTwiceSpec) :=
  OpenClaim.holds_of_wide 7 Try.f7 rfl rfl rfl rfl rfl rfl rfl ⟨rfl, rfl, rfl, rfl, rfl⟩ rfl rfl rfl rfl rfl (by kernel_rfl) Try.func7 (by kernel_rfl)
    (of_decide_eq_true (by kernel_rfl)) (by unfold Func.isWrapper; first | (rw [if_pos (by decide +kernel)]; kernel_rfl) | (rw [if_neg (by decide +kernel)]; exact ⟨rfl, rfl⟩))
    (fun os started H enc _ => lifted os started H enc)
end MemTwice

theorem memTwice_holds : Rows.MemTwiceSaid := MemTwice.over
#print axioms memTwice_holds
end Go.Proofs.Ytbpkndjnohdnjaa
