/- For every arena and every three ints, the law MemBack (what is stored is loaded; no other word is changed, nor any node; what is Bad stays so; a swap that fails changes no word, one that doesn't is a store) returns true, and the argument reads afterwards as before. No conditions. -/
import Derived.Test.YtbpkndjnohdnjaaRows
import Derived.Test.YtbpkndjnohdnjaaShown2
import Derived.Test.YtbpkndjnohdnjaaLaw
import Derived.Test.YtbpkndjnohdnjaaOpen2
import Derived.Test.YtbpkndjnohdnjaaSmall
namespace Go.Proofs.Ytbpkndjnohdnjaa
namespace MemBack
open Go.ChangeShapes Go.WideShapes Go.ChangeAt Go.RowKit
set_option linter.unusedVariables false
set_option linter.unusedSimpArgs false

theorem own : ownKnob Try.prog.godebug = none := by kernel_rfl

set_option maxRecDepth 100000 in
set_option maxHeartbeats 3000000 in
theorem walk (A1 B1 : Option Addr) (c1 d1 : Nat) (m : Ar) (p v old : Int) (w : World) (R1 : Row w A1 m.W) (S1 : Row w B1 m.G) (l1 : m.W.length ≤ maxLen) (l2 : m.G.length ≤ maxLen) (p0 : -9223372036854775808 ≤ p) (p1 : p ≤ 9223372036854775807) :
    Calls Try.prog 5 #[.agg #[.slice A1 m.W.length c1, .slice B1 m.G.length d1, .bool m.bad, .int .i64 p, .int .i64 v, .int .i64 old]] w fun e w' => e = .returned (.bool true) ∧ Below w.heap.size w w' := by
  cases q : mMays m
  · go_enter Try.func5, Try.ntmps5
    go_wp2_with fail
    refine (shown_any _).mono ?_
    rintro e w1 ⟨rfl, hk⟩
    have hb : Below w.heap.size w w1 := bstep (bstep (boxed _ _) (boxed _ _)) hk
    have V1 : Vr w1 (w.heap.size + 1) m A1 B1 c1 d1 := Vr.at_ (by simp) ((Vr.box (w := w.alloc _) (c := c1) (c' := d1) (R1.alloc _) (S1.alloc _)).step hk)
    clear hk
    have m10 := V1.c0; have m11 := V1.c1; have m12 := V1.c2; have m1l := V1.lt
    go_wp2_with fail
    refine (may_any _ _ _ _ m _ (V1.r2.step (by repeat (first | exact Below.refl _ _ | apply up | apply dr | apply drN))) l2 l1).mono ?_
    rintro e w2 ⟨rfl, hk⟩
    replace hb := bstep hb (bstep (by repeat (first | exact Below.refl _ _ | apply up | apply dr | apply drN)) hk)
    replace V1 := V1.step (bstep (by repeat (first | exact Below.refl _ _ | apply up | apply dr | apply drN)) hk)
    clear hk
    clear m10 m11 m12 m1l
    have m10 := V1.c0; have m11 := V1.c1; have m12 := V1.c2; have m1l := V1.lt
    go_wp2
    go_ret
    exact ⟨rfl, hb⟩
  · have hR : mSmall m = true ∧ mRight m = true := by simpa [mMays] using q
    obtain ⟨g1, g2, g3, g4, g5⟩ := mRight_out hR.2
    have g6 : m.G.length ≤ 61 ∧ m.W.length ≤ 368 := by simpa [mSmall] using hR.1
    obtain ⟨g6, g7⟩ := g6
    have G3 := hid g3
    have G4 := hid g4
    have G5 := hid g5
    clear g3 g4 g5 hR
    have k3 : m.W.length ≤ 1000000 := by omega
    have k4 : m.G.length ≤ 1000000 := by omega
    have k8 : m.W.length ≤ 1000000000 := by omega
    have k9 : m.G.length ≤ 1000000000 := by omega
    have w0 : 0 < m.W.length := by have := G3.out; omega
    have XL := hid (mStore_len m p v)
    have k6 : (mStore m p v).W.length ≤ 1000000 := by rw [XL.out]; exact k3
    have k7 : (mStore m p v).G.length ≤ 1000000 := k4
    have gx : 2 ≤ (mStore m p v).G.length := g1
    have kx : (mStore m p v).G.length ≤ 1000000000 := k9
    have tl : (((mStore m p v).W.length : Int) != (m.W.length : Int)) = false := by rw [XL.out]; simp
    have tG : mInts (mStore m p v).G m.G = true := mInts_refl _
    go_enter Try.func5, Try.ntmps5
    go_wp2_with fail
    refine (shown_any _).mono ?_
    rintro e w1 ⟨rfl, hk⟩
    have hb : Below w.heap.size w w1 := bstep (bstep (boxed _ _) (boxed _ _)) hk
    have V1 : Vr w1 (w.heap.size + 1) m A1 B1 c1 d1 := Vr.at_ (by simp) ((Vr.box (w := w.alloc _) (c := c1) (c' := d1) (R1.alloc _) (S1.alloc _)).step hk)
    clear hk
    have m10 := V1.c0; have m11 := V1.c1; have m12 := V1.c2; have m1l := V1.lt
    go_wp2_with fail
    refine (may_any _ _ _ _ m _ (V1.r2.step (by repeat (first | exact Below.refl _ _ | apply up | apply dr | apply drN))) l2 l1).mono ?_
    rintro e w2 ⟨rfl, hk⟩
    replace hb := bstep hb (bstep (by repeat (first | exact Below.refl _ _ | apply up | apply dr | apply drN)) hk)
    replace V1 := V1.step (bstep (by repeat (first | exact Below.refl _ _ | apply up | apply dr | apply drN)) hk)
    clear hk
    clear m10 m11 m12 m1l
    have m10 := V1.c0; have m11 := V1.c1; have m12 := V1.c2; have m1l := V1.lt
    go_wp2_with fail
    refine (store_any _ _ _ _ m p v _ (V1.r1.step (by repeat (first | exact Below.refl _ _ | apply up | apply dr | apply drN))) (V1.r2.step (by repeat (first | exact Below.refl _ _ | apply up | apply dr | apply drN))) k3 k4 g1 p0 p1).mono ?_
    rintro e w3 ⟨A2, B2, c2, d2, rfl, R2, S2, hk⟩
    replace hb := bstep hb (bstep (by repeat (first | exact Below.refl _ _ | apply up | apply dr | apply drN)) hk)
    replace V1 := V1.step (bstep (by repeat (first | exact Below.refl _ _ | apply up | apply dr | apply drN)) hk)
    clear hk
    clear m10 m11 m12 m1l
    have m10 := V1.c0; have m11 := V1.c1; have m12 := V1.c2; have m1l := V1.lt
    go_upto_region 9 with (fail)
    replace hb := bstep hb (boxed w3 (.cells #[.slice A2 (mStore m p v).W.length c2, .slice B2 (mStore m p v).G.length d2, .bool (mStore m p v).bad] 24))
    replace V1 := V1.step (boxed w3 (.cells #[.slice A2 (mStore m p v).W.length c2, .slice B2 (mStore m p v).G.length d2, .bool (mStore m p v).bad] 24))
    have V2 := Vr.box (w := w3) (m := (mStore m p v)) (c := c2) (c' := d2) R2 S2
    obtain ⟨b2, hbl2⟩ : ∃ b, w3.heap.size = b := ⟨_, rfl⟩
    rw [hbl2] at V2 ⊢
    generalize w3.alloc (.cells #[.slice A2 (mStore m p v).W.length c2, .slice B2 (mStore m p v).G.length d2, .bool (mStore m p v).bad] 24) = w4 at *
    clear hbl2 R2 S2
    clear m10 m11 m12 m1l
    have m10 := V1.c0; have m11 := V1.c1; have m12 := V1.c2; have m1l := V1.lt
    have m20 := V2.c0; have m21 := V2.c1; have m22 := V2.c2; have m2l := V2.lt
    go_cut [57] from 34 (fun s wx => s = .bool false ∧ Below w4.heap.size w4 wx)
    case first =>
      obtain ⟨bm, hbm⟩ : ∃ z, m.bad = z := ⟨_, rfl⟩
      obtain ⟨bx, hbx⟩ : ∃ z, (mStore m p v).bad = z := ⟨_, rfl⟩
      have n12 : w4.cell? ⟨w.heap.size + 1, 2, none⟩ = some (.bool bm) := by rw [← hbm]; exact m12
      have n22 : w4.cell? ⟨b2, 2, none⟩ = some (.bool bx) := by rw [← hbx]; exact m22
      have hbb : bm = true → bx = true := fun h => by rw [← hbx]; exact mStore_bad (hbm.trans h)
      clear m12 m22 hbm hbx
      cases bm
      · clear hbb
        go_wp2_with (go_at_call 34; refine (rints_any _ _ _ _ (mStore m p v).G m.G _ V2.r2 V1.r2 kx).mono ?_; rintro e wk ⟨rfl, hk⟩)
        go_meet
        exact ⟨rfl, hk⟩
      · obtain rfl := hbb rfl
        clear hbb
        go_wp2_with (go_at_call 34; refine (rints_any _ _ _ _ (mStore m p v).G m.G _ V2.r2 V1.r2 kx).mono ?_; rintro e wk ⟨rfl, hk⟩)
        go_meet
        exact ⟨rfl, hk⟩
    case rest =>
      obtain ⟨rfl, hk⟩ := hcut
      generalize wc = w5 at *
      replace hb := bstep hb hk
      replace V1 := V1.step hk
      replace V2 := V2.step hk
      clear hk m10 m11 m12 m1l m20 m21 m22 m2l
      obtain ⟨h1, o1, x1, rfl, hh1, _, _⟩ := V1.r1.atX 0 w0
      obtain ⟨h2, o2, x2, rfl, hh2, _, _⟩ := V2.r1.atX 0 (by rw [XL.out]; exact w0)
      have m10 := V1.c0; have m11 := V1.c1; have m12 := V1.c2; have m1l := V1.lt
      have m20 := V2.c0; have m21 := V2.c1; have m22 := V2.c2; have m2l := V2.lt
      have hin : (mIn m.W p = true ∧ 0 ≤ p ∧ p < (m.W.length : Int)) ∨ (mIn m.W p = false ∧ p < 0) ∨ (mIn m.W p = false ∧ 0 ≤ p ∧ (m.W.length : Int) ≤ p) := by
        by_cases h0 : p < 0
        · right; left; exact ⟨mIn_no (.inl h0), h0⟩
        · by_cases h1 : (m.W.length : Int) ≤ p
          · right; right; exact ⟨mIn_no (.inr h1), by omega, h1⟩
          · left; exact ⟨mIn_yes (by omega) (by omega), by omega, by omega⟩
      rcases hin with ⟨hi, z0, z1⟩ | ⟨hi, z0⟩ | ⟨hi, z0, z1⟩
      · have HI := hid hi
        clear hi
        go_wp2_with fail
        go_loopw [10] (fun i wr => ∃ (k nq : Nat), k ≤ m.W.length ∧ i = .int .i64 k ∧ wr = w5.drewN nq) (fun i _ => m.W.length - (intOf i).toNat)
        case atStart => exact ⟨0, 0, Nat.zero_le _, rfl, rfl⟩
        case round =>
          obtain ⟨k, nq, hk, rfl, rfl⟩ := hrel
          by_cases hlt : k < m.W.length
          · have hlx : k < (mStore m p v).W.length := by rw [XL.out]; exact hlt
            have hlI : (k : Int) < (m.W.length : Int) := by omega
            have hlJ : (k : Int) < ((mStore m p v).W.length : Int) := by omega
            obtain ⟨y1, Y1, cy1⟩ := V1.r1.atY k hlt
            obtain ⟨y2, Y2, cy2⟩ := V2.r1.atY k hlx
            cases t : ((k : Int) == p)
            · have t' : ((k : Int) != p) = true := by have := t; simp at this ⊢; exact this
              have e1 : (y2 != y1) = false := by rw [← Y2.out, ← Y1.out, mStore_far (by simpa using t)]; simp
              clear Y1 Y2
              go_wp2_with fail
              go_quiet (fail)
              go_wp2
              go_roundw
              case rel => exact ⟨k + 1, _, by omega, by go_num, rfl⟩
              case measure => simp [intOf]; omega
            · have t' : ((k : Int) != p) = false := by have := t; simp at this ⊢; exact this
              have e1 : (y2 != v) = false := by rw [← Y2.out, mStore_at hlt (by simpa using t)]; simp
              clear Y1 Y2
              go_wp2_with fail
              go_quiet (fail)
              go_wp2
              go_roundw
              case rel => exact ⟨k + 1, _, by omega, by go_num, rfl⟩
              case measure => simp [intOf]; omega
          · go_wp2_with fail
            refine (load_any _ _ _ _ (mStore m p v) p _ (V2.r1.step (by repeat (first | exact Below.refl _ _ | apply up | apply dr | apply drN))) (V2.r2.step (by repeat (first | exact Below.refl _ _ | apply up | apply dr | apply drN))) k6 k7 gx p0 p1).mono ?_
            rintro e w6 ⟨A3, B3, c3, d3, rfl, R3, S3, hk⟩
            replace hb := bstep hb (bstep (by repeat (first | exact Below.refl _ _ | apply up | apply dr | apply drN)) hk)
            replace V1 := V1.step (bstep (by repeat (first | exact Below.refl _ _ | apply up | apply dr | apply drN)) hk)
            replace V2 := V2.step (bstep (by repeat (first | exact Below.refl _ _ | apply up | apply dr | apply drN)) hk)
            clear hk
            clear m10 m11 m12 m1l
            have m10 := V1.c0; have m11 := V1.c1; have m12 := V1.c2; have m1l := V1.lt
            clear m20 m21 m22 m2l
            have m20 := V2.c0; have m21 := V2.c1; have m22 := V2.c2; have m2l := V2.lt
            go_wp2_with fail
            refine (cas_any _ _ _ _ m p old v _ (V1.r1.step (by repeat (first | exact Below.refl _ _ | apply up | apply dr | apply drN))) (V1.r2.step (by repeat (first | exact Below.refl _ _ | apply up | apply dr | apply drN))) k3 k4 g1 p0 p1).mono ?_
            rintro e w7 ⟨A4, B4, c4, d4, rfl, R4, S4, hk⟩
            replace hb := bstep hb (bstep (by repeat (first | exact Below.refl _ _ | apply up | apply dr | apply drN)) hk)
            replace V1 := V1.step (bstep (by repeat (first | exact Below.refl _ _ | apply up | apply dr | apply drN)) hk)
            replace V2 := V2.step (bstep (by repeat (first | exact Below.refl _ _ | apply up | apply dr | apply drN)) hk)
            have V3 := (Vr.box (c := c3) (c' := d3) R3 S3).step (bstep (by repeat (first | exact Below.refl _ _ | apply up | apply dr | apply drN)) hk)
            clear hk
            clear m10 m11 m12 m1l
            have m10 := V1.c0; have m11 := V1.c1; have m12 := V1.c2; have m1l := V1.lt
            clear m20 m21 m22 m2l
            have m20 := V2.c0; have m21 := V2.c1; have m22 := V2.c2; have m2l := V2.lt
            have m30 := V3.c0; have m31 := V3.c1; have m32 := V3.c2; have m3l := V3.lt
            go_wp2_with fail
            refine (load_any _ _ _ _ m p _ (V1.r1.step (by repeat (first | exact Below.refl _ _ | apply up | apply dr | apply drN))) (V1.r2.step (by repeat (first | exact Below.refl _ _ | apply up | apply dr | apply drN))) k3 k4 g1 p0 p1).mono ?_
            rintro e w8 ⟨A5, B5, c5, d5, rfl, R5, S5, hk⟩
            replace hb := bstep hb (bstep (by repeat (first | exact Below.refl _ _ | apply up | apply dr | apply drN)) hk)
            replace V1 := V1.step (bstep (by repeat (first | exact Below.refl _ _ | apply up | apply dr | apply drN)) hk)
            replace V2 := V2.step (bstep (by repeat (first | exact Below.refl _ _ | apply up | apply dr | apply drN)) hk)
            replace V3 := V3.step (bstep (by repeat (first | exact Below.refl _ _ | apply up | apply dr | apply drN)) hk)
            have V4 := (Vr.box (c := c4) (c' := d4) R4 S4).step (bstep (by repeat (first | exact Below.refl _ _ | apply up | apply dr | apply drN)) hk)
            clear hk
            clear m10 m11 m12 m1l
            have m10 := V1.c0; have m11 := V1.c1; have m12 := V1.c2; have m1l := V1.lt
            clear m20 m21 m22 m2l
            have m20 := V2.c0; have m21 := V2.c1; have m22 := V2.c2; have m2l := V2.lt
            clear m30 m31 m32 m3l
            have m30 := V3.c0; have m31 := V3.c1; have m32 := V3.c2; have m3l := V3.lt
            have m40 := V4.c0; have m41 := V4.c1; have m42 := V4.c2; have m4l := V4.lt
            have u1 : (mVal (mStore m p v) p != v) = false := by rw [mVal_store HI.out]; simp
            have HIS := hid (mIs_val (old := old) HI.out)
            obtain ⟨xv, hxv⟩ : ∃ x, mVal m p = x := ⟨_, rfl⟩
            have HXV := hid hxv
            cases ts : (xv == old)
            · have is : mIs m p old = false := by rw [HIS.out, hxv]; exact ts
              have tW : mInts (mCas m p old v).W m.W = true := by rw [mCas_no is]; exact mInts_refl _
              have tH : mInts (mCas m p old v).G m.G = true := by rw [mCas_no is]; exact mInts_refl _
              go_wp2_with fail
              refine (rints_any _ _ _ _ (mCas m p old v).W m.W _ (V4.r1.step (by repeat (first | exact Below.refl _ _ | apply up | apply dr | apply drN))) (V1.r1.step (by repeat (first | exact Below.refl _ _ | apply up | apply dr | apply drN))) (by have := lens_cas m p old v k3 k4; exact this.1)).mono ?_
              rintro e w9 ⟨rfl, hk⟩
              replace hb := bstep hb (bstep (by repeat (first | exact Below.refl _ _ | apply up | apply dr | apply drN)) hk)
              replace V1 := V1.step (bstep (by repeat (first | exact Below.refl _ _ | apply up | apply dr | apply drN)) hk)
              replace V2 := V2.step (bstep (by repeat (first | exact Below.refl _ _ | apply up | apply dr | apply drN)) hk)
              replace V3 := V3.step (bstep (by repeat (first | exact Below.refl _ _ | apply up | apply dr | apply drN)) hk)
              replace V4 := V4.step (bstep (by repeat (first | exact Below.refl _ _ | apply up | apply dr | apply drN)) hk)
              have V5 := (Vr.box (c := c5) (c' := d5) R5 S5).step (bstep (by repeat (first | exact Below.refl _ _ | apply up | apply dr | apply drN)) hk)
              clear hk
              clear m10 m11 m12 m1l
              have m10 := V1.c0; have m11 := V1.c1; have m12 := V1.c2; have m1l := V1.lt
              clear m20 m21 m22 m2l
              have m20 := V2.c0; have m21 := V2.c1; have m22 := V2.c2; have m2l := V2.lt
              clear m30 m31 m32 m3l
              have m30 := V3.c0; have m31 := V3.c1; have m32 := V3.c2; have m3l := V3.lt
              clear m40 m41 m42 m4l
              have m40 := V4.c0; have m41 := V4.c1; have m42 := V4.c2; have m4l := V4.lt
              have m50 := V5.c0; have m51 := V5.c1; have m52 := V5.c2; have m5l := V5.lt
              go_wp2_with fail
              refine (rints_any _ _ _ _ (mCas m p old v).G m.G _ (V4.r2.step (by repeat (first | exact Below.refl _ _ | apply up | apply dr | apply drN))) (V1.r2.step (by repeat (first | exact Below.refl _ _ | apply up | apply dr | apply drN))) (by have := lens_cas m p old v k3 k4; exact this.2)).mono ?_
              rintro e w10 ⟨rfl, hk⟩
              replace hb := bstep hb (bstep (by repeat (first | exact Below.refl _ _ | apply up | apply dr | apply drN)) hk)
              replace V1 := V1.step (bstep (by repeat (first | exact Below.refl _ _ | apply up | apply dr | apply drN)) hk)
              replace V2 := V2.step (bstep (by repeat (first | exact Below.refl _ _ | apply up | apply dr | apply drN)) hk)
              replace V3 := V3.step (bstep (by repeat (first | exact Below.refl _ _ | apply up | apply dr | apply drN)) hk)
              replace V4 := V4.step (bstep (by repeat (first | exact Below.refl _ _ | apply up | apply dr | apply drN)) hk)
              replace V5 := V5.step (bstep (by repeat (first | exact Below.refl _ _ | apply up | apply dr | apply drN)) hk)
              clear hk
              go_wp2
              go_ret
              exact ⟨rfl, bstep hb (by repeat (first | exact Below.refl _ _ | apply up | apply dr | apply drN))⟩
            · have is : mIs m p old = true := by rw [HIS.out, hxv]; exact ts
              have tS : mSame (mCas m p old v) (mStore m p v) = true := by rw [mCas_yes is]; exact mSame_refl _
              go_wp2_with fail
              refine (rsame_any _ _ _ _ _ _ _ _ (mCas m p old v) (mStore m p v) _ (V4.r1.step (by repeat (first | exact Below.refl _ _ | apply up | apply dr | apply drN))) (V4.r2.step (by repeat (first | exact Below.refl _ _ | apply up | apply dr | apply drN))) (V2.r1.step (by repeat (first | exact Below.refl _ _ | apply up | apply dr | apply drN))) (V2.r2.step (by repeat (first | exact Below.refl _ _ | apply up | apply dr | apply drN))) (by have := lens_cas m p old v k3 k4; exact this.1) (by have := lens_cas m p old v k3 k4; exact this.2)).mono ?_
              rintro e w9 ⟨rfl, hk⟩
              replace hb := bstep hb (bstep (by repeat (first | exact Below.refl _ _ | apply up | apply dr | apply drN)) hk)
              replace V1 := V1.step (bstep (by repeat (first | exact Below.refl _ _ | apply up | apply dr | apply drN)) hk)
              replace V2 := V2.step (bstep (by repeat (first | exact Below.refl _ _ | apply up | apply dr | apply drN)) hk)
              replace V3 := V3.step (bstep (by repeat (first | exact Below.refl _ _ | apply up | apply dr | apply drN)) hk)
              replace V4 := V4.step (bstep (by repeat (first | exact Below.refl _ _ | apply up | apply dr | apply drN)) hk)
              have V5 := (Vr.box (c := c5) (c' := d5) R5 S5).step (bstep (by repeat (first | exact Below.refl _ _ | apply up | apply dr | apply drN)) hk)
              clear hk
              go_wp2
              go_ret
              exact ⟨rfl, bstep hb (by repeat (first | exact Below.refl _ _ | apply up | apply dr | apply drN))⟩
      · have HI := hid hi
        clear hi
        go_wp2_with fail
        go_loopw [10] (fun i wr => ∃ (k nq : Nat), k ≤ m.W.length ∧ i = .int .i64 k ∧ wr = w5.drewN nq) (fun i _ => m.W.length - (intOf i).toNat)
        case atStart => exact ⟨0, 0, Nat.zero_le _, rfl, rfl⟩
        case round =>
          obtain ⟨k, nq, hk, rfl, rfl⟩ := hrel
          by_cases hlt : k < m.W.length
          · have hlx : k < (mStore m p v).W.length := by rw [XL.out]; exact hlt
            have hlI : (k : Int) < (m.W.length : Int) := by omega
            have hlJ : (k : Int) < ((mStore m p v).W.length : Int) := by omega
            obtain ⟨y1, Y1, cy1⟩ := V1.r1.atY k hlt
            obtain ⟨y2, Y2, cy2⟩ := V2.r1.atY k hlx
            cases t : ((k : Int) == p)
            · have t' : ((k : Int) != p) = true := by have := t; simp at this ⊢; exact this
              have e1 : (y2 != y1) = false := by rw [← Y2.out, ← Y1.out, mStore_far (by simpa using t)]; simp
              clear Y1 Y2
              go_wp2_with fail
              go_quiet (fail)
              go_wp2
              go_roundw
              case rel => exact ⟨k + 1, _, by omega, by go_num, rfl⟩
              case measure => simp [intOf]; omega
            · have t' : ((k : Int) != p) = false := by have := t; simp at this ⊢; exact this
              have e1 : (y2 != v) = false := by rw [← Y2.out, mStore_at hlt (by simpa using t)]; simp
              clear Y1 Y2
              go_wp2_with fail
              go_quiet (fail)
              go_wp2
              go_roundw
              case rel => exact ⟨k + 1, _, by omega, by go_num, rfl⟩
              case measure => simp [intOf]; omega
          · go_wp2_with fail
            refine (load_any _ _ _ _ (mStore m p v) p _ (V2.r1.step (by repeat (first | exact Below.refl _ _ | apply up | apply dr | apply drN))) (V2.r2.step (by repeat (first | exact Below.refl _ _ | apply up | apply dr | apply drN))) k6 k7 gx p0 p1).mono ?_
            rintro e w6 ⟨A3, B3, c3, d3, rfl, R3, S3, hk⟩
            replace hb := bstep hb (bstep (by repeat (first | exact Below.refl _ _ | apply up | apply dr | apply drN)) hk)
            replace V1 := V1.step (bstep (by repeat (first | exact Below.refl _ _ | apply up | apply dr | apply drN)) hk)
            replace V2 := V2.step (bstep (by repeat (first | exact Below.refl _ _ | apply up | apply dr | apply drN)) hk)
            clear hk
            clear m10 m11 m12 m1l
            have m10 := V1.c0; have m11 := V1.c1; have m12 := V1.c2; have m1l := V1.lt
            clear m20 m21 m22 m2l
            have m20 := V2.c0; have m21 := V2.c1; have m22 := V2.c2; have m2l := V2.lt
            go_wp2_with fail
            refine (cas_any _ _ _ _ m p old v _ (V1.r1.step (by repeat (first | exact Below.refl _ _ | apply up | apply dr | apply drN))) (V1.r2.step (by repeat (first | exact Below.refl _ _ | apply up | apply dr | apply drN))) k3 k4 g1 p0 p1).mono ?_
            rintro e w7 ⟨A4, B4, c4, d4, rfl, R4, S4, hk⟩
            replace hb := bstep hb (bstep (by repeat (first | exact Below.refl _ _ | apply up | apply dr | apply drN)) hk)
            replace V1 := V1.step (bstep (by repeat (first | exact Below.refl _ _ | apply up | apply dr | apply drN)) hk)
            replace V2 := V2.step (bstep (by repeat (first | exact Below.refl _ _ | apply up | apply dr | apply drN)) hk)
            have V3 := (Vr.box (c := c3) (c' := d3) R3 S3).step (bstep (by repeat (first | exact Below.refl _ _ | apply up | apply dr | apply drN)) hk)
            clear hk
            clear m10 m11 m12 m1l
            have m10 := V1.c0; have m11 := V1.c1; have m12 := V1.c2; have m1l := V1.lt
            clear m20 m21 m22 m2l
            have m20 := V2.c0; have m21 := V2.c1; have m22 := V2.c2; have m2l := V2.lt
            have m30 := V3.c0; have m31 := V3.c1; have m32 := V3.c2; have m3l := V3.lt
            go_wp2_with fail
            refine (load_any _ _ _ _ m p _ (V1.r1.step (by repeat (first | exact Below.refl _ _ | apply up | apply dr | apply drN))) (V1.r2.step (by repeat (first | exact Below.refl _ _ | apply up | apply dr | apply drN))) k3 k4 g1 p0 p1).mono ?_
            rintro e w8 ⟨A5, B5, c5, d5, rfl, R5, S5, hk⟩
            replace hb := bstep hb (bstep (by repeat (first | exact Below.refl _ _ | apply up | apply dr | apply drN)) hk)
            replace V1 := V1.step (bstep (by repeat (first | exact Below.refl _ _ | apply up | apply dr | apply drN)) hk)
            replace V2 := V2.step (bstep (by repeat (first | exact Below.refl _ _ | apply up | apply dr | apply drN)) hk)
            replace V3 := V3.step (bstep (by repeat (first | exact Below.refl _ _ | apply up | apply dr | apply drN)) hk)
            have V4 := (Vr.box (c := c4) (c' := d4) R4 S4).step (bstep (by repeat (first | exact Below.refl _ _ | apply up | apply dr | apply drN)) hk)
            clear hk
            clear m10 m11 m12 m1l
            have m10 := V1.c0; have m11 := V1.c1; have m12 := V1.c2; have m1l := V1.lt
            clear m20 m21 m22 m2l
            have m20 := V2.c0; have m21 := V2.c1; have m22 := V2.c2; have m2l := V2.lt
            clear m30 m31 m32 m3l
            have m30 := V3.c0; have m31 := V3.c1; have m32 := V3.c2; have m3l := V3.lt
            have m40 := V4.c0; have m41 := V4.c1; have m42 := V4.c2; have m4l := V4.lt
            have is : mIs m p old = false := mIs_no HI.out
            have u1 : mVal (mStore m p v) p = 0 := mVal_out (by rw [mIn_len (mStore_len m p v)]; exact HI.out)
            have u2 : (mCas m p old v).bad = true := by rw [mCas_no is]; exact mBad_no HI.out
            have U2 := hid u2
            clear u2
            go_upto_region 20 with (fail)
            replace hb := bstep hb (boxed w8 (.cells #[.slice A5 (mLoad m p).W.length c5, .slice B5 (mLoad m p).G.length d5, .bool (mLoad m p).bad] 24))
            replace V1 := V1.step (boxed w8 (.cells #[.slice A5 (mLoad m p).W.length c5, .slice B5 (mLoad m p).G.length d5, .bool (mLoad m p).bad] 24))
            replace V2 := V2.step (boxed w8 (.cells #[.slice A5 (mLoad m p).W.length c5, .slice B5 (mLoad m p).G.length d5, .bool (mLoad m p).bad] 24))
            replace V3 := V3.step (boxed w8 (.cells #[.slice A5 (mLoad m p).W.length c5, .slice B5 (mLoad m p).G.length d5, .bool (mLoad m p).bad] 24))
            replace V4 := V4.step (boxed w8 (.cells #[.slice A5 (mLoad m p).W.length c5, .slice B5 (mLoad m p).G.length d5, .bool (mLoad m p).bad] 24))
            have V5 := Vr.box (w := w8) (m := (mLoad m p)) (c := c5) (c' := d5) R5 S5
            obtain ⟨b5, hbl5⟩ : ∃ b, w8.heap.size = b := ⟨_, rfl⟩
            rw [hbl5] at V5 ⊢
            generalize w8.alloc (.cells #[.slice A5 (mLoad m p).W.length c5, .slice B5 (mLoad m p).G.length d5, .bool (mLoad m p).bad] 24) = w9 at *
            clear hbl5 R5 S5
            clear m10 m11 m12 m1l
            have m10 := V1.c0; have m11 := V1.c1; have m12 := V1.c2; have m1l := V1.lt
            clear m20 m21 m22 m2l
            have m20 := V2.c0; have m21 := V2.c1; have m22 := V2.c2; have m2l := V2.lt
            clear m30 m31 m32 m3l
            have m30 := V3.c0; have m31 := V3.c1; have m32 := V3.c2; have m3l := V3.lt
            clear m40 m41 m42 m4l
            have m40 := V4.c0; have m41 := V4.c1; have m42 := V4.c2; have m4l := V4.lt
            have m50 := V5.c0; have m51 := V5.c1; have m52 := V5.c2; have m5l := V5.lt
            replace m42 : w9.cell? ⟨w7.heap.size, 2, none⟩ = some (.bool true) := by rw [m42]; exact congrArg (fun q => some (Value.bool q)) U2.out
            have tW : mInts (mCas m p old v).W m.W = true := by rw [mCas_no is]; exact mInts_refl _
            have tH : mInts (mCas m p old v).G m.G = true := by rw [mCas_no is]; exact mInts_refl _
            go_wp2_with fail
            refine (rints_any _ _ _ _ (mCas m p old v).W m.W _ (V4.r1.step (by repeat (first | exact Below.refl _ _ | apply up | apply dr | apply drN))) (V1.r1.step (by repeat (first | exact Below.refl _ _ | apply up | apply dr | apply drN))) (by have := lens_cas m p old v k3 k4; exact this.1)).mono ?_
            rintro e w10 ⟨rfl, hk⟩
            replace hb := bstep hb (bstep (by repeat (first | exact Below.refl _ _ | apply up | apply dr | apply drN)) hk)
            replace V1 := V1.step (bstep (by repeat (first | exact Below.refl _ _ | apply up | apply dr | apply drN)) hk)
            replace V2 := V2.step (bstep (by repeat (first | exact Below.refl _ _ | apply up | apply dr | apply drN)) hk)
            replace V3 := V3.step (bstep (by repeat (first | exact Below.refl _ _ | apply up | apply dr | apply drN)) hk)
            replace V4 := V4.step (bstep (by repeat (first | exact Below.refl _ _ | apply up | apply dr | apply drN)) hk)
            replace V5 := V5.step (bstep (by repeat (first | exact Below.refl _ _ | apply up | apply dr | apply drN)) hk)
            clear hk
            clear m10 m11 m12 m1l
            have m10 := V1.c0; have m11 := V1.c1; have m12 := V1.c2; have m1l := V1.lt
            clear m20 m21 m22 m2l
            have m20 := V2.c0; have m21 := V2.c1; have m22 := V2.c2; have m2l := V2.lt
            clear m30 m31 m32 m3l
            have m30 := V3.c0; have m31 := V3.c1; have m32 := V3.c2; have m3l := V3.lt
            clear m40 m41 m42 m4l
            have m40 := V4.c0; have m41 := V4.c1; have m42 := V4.c2; have m4l := V4.lt
            clear m50 m51 m52 m5l
            have m50 := V5.c0; have m51 := V5.c1; have m52 := V5.c2; have m5l := V5.lt
            go_wp2_with fail
            refine (rints_any _ _ _ _ (mCas m p old v).G m.G _ (V4.r2.step (by repeat (first | exact Below.refl _ _ | apply up | apply dr | apply drN))) (V1.r2.step (by repeat (first | exact Below.refl _ _ | apply up | apply dr | apply drN))) (by have := lens_cas m p old v k3 k4; exact this.2)).mono ?_
            rintro e w11 ⟨rfl, hk⟩
            replace hb := bstep hb (bstep (by repeat (first | exact Below.refl _ _ | apply up | apply dr | apply drN)) hk)
            replace V1 := V1.step (bstep (by repeat (first | exact Below.refl _ _ | apply up | apply dr | apply drN)) hk)
            replace V2 := V2.step (bstep (by repeat (first | exact Below.refl _ _ | apply up | apply dr | apply drN)) hk)
            replace V3 := V3.step (bstep (by repeat (first | exact Below.refl _ _ | apply up | apply dr | apply drN)) hk)
            replace V4 := V4.step (bstep (by repeat (first | exact Below.refl _ _ | apply up | apply dr | apply drN)) hk)
            replace V5 := V5.step (bstep (by repeat (first | exact Below.refl _ _ | apply up | apply dr | apply drN)) hk)
            clear hk
            go_wp2
            go_ret
            exact ⟨rfl, bstep hb (by repeat (first | exact Below.refl _ _ | apply up | apply dr | apply drN))⟩
      · have HI := hid hi
        clear hi
        go_wp2_with fail
        go_loopw [10] (fun i wr => ∃ (k nq : Nat), k ≤ m.W.length ∧ i = .int .i64 k ∧ wr = w5.drewN nq) (fun i _ => m.W.length - (intOf i).toNat)
        case atStart => exact ⟨0, 0, Nat.zero_le _, rfl, rfl⟩
        case round =>
          obtain ⟨k, nq, hk, rfl, rfl⟩ := hrel
          by_cases hlt : k < m.W.length
          · have hlx : k < (mStore m p v).W.length := by rw [XL.out]; exact hlt
            have hlI : (k : Int) < (m.W.length : Int) := by omega
            have hlJ : (k : Int) < ((mStore m p v).W.length : Int) := by omega
            obtain ⟨y1, Y1, cy1⟩ := V1.r1.atY k hlt
            obtain ⟨y2, Y2, cy2⟩ := V2.r1.atY k hlx
            cases t : ((k : Int) == p)
            · have t' : ((k : Int) != p) = true := by have := t; simp at this ⊢; exact this
              have e1 : (y2 != y1) = false := by rw [← Y2.out, ← Y1.out, mStore_far (by simpa using t)]; simp
              clear Y1 Y2
              go_wp2_with fail
              go_quiet (fail)
              go_wp2
              go_roundw
              case rel => exact ⟨k + 1, _, by omega, by go_num, rfl⟩
              case measure => simp [intOf]; omega
            · have t' : ((k : Int) != p) = false := by have := t; simp at this ⊢; exact this
              have e1 : (y2 != v) = false := by rw [← Y2.out, mStore_at hlt (by simpa using t)]; simp
              clear Y1 Y2
              go_wp2_with fail
              go_quiet (fail)
              go_wp2
              go_roundw
              case rel => exact ⟨k + 1, _, by omega, by go_num, rfl⟩
              case measure => simp [intOf]; omega
          · go_wp2_with fail
            refine (load_any _ _ _ _ (mStore m p v) p _ (V2.r1.step (by repeat (first | exact Below.refl _ _ | apply up | apply dr | apply drN))) (V2.r2.step (by repeat (first | exact Below.refl _ _ | apply up | apply dr | apply drN))) k6 k7 gx p0 p1).mono ?_
            rintro e w6 ⟨A3, B3, c3, d3, rfl, R3, S3, hk⟩
            replace hb := bstep hb (bstep (by repeat (first | exact Below.refl _ _ | apply up | apply dr | apply drN)) hk)
            replace V1 := V1.step (bstep (by repeat (first | exact Below.refl _ _ | apply up | apply dr | apply drN)) hk)
            replace V2 := V2.step (bstep (by repeat (first | exact Below.refl _ _ | apply up | apply dr | apply drN)) hk)
            clear hk
            clear m10 m11 m12 m1l
            have m10 := V1.c0; have m11 := V1.c1; have m12 := V1.c2; have m1l := V1.lt
            clear m20 m21 m22 m2l
            have m20 := V2.c0; have m21 := V2.c1; have m22 := V2.c2; have m2l := V2.lt
            go_wp2_with fail
            refine (cas_any _ _ _ _ m p old v _ (V1.r1.step (by repeat (first | exact Below.refl _ _ | apply up | apply dr | apply drN))) (V1.r2.step (by repeat (first | exact Below.refl _ _ | apply up | apply dr | apply drN))) k3 k4 g1 p0 p1).mono ?_
            rintro e w7 ⟨A4, B4, c4, d4, rfl, R4, S4, hk⟩
            replace hb := bstep hb (bstep (by repeat (first | exact Below.refl _ _ | apply up | apply dr | apply drN)) hk)
            replace V1 := V1.step (bstep (by repeat (first | exact Below.refl _ _ | apply up | apply dr | apply drN)) hk)
            replace V2 := V2.step (bstep (by repeat (first | exact Below.refl _ _ | apply up | apply dr | apply drN)) hk)
            have V3 := (Vr.box (c := c3) (c' := d3) R3 S3).step (bstep (by repeat (first | exact Below.refl _ _ | apply up | apply dr | apply drN)) hk)
            clear hk
            clear m10 m11 m12 m1l
            have m10 := V1.c0; have m11 := V1.c1; have m12 := V1.c2; have m1l := V1.lt
            clear m20 m21 m22 m2l
            have m20 := V2.c0; have m21 := V2.c1; have m22 := V2.c2; have m2l := V2.lt
            have m30 := V3.c0; have m31 := V3.c1; have m32 := V3.c2; have m3l := V3.lt
            go_wp2_with fail
            refine (load_any _ _ _ _ m p _ (V1.r1.step (by repeat (first | exact Below.refl _ _ | apply up | apply dr | apply drN))) (V1.r2.step (by repeat (first | exact Below.refl _ _ | apply up | apply dr | apply drN))) k3 k4 g1 p0 p1).mono ?_
            rintro e w8 ⟨A5, B5, c5, d5, rfl, R5, S5, hk⟩
            replace hb := bstep hb (bstep (by repeat (first | exact Below.refl _ _ | apply up | apply dr | apply drN)) hk)
            replace V1 := V1.step (bstep (by repeat (first | exact Below.refl _ _ | apply up | apply dr | apply drN)) hk)
            replace V2 := V2.step (bstep (by repeat (first | exact Below.refl _ _ | apply up | apply dr | apply drN)) hk)
            replace V3 := V3.step (bstep (by repeat (first | exact Below.refl _ _ | apply up | apply dr | apply drN)) hk)
            have V4 := (Vr.box (c := c4) (c' := d4) R4 S4).step (bstep (by repeat (first | exact Below.refl _ _ | apply up | apply dr | apply drN)) hk)
            clear hk
            clear m10 m11 m12 m1l
            have m10 := V1.c0; have m11 := V1.c1; have m12 := V1.c2; have m1l := V1.lt
            clear m20 m21 m22 m2l
            have m20 := V2.c0; have m21 := V2.c1; have m22 := V2.c2; have m2l := V2.lt
            clear m30 m31 m32 m3l
            have m30 := V3.c0; have m31 := V3.c1; have m32 := V3.c2; have m3l := V3.lt
            have m40 := V4.c0; have m41 := V4.c1; have m42 := V4.c2; have m4l := V4.lt
            have is : mIs m p old = false := mIs_no HI.out
            have u1 : mVal (mStore m p v) p = 0 := mVal_out (by rw [mIn_len (mStore_len m p v)]; exact HI.out)
            have u2 : (mCas m p old v).bad = true := by rw [mCas_no is]; exact mBad_no HI.out
            have U2 := hid u2
            clear u2
            go_upto_region 20 with (fail)
            replace hb := bstep hb (boxed w8 (.cells #[.slice A5 (mLoad m p).W.length c5, .slice B5 (mLoad m p).G.length d5, .bool (mLoad m p).bad] 24))
            replace V1 := V1.step (boxed w8 (.cells #[.slice A5 (mLoad m p).W.length c5, .slice B5 (mLoad m p).G.length d5, .bool (mLoad m p).bad] 24))
            replace V2 := V2.step (boxed w8 (.cells #[.slice A5 (mLoad m p).W.length c5, .slice B5 (mLoad m p).G.length d5, .bool (mLoad m p).bad] 24))
            replace V3 := V3.step (boxed w8 (.cells #[.slice A5 (mLoad m p).W.length c5, .slice B5 (mLoad m p).G.length d5, .bool (mLoad m p).bad] 24))
            replace V4 := V4.step (boxed w8 (.cells #[.slice A5 (mLoad m p).W.length c5, .slice B5 (mLoad m p).G.length d5, .bool (mLoad m p).bad] 24))
            have V5 := Vr.box (w := w8) (m := (mLoad m p)) (c := c5) (c' := d5) R5 S5
            obtain ⟨b5, hbl5⟩ : ∃ b, w8.heap.size = b := ⟨_, rfl⟩
            rw [hbl5] at V5 ⊢
            generalize w8.alloc (.cells #[.slice A5 (mLoad m p).W.length c5, .slice B5 (mLoad m p).G.length d5, .bool (mLoad m p).bad] 24) = w9 at *
            clear hbl5 R5 S5
            clear m10 m11 m12 m1l
            have m10 := V1.c0; have m11 := V1.c1; have m12 := V1.c2; have m1l := V1.lt
            clear m20 m21 m22 m2l
            have m20 := V2.c0; have m21 := V2.c1; have m22 := V2.c2; have m2l := V2.lt
            clear m30 m31 m32 m3l
            have m30 := V3.c0; have m31 := V3.c1; have m32 := V3.c2; have m3l := V3.lt
            clear m40 m41 m42 m4l
            have m40 := V4.c0; have m41 := V4.c1; have m42 := V4.c2; have m4l := V4.lt
            have m50 := V5.c0; have m51 := V5.c1; have m52 := V5.c2; have m5l := V5.lt
            replace m42 : w9.cell? ⟨w7.heap.size, 2, none⟩ = some (.bool true) := by rw [m42]; exact congrArg (fun q => some (Value.bool q)) U2.out
            have tW : mInts (mCas m p old v).W m.W = true := by rw [mCas_no is]; exact mInts_refl _
            have tH : mInts (mCas m p old v).G m.G = true := by rw [mCas_no is]; exact mInts_refl _
            go_wp2_with fail
            refine (rints_any _ _ _ _ (mCas m p old v).W m.W _ (V4.r1.step (by repeat (first | exact Below.refl _ _ | apply up | apply dr | apply drN))) (V1.r1.step (by repeat (first | exact Below.refl _ _ | apply up | apply dr | apply drN))) (by have := lens_cas m p old v k3 k4; exact this.1)).mono ?_
            rintro e w10 ⟨rfl, hk⟩
            replace hb := bstep hb (bstep (by repeat (first | exact Below.refl _ _ | apply up | apply dr | apply drN)) hk)
            replace V1 := V1.step (bstep (by repeat (first | exact Below.refl _ _ | apply up | apply dr | apply drN)) hk)
            replace V2 := V2.step (bstep (by repeat (first | exact Below.refl _ _ | apply up | apply dr | apply drN)) hk)
            replace V3 := V3.step (bstep (by repeat (first | exact Below.refl _ _ | apply up | apply dr | apply drN)) hk)
            replace V4 := V4.step (bstep (by repeat (first | exact Below.refl _ _ | apply up | apply dr | apply drN)) hk)
            replace V5 := V5.step (bstep (by repeat (first | exact Below.refl _ _ | apply up | apply dr | apply drN)) hk)
            clear hk
            clear m10 m11 m12 m1l
            have m10 := V1.c0; have m11 := V1.c1; have m12 := V1.c2; have m1l := V1.lt
            clear m20 m21 m22 m2l
            have m20 := V2.c0; have m21 := V2.c1; have m22 := V2.c2; have m2l := V2.lt
            clear m30 m31 m32 m3l
            have m30 := V3.c0; have m31 := V3.c1; have m32 := V3.c2; have m3l := V3.lt
            clear m40 m41 m42 m4l
            have m40 := V4.c0; have m41 := V4.c1; have m42 := V4.c2; have m4l := V4.lt
            clear m50 m51 m52 m5l
            have m50 := V5.c0; have m51 := V5.c1; have m52 := V5.c2; have m5l := V5.lt
            go_wp2_with fail
            refine (rints_any _ _ _ _ (mCas m p old v).G m.G _ (V4.r2.step (by repeat (first | exact Below.refl _ _ | apply up | apply dr | apply drN))) (V1.r2.step (by repeat (first | exact Below.refl _ _ | apply up | apply dr | apply drN))) (by have := lens_cas m p old v k3 k4; exact this.2)).mono ?_
            rintro e w11 ⟨rfl, hk⟩
            replace hb := bstep hb (bstep (by repeat (first | exact Below.refl _ _ | apply up | apply dr | apply drN)) hk)
            replace V1 := V1.step (bstep (by repeat (first | exact Below.refl _ _ | apply up | apply dr | apply drN)) hk)
            replace V2 := V2.step (bstep (by repeat (first | exact Below.refl _ _ | apply up | apply dr | apply drN)) hk)
            replace V3 := V3.step (bstep (by repeat (first | exact Below.refl _ _ | apply up | apply dr | apply drN)) hk)
            replace V4 := V4.step (bstep (by repeat (first | exact Below.refl _ _ | apply up | apply dr | apply drN)) hk)
            replace V5 := V5.step (bstep (by repeat (first | exact Below.refl _ _ | apply up | apply dr | apply drN)) hk)
            clear hk
            go_wp2
            go_ret
            exact ⟨rfl, bstep hb (by repeat (first | exact Below.refl _ _ | apply up | apply dr | apply drN))⟩

theorem opened {H : Type} {enc : TypeId × Value → H} {w : World} {base : Nat} {spare : Nat → Bool} {held : Bool} {r : Reach} {b0 : Nat} {vv : Value} {d : DataW H} {pl : List MemPlace} (hv : Value.okWide Try.prog w r b0 47 vv) (h : DataW.Trod enc Try.prog w base spare held 47 vv d pl) :
    ∃ (A1 B1 : Option Addr) (c1 d1 : Nat) (m : Ar) (p v old : Int), vv = .agg #[.slice A1 m.W.length c1, .slice B1 m.G.length d1, .bool m.bad, .int .i64 p, .int .i64 v, .int .i64 old] ∧ Row w A1 m.W ∧ Row w B1 m.G ∧ m.W.length ≤ maxLen ∧ m.G.length ≤ maxLen ∧ (-9223372036854775808 ≤ p ∧ p ≤ 9223372036854775807) ∧ (-9223372036854775808 ≤ v ∧ v ≤ 9223372036854775807) ∧ (-9223372036854775808 ≤ old ∧ old ≤ 9223372036854775807) := by
  obtain ⟨cs, rfl, hsz⟩ := okWide_struct Try.underlying47 hv
  obtain ⟨fuel, hf⟩ := h
  obtain ⟨xs, nn, _, _, hlen, hxl, hfs⟩ := DataW.trod_struct Try.underlying47 hf
  have k0 : Try.prog.cellsOf 47 = 6 := by kernel_rfl
  have k1 : Try.prog.cellsOf 24 = 3 := by kernel_rfl
  have k2 : Try.prog.cellsOf 3 = 1 := by kernel_rfl
  rw [k0] at hsz
  obtain ⟨l⟩ := cs
  match l, hsz with
  | [q0, q1, q2, q3, q4, q5], _ =>
    match xs, hxl with
    | [y0, y1, y2, y3], _ =>
      have f0 := hfs 0 _ rfl
      have f1 := hfs 1 _ rfl
      have f2 := hfs 2 _ rfl
      have f3 := hfs 3 _ rfl
      simp [k1, k2, Value.cells] at f0 f1 f2 f3
      obtain ⟨A1, B1, c1, d1, m, e0, R1, S1, l1, l2⟩ := open_mem f0
      simp only [List.cons.injEq, and_true] at e0
      obtain ⟨rfl, rfl, rfl⟩ := e0
      obtain ⟨p, e1, _, u1⟩ := DataW.trod_int Try.underlying3 f1
      simp only [List.cons.injEq, and_true] at e1
      subst e1
      obtain ⟨v, e2, _, u2⟩ := DataW.trod_int Try.underlying3 f2
      simp only [List.cons.injEq, and_true] at e2
      subst e2
      obtain ⟨old, e3, _, u3⟩ := DataW.trod_int Try.underlying3 f3
      simp only [List.cons.injEq, and_true] at e3
      subst e3
      exact ⟨A1, B1, c1, d1, m, p, v, old, rfl, R1, S1, l1, l2, bounds_i64 u1, bounds_i64 u2, bounds_i64 u3⟩

set_option maxRecDepth 100000 in
theorem lifted (os : Os) (started : os.Started) (H : Type) (enc : TypeId × Value → H) :
    ReturnsInHanded {} Try.checked os 5 .any (Rows.memBackSpec.pre6 enc Try.prog Try.f5 Rows.memBackRow.domain false) (Rows.memBackSpec.post enc Try.prog Try.f5 false true false false) := by
  refine returnsInHanded_of_change (C := Try.checked) own started (by kernel_rfl) Try.func5
    (ChangeSpec.witness6 (enc := enc) (C := Try.checked) false ⟨#[], #[.agg #[.slice none 0 0, .slice none 0 0, .bool false, .int .i64 0, .int .i64 0, .int .i64 0]], []⟩ 8 (by kernel_rfl) (by kernel_rfl) (by kernel_rfl) (by kernel_rfl)) ?_
  intro W base args ds gs before hval0 hW hcnd _
  have hval : ∀ (j : Nat) t v, Try.f5.params[j]? = some t → args[j]? = some v → Value.okWide Try.prog W .any base t v := hval0
  have hW' := hW
  obtain ⟨p, q, hA0, hV, rfl, hfz, hnd⟩ := hW
  have hA : DataW.TrodAll enc Try.prog W 0 (fun _ => true) true Try.f5.params.toList args.toList ds p := hA0
  rw [Try.params5] at hA hval
  obtain ⟨v0, vs0, d0, ds0, p0, q0, hargs, rfl, rfl, h0, r0⟩ := trodAll_cons hA
  obtain ⟨rfl, rfl, rfl⟩ := trodAll_nil r0
  obtain rfl : args = #[v0] := by cases args; simp_all
  obtain ⟨rfl, rfl⟩ := trodVars_none hV
  clear hA0 hval0
  obtain ⟨A1, B1, c1, d1, m, p, v, old, rfl, R1, S1, l1, l2, ⟨p0, p1⟩, ⟨v0, v1⟩, ⟨old0, old1⟩⟩ := opened (hval 0 _ v0 rfl rfl) h0
  refine (walk A1 B1 c1 d1 m p v old W R1 S1 l1 l2 p0 p1).mono fun e W' ⟨he, hb⟩ => ?_
  subst he
  exact ⟨_, rfl, law_post (tb := 4) (by kernel_rfl) (by kernel_rfl) (by kernel_rfl) Try.underlying4 rfl hW' rfl hb⟩

theorem over : Rows.memBackRow.holds Try.pinned (OpenSpec.ofChange Rows.memBackSpec) :=
  OpenClaim.holds_of_wide 5 Try.f5 rfl rfl rfl rfl rfl rfl rfl ⟨rfl, rfl, rfl, rfl, rfl⟩ rfl rfl rfl rfl rfl (by kernel_rfl) Try.func5 (by kernel_rfl)
    (of_decide_eq_true (by kernel_rfl)) (by unfold Func.isWrapper; first | (rw [if_pos (by decide +kernel)]; kernel_rfl) | (rw [if_neg (by decide +kernel)]; exact ⟨rfl, rfl⟩))
    (fun os started H enc _ => lifted os started H enc)
end MemBack

theorem memBack_holds : Rows.MemBackSaid := MemBack.over
#print axioms memBack_holds
end Go.Proofs.Ytbpkndjnohdnjaa
