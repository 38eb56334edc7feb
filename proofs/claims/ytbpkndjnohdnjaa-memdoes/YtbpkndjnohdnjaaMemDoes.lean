/- For every arena and every four ints, the law MemDoes (a load, a store, a compare and swap, and a node that is turned, are as the document says) returns true, and the argument reads afterwards as before. No conditions. -/
import Derived.Test.YtbpkndjnohdnjaaRows
import Derived.Test.YtbpkndjnohdnjaaShown2
import Derived.Test.YtbpkndjnohdnjaaLaw
import Derived.Test.YtbpkndjnohdnjaaOpen2
import Derived.Test.YtbpkndjnohdnjaaSmall
namespace Go.Proofs.Ytbpkndjnohdnjaa
namespace MemDoes
open Go.ChangeShapes Go.WideShapes Go.ChangeAt Go.RowKit
set_option linter.unusedVariables false
set_option linter.unusedSimpArgs false

theorem own : ownKnob Try.prog.godebug = none := by kernel_rfl

set_option maxRecDepth 100000 in
set_option maxHeartbeats 1500000 in
theorem walk (A1 B1 : Option Addr) (c1 d1 : Nat) (m : Ar) (p old now i : Int) (w : World) (R1 : Row w A1 m.W) (S1 : Row w B1 m.G) (l1 : m.W.length ≤ maxLen) (l2 : m.G.length ≤ maxLen) (p0 : -9223372036854775808 ≤ p) (p1 : p ≤ 9223372036854775807) :
    Calls Try.prog 4 #[.agg #[.slice A1 m.W.length c1, .slice B1 m.G.length d1, .bool m.bad, .int .i64 p, .int .i64 old, .int .i64 now, .int .i64 i]] w fun e w' => e = .returned (.bool true) ∧ Below w.heap.size w w' := by
  cases q : mMays m
  · go_enter Try.func4, Try.ntmps4
    go_wp2_with fail
    refine (shown_any _).mono ?_
    rintro e w1 ⟨rfl, hk⟩
    have hb : Below w.heap.size w w1 := bstep (bstep (boxed _ _) (boxed _ _)) hk
    have V1 : Vr w1 (w.heap.size + 1) m A1 B1 c1 d1 := Vr.at_ (by simp) ((Vr.box (w := w.alloc (.cells #[.slice A1 m.W.length c1, .slice B1 m.G.length d1, .bool m.bad, .int .i64 p, .int .i64 old, .int .i64 now, .int .i64 i] 40)) (c := c1) (c' := d1) (R1.alloc _) (S1.alloc _)).step hk)
    clear hk
    have m10 := V1.c0; have m11 := V1.c1; have m12 := V1.c2; have m1l := V1.lt
    go_wp2_with fail
    refine (may_any _ _ _ _ m _ (V1.r2.step (by repeat (first | exact Below.refl _ _ | apply up | apply dr | apply drN))) l2 l1).mono ?_
    rintro e w2 ⟨rfl, hk⟩
    replace hb := bstep hb (bstep (by repeat (first | exact Below.refl _ _ | apply up | apply dr | apply drN)) hk)
    replace V1 := V1.step (bstep (by repeat (first | exact Below.refl _ _ | apply up | apply dr | apply drN)) hk)
    clear hk
    clear m10 m11 m12 m1l
    have m10 := V1.c0; have m11 := V1.c1; have m12 := V1.c2; have m1l := V1.lt
    go_wp2
    go_ret
    exact ⟨rfl, hb⟩
  · have hR : mSmall m = true ∧ mRight m = true := by simpa [mMays] using q
    obtain ⟨g1, g2, g3, g4, g5⟩ := mRight_out hR.2
    have g6 : m.G.length ≤ 61 ∧ m.W.length ≤ 368 := by simpa [mSmall] using hR.1
    obtain ⟨g6, g7⟩ := g6
    have G3 := hid g3
    have G4 := hid g4
    have G5 := hid g5
    clear g3 g4 g5 hR
    have k3 : m.W.length ≤ 1000000 := by omega
    have k4 : m.G.length ≤ 1000000 := by omega
    have k5 : 1 ≤ m.G.length := by omega
    have t1 : mSame (mLoad m p) (mLoad m p) = true := mSame_refl _
    have t2 : mSame (mCas m p old now) (mCas m p old now) = true := mSame_refl _
    have t3 : mSame (mStore m p now) (mStore m p now) = true := mSame_refl _
    have t4 : mSame (mTurn m i now) (mTurn m i now) = true := mSame_refl _
    have v1 : (mLoad m p).W.length ≤ 1000000000 ∧ (mLoad m p).G.length ≤ 1000000000 := lens_load m p (by omega) (by omega)
    have v2 : (mCas m p old now).W.length ≤ 1000000000 ∧ (mCas m p old now).G.length ≤ 1000000000 := lens_cas m p old now (by omega) (by omega)
    have v3 : (mStore m p now).W.length ≤ 1000000000 ∧ (mStore m p now).G.length ≤ 1000000000 := lens_store m p now (by omega) (by omega)
    have v4 : (mTurn m i now).W.length ≤ 1000000000 ∧ (mTurn m i now).G.length ≤ 1000000000 := lens_turn m i now (by omega) (by omega)
    go_enter Try.func4, Try.ntmps4
    go_wp2_with fail
    refine (shown_any _).mono ?_
    rintro e w1 ⟨rfl, hk⟩
    have hb : Below w.heap.size w w1 := bstep (bstep (boxed _ _) (boxed _ _)) hk
    have V1 : Vr w1 (w.heap.size + 1) m A1 B1 c1 d1 := Vr.at_ (by simp) ((Vr.box (w := w.alloc (.cells #[.slice A1 m.W.length c1, .slice B1 m.G.length d1, .bool m.bad, .int .i64 p, .int .i64 old, .int .i64 now, .int .i64 i] 40)) (c := c1) (c' := d1) (R1.alloc _) (S1.alloc _)).step hk)
    clear hk
    have m10 := V1.c0; have m11 := V1.c1; have m12 := V1.c2; have m1l := V1.lt
    go_wp2_with fail
    refine (may_any _ _ _ _ m _ (V1.r2.step (by repeat (first | exact Below.refl _ _ | apply up | apply dr | apply drN))) l2 l1).mono ?_
    rintro e w2 ⟨rfl, hk⟩
    replace hb := bstep hb (bstep (by repeat (first | exact Below.refl _ _ | apply up | apply dr | apply drN)) hk)
    replace V1 := V1.step (bstep (by repeat (first | exact Below.refl _ _ | apply up | apply dr | apply drN)) hk)
    clear hk
    clear m10 m11 m12 m1l
    have m10 := V1.c0; have m11 := V1.c1; have m12 := V1.c2; have m1l := V1.lt
    go_wp2_with fail
    refine (load_any _ _ _ _ m p _ (V1.r1.step (by repeat (first | exact Below.refl _ _ | apply up | apply dr | apply drN))) (V1.r2.step (by repeat (first | exact Below.refl _ _ | apply up | apply dr | apply drN))) k3 k4 g1 p0 p1).mono ?_
    rintro e w3 ⟨A2, B2, c2, d2, rfl, R2, S2, hk⟩
    replace hb := bstep hb (bstep (by repeat (first | exact Below.refl _ _ | apply up | apply dr | apply drN)) hk)
    replace V1 := V1.step (bstep (by repeat (first | exact Below.refl _ _ | apply up | apply dr | apply drN)) hk)
    clear hk
    clear m10 m11 m12 m1l
    have m10 := V1.c0; have m11 := V1.c1; have m12 := V1.c2; have m1l := V1.lt
    go_wp2_with fail
    refine (rload_any _ _ _ _ m p _ (V1.r1.step (by repeat (first | exact Below.refl _ _ | apply up | apply dr | apply drN))) (V1.r2.step (by repeat (first | exact Below.refl _ _ | apply up | apply dr | apply drN))) k3 k4 k5).mono ?_
    rintro e w4 ⟨A3, B3, c3, d3, rfl, R3, S3, hk⟩
    replace hb := bstep hb (bstep (by repeat (first | exact Below.refl _ _ | apply up | apply dr | apply drN)) hk)
    replace V1 := V1.step (bstep (by repeat (first | exact Below.refl _ _ | apply up | apply dr | apply drN)) hk)
    have V2 := (Vr.box (c := c2) (c' := d2) R2 S2).step (bstep (by repeat (first | exact Below.refl _ _ | apply up | apply dr | apply drN)) hk)
    clear hk
    clear m10 m11 m12 m1l
    have m10 := V1.c0; have m11 := V1.c1; have m12 := V1.c2; have m1l := V1.lt
    have m20 := V2.c0; have m21 := V2.c1; have m22 := V2.c2; have m2l := V2.lt
    go_wp2_with fail
    refine (cas_any _ _ _ _ m p old now _ (V1.r1.step (by repeat (first | exact Below.refl _ _ | apply up | apply dr | apply drN))) (V1.r2.step (by repeat (first | exact Below.refl _ _ | apply up | apply dr | apply drN))) k3 k4 g1 p0 p1).mono ?_
    rintro e w5 ⟨A4, B4, c4, d4, rfl, R4, S4, hk⟩
    replace hb := bstep hb (bstep (by repeat (first | exact Below.refl _ _ | apply up | apply dr | apply drN)) hk)
    replace V1 := V1.step (bstep (by repeat (first | exact Below.refl _ _ | apply up | apply dr | apply drN)) hk)
    replace V2 := V2.step (bstep (by repeat (first | exact Below.refl _ _ | apply up | apply dr | apply drN)) hk)
    have V3 := (Vr.box (c := c3) (c' := d3) R3 S3).step (bstep (by repeat (first | exact Below.refl _ _ | apply up | apply dr | apply drN)) hk)
    clear hk
    clear m10 m11 m12 m1l
    have m10 := V1.c0; have m11 := V1.c1; have m12 := V1.c2; have m1l := V1.lt
    clear m20 m21 m22 m2l
    have m20 := V2.c0; have m21 := V2.c1; have m22 := V2.c2; have m2l := V2.lt
    have m30 := V3.c0; have m31 := V3.c1; have m32 := V3.c2; have m3l := V3.lt
    go_wp2_with fail
    refine (rcas_any _ _ _ _ m p old now _ (V1.r1.step (by repeat (first | exact Below.refl _ _ | apply up | apply dr | apply drN))) (V1.r2.step (by repeat (first | exact Below.refl _ _ | apply up | apply dr | apply drN))) k3 k4 k5).mono ?_
    rintro e w6 ⟨A5, B5, c5, d5, rfl, R5, S5, hk⟩
    replace hb := bstep hb (bstep (by repeat (first | exact Below.refl _ _ | apply up | apply dr | apply drN)) hk)
    replace V1 := V1.step (bstep (by repeat (first | exact Below.refl _ _ | apply up | apply dr | apply drN)) hk)
    replace V2 := V2.step (bstep (by repeat (first | exact Below.refl _ _ | apply up | apply dr | apply drN)) hk)
    replace V3 := V3.step (bstep (by repeat (first | exact Below.refl _ _ | apply up | apply dr | apply drN)) hk)
    have V4 := (Vr.box (c := c4) (c' := d4) R4 S4).step (bstep (by repeat (first | exact Below.refl _ _ | apply up | apply dr | apply drN)) hk)
    clear hk
    clear m10 m11 m12 m1l
    have m10 := V1.c0; have m11 := V1.c1; have m12 := V1.c2; have m1l := V1.lt
    clear m20 m21 m22 m2l
    have m20 := V2.c0; have m21 := V2.c1; have m22 := V2.c2; have m2l := V2.lt
    clear m30 m31 m32 m3l
    have m30 := V3.c0; have m31 := V3.c1; have m32 := V3.c2; have m3l := V3.lt
    have m40 := V4.c0; have m41 := V4.c1; have m42 := V4.c2; have m4l := V4.lt
    go_wp2_with fail
    refine (rsame_any _ _ _ _ _ _ _ _ (mLoad m p) (mLoad m p) _ (V2.r1.step (by repeat (first | exact Below.refl _ _ | apply up | apply dr | apply drN))) (V2.r2.step (by repeat (first | exact Below.refl _ _ | apply up | apply dr | apply drN))) (V3.r1.step (by repeat (first | exact Below.refl _ _ | apply up | apply dr | apply drN))) (V3.r2.step (by repeat (first | exact Below.refl _ _ | apply up | apply dr | apply drN))) v1.1 v1.2).mono ?_
    rintro e w7 ⟨rfl, hk⟩
    replace hb := bstep hb (bstep (by repeat (first | exact Below.refl _ _ | apply up | apply dr | apply drN)) hk)
    replace V1 := V1.step (bstep (by repeat (first | exact Below.refl _ _ | apply up | apply dr | apply drN)) hk)
    replace V2 := V2.step (bstep (by repeat (first | exact Below.refl _ _ | apply up | apply dr | apply drN)) hk)
    replace V3 := V3.step (bstep (by repeat (first | exact Below.refl _ _ | apply up | apply dr | apply drN)) hk)
    replace V4 := V4.step (bstep (by repeat (first | exact Below.refl _ _ | apply up | apply dr | apply drN)) hk)
    have V5 := (Vr.box (c := c5) (c' := d5) R5 S5).step (bstep (by repeat (first | exact Below.refl _ _ | apply up | apply dr | apply drN)) hk)
    clear hk
    clear m10 m11 m12 m1l
    have m10 := V1.c0; have m11 := V1.c1; have m12 := V1.c2; have m1l := V1.lt
    clear m20 m21 m22 m2l
    have m20 := V2.c0; have m21 := V2.c1; have m22 := V2.c2; have m2l := V2.lt
    clear m30 m31 m32 m3l
    have m30 := V3.c0; have m31 := V3.c1; have m32 := V3.c2; have m3l := V3.lt
    clear m40 m41 m42 m4l
    have m40 := V4.c0; have m41 := V4.c1; have m42 := V4.c2; have m4l := V4.lt
    have m50 := V5.c0; have m51 := V5.c1; have m52 := V5.c2; have m5l := V5.lt
    go_wp2_with fail
    refine (rsame_any _ _ _ _ _ _ _ _ (mCas m p old now) (mCas m p old now) _ (V4.r1.step (by repeat (first | exact Below.refl _ _ | apply up | apply dr | apply drN))) (V4.r2.step (by repeat (first | exact Below.refl _ _ | apply up | apply dr | apply drN))) (V5.r1.step (by repeat (first | exact Below.refl _ _ | apply up | apply dr | apply drN))) (V5.r2.step (by repeat (first | exact Below.refl _ _ | apply up | apply dr | apply drN))) v2.1 v2.2).mono ?_
    rintro e w8 ⟨rfl, hk⟩
    replace hb := bstep hb (bstep (by repeat (first | exact Below.refl _ _ | apply up | apply dr | apply drN)) hk)
    replace V1 := V1.step (bstep (by repeat (first | exact Below.refl _ _ | apply up | apply dr | apply drN)) hk)
    replace V2 := V2.step (bstep (by repeat (first | exact Below.refl _ _ | apply up | apply dr | apply drN)) hk)
    replace V3 := V3.step (bstep (by repeat (first | exact Below.refl _ _ | apply up | apply dr | apply drN)) hk)
    replace V4 := V4.step (bstep (by repeat (first | exact Below.refl _ _ | apply up | apply dr | apply drN)) hk)
    replace V5 := V5.step (bstep (by repeat (first | exact Below.refl _ _ | apply up | apply dr | apply drN)) hk)
    clear hk
    clear m10 m11 m12 m1l
    have m10 := V1.c0; have m11 := V1.c1; have m12 := V1.c2; have m1l := V1.lt
    clear m20 m21 m22 m2l
    have m20 := V2.c0; have m21 := V2.c1; have m22 := V2.c2; have m2l := V2.lt
    clear m30 m31 m32 m3l
    have m30 := V3.c0; have m31 := V3.c1; have m32 := V3.c2; have m3l := V3.lt
    clear m40 m41 m42 m4l
    have m40 := V4.c0; have m41 := V4.c1; have m42 := V4.c2; have m4l := V4.lt
    clear m50 m51 m52 m5l
    have m50 := V5.c0; have m51 := V5.c1; have m52 := V5.c2; have m5l := V5.lt
    go_upto_region 15 with (fail)
    clear V2 V3 V4 V5 m20 m21 m22 m2l m30 m31 m32 m3l m40 m41 m42 m4l m50 m51 m52 m5l
    have hS : ∀ w', Below w8.heap.size w8 w' → (Below w8.heap.size w8 w' ∧ w'.cell? ⟨w.heap.size + 1, 0, none⟩ = some (.slice A1 m.W.length c1) ∧ w'.cell? ⟨w.heap.size + 1, 1, none⟩ = some (.slice B1 m.G.length d1) ∧ w'.cell? ⟨w.heap.size + 1, 2, none⟩ = some (.bool m.bad)) := fun w' h => ⟨h, (h.cell m1l).trans m10, (h.cell m1l).trans m11, (h.cell m1l).trans m12⟩
    go_region_held3 (fun w' => Below w8.heap.size w8 w' ∧ w'.cell? ⟨w.heap.size + 1, 0, none⟩ = some (.slice A1 m.W.length c1) ∧ w'.cell? ⟨w.heap.size + 1, 1, none⟩ = some (.slice B1 m.G.length d1) ∧ w'.cell? ⟨w.heap.size + 1, 2, none⟩ = some (.bool m.bad)) (first | exact hS _ (bstep (bstep (bstep (bstep (bstep (bstep ((Below.refl _ _).drew) hk1) hk2) hk3) hk4) hk5) hk6) | exact hS _ (bstep (bstep (bstep (bstep (bstep ((Below.refl _ _).drew) hk1) hk2) hk3) hk4) hk5) | exact hS _ (bstep (bstep (bstep (bstep ((Below.refl _ _).drew) hk1) hk2) hk3) hk4) | exact hS _ (bstep (bstep (bstep ((Below.refl _ _).drew) hk1) hk2) hk3) | exact hS _ (bstep (bstep ((Below.refl _ _).drew) hk1) hk2) | exact hS _ (bstep ((Below.refl _ _).drew) hk1) | exact hS _ ((Below.refl _ _).drew))
      (first
        | (go_at_call 30; (with_reducible refine (store_any _ _ _ _ m p now _ (V1.r1.step ((Below.refl _ _).drew)) (V1.r2.step ((Below.refl _ _).drew)) k3 k4 g1 p0 p1).mono ?_); rintro e wk1 ⟨Aa, Ba, ca, da, rfl, Ra, Sa, hk1⟩)
        | (go_at_call 31; (with_reducible refine (rstore_any _ _ _ _ m p now _ (V1.r1.step (bstep ((Below.refl _ _).drew) hk1)) (V1.r2.step (bstep ((Below.refl _ _).drew) hk1)) k3 k4 k5).mono ?_); rintro e wk2 ⟨Ab, Bb, cb, db, rfl, Rb, Sb, hk2⟩)
        | (go_at_call 16; (with_reducible refine (rsame_any _ _ _ _ _ _ _ _ (mStore m p now) (mStore m p now) _ (Ra.step hk2) (Sa.step hk2) Rb Sb v3.1 v3.2).mono ?_); rintro e wk3 ⟨rfl, hk3⟩)
        | (go_at_call 32; (with_reducible refine (turn_any _ _ _ _ m i now _ (V1.r1.step (bstep (bstep (bstep ((Below.refl _ _).drew) hk1) hk2) hk3)) (V1.r2.step (bstep (bstep (bstep ((Below.refl _ _).drew) hk1) hk2) hk3)) k3 k4).mono ?_); rintro e wk4 ⟨Ac, Bc, cc, dc, rfl, Rc, Sc, hk4⟩)
        | (go_at_call 33; (with_reducible refine (rturn_any _ _ _ _ m i now _ (V1.r1.step (bstep (bstep (bstep (bstep ((Below.refl _ _).drew) hk1) hk2) hk3) hk4)) (V1.r2.step (bstep (bstep (bstep (bstep ((Below.refl _ _).drew) hk1) hk2) hk3) hk4)) k3 k4).mono ?_); rintro e wk5 ⟨Ad, Bd, cd, dd, rfl, Rd, Sd, hk5⟩)
        | (go_at_call 16; (with_reducible refine (rsame_any _ _ _ _ _ _ _ _ (mTurn m i now) (mTurn m i now) _ (Rc.step hk5) (Sc.step hk5) Rd Sd v4.1 v4.2).mono ?_); rintro e wk6 ⟨rfl, hk6⟩))
    all_goals
      go_wp2
      go_ret
      exact ⟨rfl, bstep hb (bstep (bstep (bstep (bstep (bstep (bstep ((Below.refl _ _).drew) hk1) hk2) hk3) hk4) hk5) hk6)⟩

theorem opened {H : Type} {enc : TypeId × Value → H} {w : World} {base : Nat} {spare : Nat → Bool} {held : Bool} {r : Reach} {b0 : Nat} {v : Value} {d : DataW H} {pl : List MemPlace} (hv : Value.okWide Try.prog w r b0 40 v) (h : DataW.Trod enc Try.prog w base spare held 40 v d pl) :
    ∃ (A1 B1 : Option Addr) (c1 d1 : Nat) (m : Ar) (p old now i : Int), v = .agg #[.slice A1 m.W.length c1, .slice B1 m.G.length d1, .bool m.bad, .int .i64 p, .int .i64 old, .int .i64 now, .int .i64 i] ∧ Row w A1 m.W ∧ Row w B1 m.G ∧ m.W.length ≤ maxLen ∧ m.G.length ≤ maxLen ∧ (-9223372036854775808 ≤ p ∧ p ≤ 9223372036854775807) ∧ (-9223372036854775808 ≤ old ∧ old ≤ 9223372036854775807) ∧ (-9223372036854775808 ≤ now ∧ now ≤ 9223372036854775807) ∧ (-9223372036854775808 ≤ i ∧ i ≤ 9223372036854775807) := by
  obtain ⟨cs, rfl, hsz⟩ := okWide_struct Try.underlying40 hv
  obtain ⟨fuel, hf⟩ := h
  obtain ⟨xs, nn, _, _, hlen, hxl, hfs⟩ := DataW.trod_struct Try.underlying40 hf
  have k0 : Try.prog.cellsOf 40 = 7 := by kernel_rfl
  have k1 : Try.prog.cellsOf 24 = 3 := by kernel_rfl
  have k2 : Try.prog.cellsOf 3 = 1 := by kernel_rfl
  rw [k0] at hsz
  obtain ⟨l⟩ := cs
  match l, hsz with
  | [q0, q1, q2, q3, q4, q5, q6], _ =>
    match xs, hxl with
    | [y0, y1, y2, y3, y4], _ =>
      have f0 := hfs 0 _ rfl
      have f1 := hfs 1 _ rfl
      have f2 := hfs 2 _ rfl
      have f3 := hfs 3 _ rfl
      have f4 := hfs 4 _ rfl
      simp [k1, k2, Value.cells] at f0 f1 f2 f3 f4
      obtain ⟨A1, B1, c1, d1, m, e0, R1, S1, l1, l2⟩ := open_mem f0
      simp only [List.cons.injEq, and_true] at e0
      obtain ⟨rfl, rfl, rfl⟩ := e0
      obtain ⟨p, e1, _, u1⟩ := DataW.trod_int Try.underlying3 f1
      simp only [List.cons.injEq, and_true] at e1
      subst e1
      obtain ⟨old, e2, _, u2⟩ := DataW.trod_int Try.underlying3 f2
      simp only [List.cons.injEq, and_true] at e2
      subst e2
      obtain ⟨now, e3, _, u3⟩ := DataW.trod_int Try.underlying3 f3
      simp only [List.cons.injEq, and_true] at e3
      subst e3
      obtain ⟨i, e4, _, u4⟩ := DataW.trod_int Try.underlying3 f4
      simp only [List.cons.injEq, and_true] at e4
      subst e4
      exact ⟨A1, B1, c1, d1, m, p, old, now, i, rfl, R1, S1, l1, l2, bounds_i64 u1, bounds_i64 u2, bounds_i64 u3, bounds_i64 u4⟩

set_option maxRecDepth 100000 in
theorem lifted (os : Os) (started : os.Started) (H : Type) (enc : TypeId × Value → H) :
    ReturnsInHanded {} Try.checked os 4 .any (Rows.memDoesSpec.pre6 enc Try.prog Try.f4 Rows.memDoesRow.domain false) (Rows.memDoesSpec.post enc Try.prog Try.f4 false true false false) := by
  refine returnsInHanded_of_change (C := Try.checked) own started (by kernel_rfl) Try.func4
    (ChangeSpec.witness6 (enc := enc) (C := Try.checked) false ⟨#[], #[.agg #[.slice none 0 0, .slice none 0 0, .bool false, .int .i64 0, .int .i64 0, .int .i64 0, .int .i64 0]], []⟩ 8 (by kernel_rfl) (by kernel_rfl) (by kernel_rfl) (by kernel_rfl)) ?_
  intro W base args ds gs before hval0 hW hcnd _
  have hval : ∀ (j : Nat) t v, Try.f4.params[j]? = some t → args[j]? = some v → Value.okWide Try.prog W .any base t v := hval0
  have hW' := hW
  obtain ⟨p, q, hA0, hV, rfl, hfz, hnd⟩ := hW
  have hA : DataW.TrodAll enc Try.prog W 0 (fun _ => true) true Try.f4.params.toList args.toList ds p := hA0
  rw [Try.params4] at hA hval
  obtain ⟨v0, vs0, d0, ds0, p0, q0, hargs, rfl, rfl, h0, r0⟩ := trodAll_cons hA
  obtain ⟨rfl, rfl, rfl⟩ := trodAll_nil r0
  obtain rfl : args = #[v0] := by cases args; simp_all
  obtain ⟨rfl, rfl⟩ := trodVars_none hV
  clear hA0 hval0
  obtain ⟨A1, B1, c1, d1, m, p, old, now, i, rfl, R1, S1, l1, l2, ⟨p0, p1⟩, ⟨old0, old1⟩, ⟨now0, now1⟩, ⟨i0, i1⟩⟩ := opened (hval 0 _ v0 rfl rfl) h0
  refine (walk A1 B1 c1 d1 m p old now i W R1 S1 l1 l2 p0 p1).mono fun e W' ⟨he, hb⟩ => ?_
  subst he
  exact ⟨_, rfl, law_post (tb := 4) (by kernel_rfl) (by kernel_rfl) (by kernel_rfl) Try.underlying4 rfl hW' rfl hb⟩

theorem over : Rows.memDoesRow.holds Try.pinned (OpenSpec.ofChange Rows.memDoesSpec) :=
  OpenClaim.holds_of_wide 4 Try.f4 rfl rfl rfl rfl rfl rfl rfl ⟨rfl, rfl, rfl, rfl, rfl⟩ rfl rfl rfl rfl rfl (by kernel_rfl) Try.func4 (by kernel_rfl)
    (of_decide_eq_true (by kernel_rfl)) (by unfold Func.isWrapper; first | (rw [if_pos (by decide +kernel)]; kernel_rfl) | (rw [if_neg (by decide +kernel)]; exact ⟨rfl, rfl⟩))
    (fun os started H enc _ => lifted os started H enc)
end MemDoes

theorem memDoes_holds : Rows.MemDoesSaid := MemDoes.over
#print axioms memDoes_holds
end Go.Proofs.Ytbpkndjnohdnjaa
