/- For every arena, every uint8 and every slice of uint8, the law MemTurns (a node goes from free to live, to retired, to free, or from live to free; nothing else is no fault; other nodes stay, and all words) returns true, and the arguments read afterwards as before. No conditions. -/
import Derived.Test.YtbpkndjnohdnjaaRows
import Derived.Test.YtbpkndjnohdnjaaShown2
import Derived.Test.YtbpkndjnohdnjaaLaw
import Derived.Test.YtbpkndjnohdnjaaOpen2
import Derived.Test.YtbpkndjnohdnjaaTurns
namespace Go.Proofs.Ytbpkndjnohdnjaa
namespace MemTurns
open Go.ChangeShapes Go.WideShapes Go.ChangeAt Go.RowKit
set_option linter.unusedVariables false
set_option linter.unusedSimpArgs false

theorem own : ownKnob Try.prog.godebug = none := by kernel_rfl

set_option maxRecDepth 100000 in
set_option maxHeartbeats 3000000 in
theorem walk (A1 B1 : Option Addr) (c1 d1 : Nat) (m : Ar) (a : Int) (A2 : Option Addr) (us : List Int) (c2 : Nat) (w : World) (R1 : Row w A1 m.W) (S1 : Row w B1 m.G) (l1 : m.W.length ≤ maxLen) (l2 : m.G.length ≤ maxLen) (a0 : 0 ≤ a) (a1 : a ≤ 255) (l3 : us.length ≤ maxLen) (hus : ∀ u ∈ us, 0 ≤ u ∧ u ≤ 255) (hl : 0 < us.length → ∃ b o, A2 = some ⟨b, o, none⟩ ∧ b < w.heap.size ∧ ∀ j x, us[j]? = some x → w.cell? ⟨b, o + j, none⟩ = some (.int .u8 x)) :
    Calls Try.prog 9 #[.agg #[.slice A1 m.W.length c1, .slice B1 m.G.length d1, .bool m.bad], .int .u8 a, .slice A2 us.length c2] w fun e w' => e = .returned (.bool true) ∧ Below w.heap.size w w' := by
  have HUS := hid hus
  have HL := hid hl
  clear hus hl
  unfold maxLen at l3
  cases q : mMays m
  · have hb : Below w.heap.size w w := Below.refl _ _
    go_enter Try.func9, Try.ntmps9
    go_wp2_with fail
    refine (shown_any _).mono ?_
    rintro e w1 ⟨rfl, hk⟩
    replace hb := bstep hb (bstep (by repeat (first | exact Below.refl _ _ | apply up | apply dr | apply drN)) hk)
    have V1 := (Vr.box (c := c1) (c' := d1) R1 S1).step (bstep (by repeat (first | exact Below.refl _ _ | apply up | apply dr | apply drN)) hk)
    clear hk
    have m10 := V1.c0; have m11 := V1.c1; have m12 := V1.c2; have m1l := V1.lt
    go_wp2_with fail
    refine (may_any _ _ _ _ m _ (V1.r2.step (by repeat (first | exact Below.refl _ _ | apply up | apply dr | apply drN))) l2 l1).mono ?_
    rintro e w2 ⟨rfl, hk⟩
    replace hb := bstep hb (bstep (by repeat (first | exact Below.refl _ _ | apply up | apply dr | apply drN)) hk)
    replace V1 := V1.step (bstep (by repeat (first | exact Below.refl _ _ | apply up | apply dr | apply drN)) hk)
    clear hk
    clear m10 m11 m12 m1l
    have m10 := V1.c0; have m11 := V1.c1; have m12 := V1.c2; have m1l := V1.lt
    go_wp2
    go_ret
    exact ⟨rfl, hb⟩
  · rcases (Bool.eq_false_or_eq_true m.bad).symm with qb | qb
    all_goals
      have QB := hid qb
      clear qb
    · by_cases hl20 : (20 : Int) < (us.length : Int)
      · have hb : Below w.heap.size w w := Below.refl _ _
        go_enter Try.func9, Try.ntmps9
        go_wp2_with fail
        refine (shown_any _).mono ?_
        rintro e w1 ⟨rfl, hk⟩
        replace hb := bstep hb (bstep (by repeat (first | exact Below.refl _ _ | apply up | apply dr | apply drN)) hk)
        have V1 := (Vr.box (c := c1) (c' := d1) R1 S1).step (bstep (by repeat (first | exact Below.refl _ _ | apply up | apply dr | apply drN)) hk)
        clear hk
        have m10 := V1.c0; have m11 := V1.c1; have m12 := V1.c2; have m1l := V1.lt
        go_wp2_with fail
        refine (may_any _ _ _ _ m _ (V1.r2.step (by repeat (first | exact Below.refl _ _ | apply up | apply dr | apply drN))) l2 l1).mono ?_
        rintro e w2 ⟨rfl, hk⟩
        replace hb := bstep hb (bstep (by repeat (first | exact Below.refl _ _ | apply up | apply dr | apply drN)) hk)
        replace V1 := V1.step (bstep (by repeat (first | exact Below.refl _ _ | apply up | apply dr | apply drN)) hk)
        clear hk
        clear m10 m11 m12 m1l
        have m10 := V1.c0; have m11 := V1.c1; have m12 := V1.c2; have m1l := V1.lt
        have qb := QB.out
        go_wp2
        go_ret
        exact ⟨rfl, hb⟩
      · have hR : mSmall m = true ∧ mRight m = true := by simpa [mMays] using q
        obtain ⟨g1, g2, g3, g4, g5⟩ := mRight_out hR.2
        have g6 : m.G.length ≤ 61 ∧ m.W.length ≤ 368 := by simpa [mSmall] using hR.1
        obtain ⟨g6, g7⟩ := g6
        have G3 := hid g3
        have G4 := hid g4
        have G5 := hid g5
        clear g3 g4 g5 hR
        have hl21 : (us.length : Int) ≤ 20 := by omega
        clear hl20
        have hne : m.G ≠ [] := by intro h; rw [h] at g1; simp at g1
        obtain ⟨i, hi⟩ : ∃ i : Nat, 1 + a % ((m.G.length : Int) - 1) = i := ⟨(1 + a % ((m.G.length : Int) - 1)).toNat, by have := Int.emod_nonneg a (b := (m.G.length : Int) - 1) (by omega); omega⟩
        have i0 : 1 ≤ i := by have := Int.emod_nonneg a (b := (m.G.length : Int) - 1) (by omega); omega
        have i1 : i < m.G.length := by have := Int.emod_lt_of_pos a (b := (m.G.length : Int) - 1) (by omega); omega
        have i2 : (i : Int) < (m.G.length : Int) := by omega
        have i3 : 0 ≤ (i : Int) := by omega
        obtain ⟨gb, ob, x0, rfl, hgb, HX, hc⟩ := S1.atX i i1
        clear hc
        have hinv : Inv m i m := ⟨rfl, rfl, fun _ _ => rfl, G5.out i i1⟩
        have hb : Below w.heap.size w w := Below.refl _ _
        go_enter Try.func9, Try.ntmps9
        go_wp2_with fail
        refine (shown_any _).mono ?_
        rintro e w1 ⟨rfl, hk⟩
        replace hb := bstep hb (bstep (by repeat (first | exact Below.refl _ _ | apply up | apply dr | apply drN)) hk)
        have V1 := (Vr.box (c := c1) (c' := d1) R1 S1).step (bstep (by repeat (first | exact Below.refl _ _ | apply up | apply dr | apply drN)) hk)
        clear hk
        have m10 := V1.c0; have m11 := V1.c1; have m12 := V1.c2; have m1l := V1.lt
        go_wp2_with fail
        refine (may_any _ _ _ _ m _ (V1.r2.step (by repeat (first | exact Below.refl _ _ | apply up | apply dr | apply drN))) l2 l1).mono ?_
        rintro e w2 ⟨rfl, hk⟩
        replace hb := bstep hb (bstep (by repeat (first | exact Below.refl _ _ | apply up | apply dr | apply drN)) hk)
        replace V1 := V1.step (bstep (by repeat (first | exact Below.refl _ _ | apply up | apply dr | apply drN)) hk)
        clear hk
        clear m10 m11 m12 m1l
        have m10 := V1.c0; have m11 := V1.c1; have m12 := V1.c2; have m1l := V1.lt
        have qb := QB.out
        go_upto_region 4 with (fail)
        clear qb
        go_upto_region 6 with (fail)
        have V9 := Vr.box (w := w2) (m := m) (c := c1) (c' := d1) V1.r1 V1.r2
        replace V1 := V1.step (boxed w2 (.cells #[.slice A1 m.W.length c1, .slice (some ⟨gb, ob, none⟩) m.G.length d1, .bool m.bad] 24))
        replace hb := bstep hb (boxed w2 (.cells #[.slice A1 m.W.length c1, .slice (some ⟨gb, ob, none⟩) m.G.length d1, .bool m.bad] 24))
        obtain ⟨b9, hb9⟩ : ∃ b, w2.heap.size = b := ⟨_, rfl⟩
        have n9 : w.heap.size ≠ b9 := by omega
        have n9l : w.heap.size ≤ b9 := by omega
        rw [hb9] at V9 ⊢
        generalize w2.alloc (.cells #[.slice A1 m.W.length c1, .slice (some ⟨gb, ob, none⟩) m.G.length d1, .bool m.bad] 24) = w3 at *
        clear hb9 m10 m11 m12 m1l
        have m10 := V1.c0; have m11 := V1.c1; have m12 := V1.c2; have m1l := V1.lt
        have m90 := V9.c0; have m91 := V9.c1; have m92 := V9.c2; have m9l := V9.lt
        have cx := V1.r2.cellX i i1 HX
        have hgb' : gb < w3.heap.size := Nat.lt_of_lt_of_le hgb hb.size
        go_wp2_with fail
        go_loopw [10, 11, 12] (fun s t k wr => ∃ (j : Nat) (x : Ar) (A B : Option Addr) (c d : Nat) (g : Int) (bb : Bool), j ≤ us.length ∧ k = .int .i64 j ∧ s = .int .i64 g ∧ t = .bool bb ∧ Hid (x.G.getD i 0 = g) ∧ Hid (x.bad = bb) ∧ Inv m i x ∧ Vr wr b9 x A B c d ∧ Vr wr w.heap.size m A1 (some ⟨gb, ob, none⟩) c1 d1 ∧ Below w.heap.size w wr) (fun _ _ k _ => us.length - (intOf k).toNat)
        case atStart => exact ⟨0, m, A1, _, c1, d1, x0, false, Nat.zero_le _, rfl, rfl, rfl, HX, QB, hinv, V9, V1, hb⟩
        case round =>
          clear m10 m11 m12 m1l m90 m91 m92 m9l cx hgb' V1 V9 hb
          obtain ⟨j, x, A, B, c, d, g, bb, hj, rfl, rfl, rfl, HG, HBB, I, V9, V1, hb⟩ := hrel
          have m10 := V1.c0; have m11 := V1.c1; have m12 := V1.c2; have m1l := V1.lt
          have m90 := V9.c0; have m91 := V9.c1; have m92 := V9.c2; have m9l := V9.lt
          by_cases hlt : j < us.length
          · obtain ⟨lb, lo, rfl, hlb, hlc⟩ := HL.out (by omega)
            obtain ⟨u, hu⟩ : ∃ u, us[j]? = some u := ⟨_, List.getElem?_eq_getElem hlt⟩
            have cu : wr.cell? ⟨lb, lo + j, none⟩ = some (.int .u8 u) := (hb.cell hlb).trans (hlc j u hu)
            obtain ⟨u0, u1⟩ := HUS.out u (List.mem_of_getElem? hu)
            clear hu hlc
            have hlI : (j : Int) < (us.length : Int) := by omega
            have hlb' : lb < wr.heap.size := Nat.lt_of_lt_of_le hlb hb.size
            obtain ⟨z, hz⟩ : ∃ z, u % 3 = z := ⟨_, rfl⟩
            have z0 : 0 ≤ z := by omega
            have z1 : z ≤ 2 := by omega
            have hg0 := I.g
            rw [HG.out] at hg0
            have il : i < x.G.length := by rw [I.l]; exact i1
            have kW : x.W.length ≤ 1000000 := by rw [I.w]; omega
            have kG : x.G.length ≤ 1000000 := by rw [I.l]; omega
            obtain ⟨f1, f2, f3, f4⟩ := turn_facts (z := z) i0 il HG.out HBB.out
            have F3 := hid f3
            have i4 : (i : Int) < ((mTurn x i z).G.length : Int) := by rw [f3, I.l]; omega
            have i5 : i < (mTurn x i z).G.length := by rw [f3, I.l]; omega
            have tl : (((mTurn x i z).G.length : Int) != (m.G.length : Int)) = false := by rw [f3, I.l]; simp
            clear f3 f4
            have hz9 : wr.heap[b9]? = _ := V9.bx
            have HZ9 := hid hz9
            clear hz9
            have fz : ∀ o, wr.frozen? ⟨b9, o, none⟩ = false := fun o => frozen_of_row wr b9 o _ _ HZ9.out
            rcases three3 hg0 with ⟨e0, e1, e2⟩ | ⟨e0, e1, e2⟩ | ⟨e0, e1, e2⟩
            all_goals rcases three3 ⟨z0, z1⟩ with ⟨y0, y1, y2⟩ | ⟨y0, y1, y2⟩ | ⟨y0, y1, y2⟩
            all_goals
              have M : mMay g z = ((g == 0 && z == 1) || (g == 1 && z == 2) || (g == 1 && z == 0) || (g == 2 && z == 0)) := rfl
              rw [e0, e1, e2, y0, y1, y2] at M
              simp only [Bool.and_true, Bool.and_false, Bool.true_and, Bool.false_and, Bool.or_false, Bool.false_or, Bool.or_true, Bool.true_or] at M
              rw [M] at f1 f2
              simp only [Bool.not_true, Bool.not_false, Bool.or_false, Bool.or_true, if_true, if_false, Bool.false_eq_true] at f1 f2
              have F2 := hid f2
              have zn : (z != 1) = !(z == 1) := rfl
              rw [y1] at zn
              simp only [Bool.not_true, Bool.not_false] at zn
              clear f2 M hg0
              have F1 := hid f1
              clear f1
              go_wp2_with fail
              refine (turn_any _ _ _ _ x i z _ V9.r1 V9.r2 kW kG).mono ?_
              rintro e wk ⟨Aa, Ba, ca, da, rfl, Ra, Sa, hk⟩
              obtain ⟨gc, gf⟩ := bcell hk
              have hzk := (hk.block b9 V9.lt).trans HZ9.out
              have HZK := hid hzk
              clear hzk
              obtain ⟨gy, oy, y, rfl, hgy, Y, hcy⟩ := Sa.atX i (by rw [F3.out]; exact il)
              have hy := F2.out.symm.trans Y.out
              subst hy
              have ny : gy ≠ b9 := Sa.off (by rw [F3.out]; omega) HZK.out
              have ny' := ny.symm
              have f1 := F1.out
              go_wp2
              go_roundw
              case rel => first | exact ⟨j + 1, ⟨(mTurn x i z).W, (mTurn x i z).G, true⟩, Aa, _, ca, da, _, true, by omega, by go_num, rfl, rfl, F2, hid rfl, I.turn i1 z0 z1 _, ⟨set3 HZK.out, Ra.far3 HZK.out _ _ _, Sa.far3 HZK.out _ _ _⟩, (V1.step hk).far3 n9 HZK.out _ _ _, keep3 (bstep hb hk) n9l _ _ _⟩ | exact ⟨j + 1, ⟨(mTurn x i z).W, (mTurn x i z).G, bb⟩, Aa, _, ca, da, _, bb, by omega, by go_num, rfl, rfl, F2, hid rfl, I.turn i1 z0 z1 _, ⟨set3 HZK.out, Ra.far3 HZK.out _ _ _, Sa.far3 HZK.out _ _ _⟩, (V1.step hk).far3 n9 HZK.out _ _ _, keep3 (bstep hb hk) n9l _ _ _⟩
              case measure => simp [intOf]; omega
          · have tI : mInts x.W m.W = true := by rw [I.w]; exact mInts_refl _
            have kW : x.W.length ≤ 1000000000 := by rw [I.w]; omega
            obtain ⟨gx, ox, q0, rfl, hgx, _, _⟩ := V9.r2.atX 0 (by rw [I.l]; omega)
            go_wp2_with fail
            go_loopw [14] (fun k w' => ∃ (e nq : Nat), e ≤ m.G.length ∧ k = .int .i64 e ∧ w' = wr.drewN nq) (fun k _ => m.G.length - (intOf k).toNat)
            case atStart => exact ⟨0, 0, Nat.zero_le _, rfl, rfl⟩
            case round =>
              obtain ⟨e, nq, he, rfl, rfl⟩ := hrel
              by_cases het : e < m.G.length
              · have heI : (e : Int) < (m.G.length : Int) := by omega
                have heJ : (e : Int) < (x.G.length : Int) := by rw [I.l]; omega
                have heK : e < x.G.length := by rw [I.l]; omega
                obtain ⟨y1, Y1, cy1⟩ := V1.r2.atY e het
                obtain ⟨y2, Y2, cy2⟩ := V9.r2.atY e (by rw [I.l]; exact het)
                cases t : ((e : Int) != (i : Int))
                · clear Y1 Y2
                  go_wp2_with fail
                  go_quiet (fail)
                  go_wp2
                  go_roundw
                  case rel => exact ⟨e + 1, _, by omega, by go_num, rfl⟩
                  case measure => simp [intOf]; omega
                · have hei : e ≠ i := by intro h; subst h; simp at t
                  have e1 : (y2 != y1) = false := by rw [← Y2.out, ← Y1.out, I.o e hei]; simp
                  clear Y1 Y2
                  go_wp2_with fail
                  go_quiet (fail)
                  go_wp2
                  go_roundw
                  case rel => exact ⟨e + 1, _, by omega, by go_num, rfl⟩
                  case measure => simp [intOf]; omega
              · go_wp2_with fail
                refine (rints_any _ _ _ _ x.W m.W _ (V9.r1.step (by repeat (first | exact Below.refl _ _ | apply up | apply dr | apply drN))) (V1.r1.step (by repeat (first | exact Below.refl _ _ | apply up | apply dr | apply drN))) kW).mono ?_
                rintro e' wk ⟨rfl, hk⟩
                go_wp2
                go_ret
                exact ⟨rfl, bstep hb (bstep (by repeat (first | exact Below.refl _ _ | apply up | apply dr | apply drN)) hk)⟩
    · have hb : Below w.heap.size w w := Below.refl _ _
      go_enter Try.func9, Try.ntmps9
      go_wp2_with fail
      refine (shown_any _).mono ?_
      rintro e w1 ⟨rfl, hk⟩
      replace hb := bstep hb (bstep (by repeat (first | exact Below.refl _ _ | apply up | apply dr | apply drN)) hk)
      have V1 := (Vr.box (c := c1) (c' := d1) R1 S1).step (bstep (by repeat (first | exact Below.refl _ _ | apply up | apply dr | apply drN)) hk)
      clear hk
      have m10 := V1.c0; have m11 := V1.c1; have m12 := V1.c2; have m1l := V1.lt
      go_wp2_with fail
      refine (may_any _ _ _ _ m _ (V1.r2.step (by repeat (first | exact Below.refl _ _ | apply up | apply dr | apply drN))) l2 l1).mono ?_
      rintro e w2 ⟨rfl, hk⟩
      replace hb := bstep hb (bstep (by repeat (first | exact Below.refl _ _ | apply up | apply dr | apply drN)) hk)
      replace V1 := V1.step (bstep (by repeat (first | exact Below.refl _ _ | apply up | apply dr | apply drN)) hk)
      clear hk
      clear m10 m11 m12 m1l
      have m10 := V1.c0; have m11 := V1.c1; have m12 := V1.c2; have m1l := V1.lt
      have qb := QB.out
      go_wp2
      go_ret
      exact ⟨rfl, hb⟩

set_option maxRecDepth 100000 in
theorem lifted (os : Os) (started : os.Started) (H : Type) (enc : TypeId × Value → H) :
    ReturnsInHanded {} Try.checked os 9 .any (Rows.memTurnsSpec.pre6 enc Try.prog Try.f9 Rows.memTurnsRow.domain false) (Rows.memTurnsSpec.post enc Try.prog Try.f9 false true false false) := by
  refine returnsInHanded_of_change (C := Try.checked) own started (by kernel_rfl) Try.func9
    (ChangeSpec.witness6 (enc := enc) (C := Try.checked) false ⟨#[], #[.agg #[.slice none 0 0, .slice none 0 0, .bool false], .int .u8 0, .slice none 0 0], []⟩ 8 (by kernel_rfl) (by kernel_rfl) (by kernel_rfl) (by kernel_rfl)) ?_
  intro W base args ds gs before hval0 hW hcnd _
  have hval : ∀ (j : Nat) t v, Try.f9.params[j]? = some t → args[j]? = some v → Value.okWide Try.prog W .any base t v := hval0
  have hW' := hW
  obtain ⟨p, q, hA0, hV, rfl, hfz, hnd⟩ := hW
  have hA : DataW.TrodAll enc Try.prog W 0 (fun _ => true) true Try.f9.params.toList args.toList ds p := hA0
  rw [Try.params9] at hA hval
  obtain ⟨v0, vs0, d0, ds0, p0, q0, hargs, rfl, rfl, h0, r0⟩ := trodAll_cons hA
  obtain ⟨v1, vs1, d1, ds1, p1, q1, rfl, rfl, rfl, h1, r1⟩ := trodAll_cons r0
  obtain ⟨v2, vs2, d2, ds2, p2, q2, rfl, rfl, rfl, h2, r2⟩ := trodAll_cons r1
  obtain ⟨rfl, rfl, rfl⟩ := trodAll_nil r2
  obtain rfl : args = #[v0, v1, v2] := by cases args; simp_all
  obtain ⟨rfl, rfl⟩ := trodVars_none hV
  clear hA0 hval0
  obtain ⟨A1, B1, c1, d1, m, rfl, R1, S1, l1, l2⟩ := open_arena (hval 0 24 v0 rfl rfl) h0
  obtain ⟨n1, hn1⟩ := h1
  obtain ⟨a, e1, _, u1⟩ := DataW.trod_int Try.underlying5 hn1
  obtain ⟨a', rfl⟩ := okWide_int Try.underlying5 (hval 1 5 v1 rfl rfl)
  obtain rfl : a' = a := by simpa [Value.cells] using e1
  obtain ⟨a0, a1⟩ := bounds_u8 u1
  obtain ⟨A2, us, c2, rfl, l3, hus, hl⟩ := open_bytes (hval 2 55 v2 rfl rfl) h2
  refine (walk A1 B1 c1 d1 m a' A2 us c2 W R1 S1 l1 l2 a0 a1 l3 hus hl).mono fun e W' ⟨he, hb⟩ => ?_
  subst he
  exact ⟨_, rfl, law_post (tb := 4) (by kernel_rfl) (by kernel_rfl) (by kernel_rfl) Try.underlying4 rfl hW' rfl hb⟩

theorem over : Rows.memTurnsRow.holds Try.pinned (OpenSpec.ofChange Rows.memTurnsSpec) :=
  OpenClaim.holds_of_wide 9 Try.f9 rfl rfl rfl rfl rfl rfl rfl ⟨rfl, rfl, rfl, rfl, rfl⟩ rfl rfl rfl rfl rfl (by kernel_rfl) Try.func9 (by kernel_rfl)
    (of_decide_eq_true (by kernel_rfl)) (by unfold Func.isWrapper; first | (rw [if_pos (by decide +kernel)]; kernel_rfl) | (rw [if_neg (by decide +kernel)]; exact ⟨rfl, rfl⟩))
    (fun os started H enc _ => lifted os started H enc)
end MemTurns

theorem memTurns_holds : Rows.MemTurnsSaid := MemTurns.over
#print axioms memTurns_holds
end Go.Proofs.Ytbpkndjnohdnjaa
