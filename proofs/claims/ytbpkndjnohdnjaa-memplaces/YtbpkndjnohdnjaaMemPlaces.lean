/- For every arena and every uint16, the law MemPlaces (a node's four cells stand one behind the other; each guarded place is of just one node, and of a cell that isn't its link; roots are nobody's) returns true, and the arguments read afterwards as before. No conditions. -/
import Derived.Test.YtbpkndjnohdnjaaRows
import Derived.Test.YtbpkndjnohdnjaaShown2
import Derived.Test.YtbpkndjnohdnjaaLaw
import Derived.Test.YtbpkndjnohdnjaaOpen2
namespace Go.Proofs.Ytbpkndjnohdnjaa
namespace MemPlaces
open Go.ChangeShapes Go.WideShapes Go.ChangeAt Go.RowKit
set_option linter.unusedVariables false
set_option linter.unusedSimpArgs false

theorem own : ownKnob Try.prog.godebug = none := by kernel_rfl

set_option maxRecDepth 100000 in
set_option maxHeartbeats 8000000 in
theorem walk (A1 B1 : Option Addr) (c1 d1 : Nat) (m : Ar) (a : Int) (w : World) (R1 : Row w A1 m.W) (S1 : Row w B1 m.G) (l1 : m.W.length ≤ maxLen) (l2 : m.G.length ≤ maxLen) (a0 : 0 ≤ a) (a1 : a ≤ 65535) :
    Calls Try.prog 8 #[.agg #[.slice A1 m.W.length c1, .slice B1 m.G.length d1, .bool m.bad], .int .u16 a] w fun e w' => e = .returned (.bool true) ∧ Below w.heap.size w w' := by
  cases q : mMays m
  · have hb : Below w.heap.size w w := Below.refl _ _
    go_enter Try.func8, Try.ntmps8
    go_wp2_with fail
    refine (shown_any _).mono ?_
    rintro e w1 ⟨rfl, hk⟩
    replace hb := bstep hb (bstep (by repeat (first | exact Below.refl _ _ | apply up | apply dr | apply drN)) hk)
    have V1 := (Vr.box (c := c1) (c' := d1) R1 S1).step (bstep (by repeat (first | exact Below.refl _ _ | apply up | apply dr | apply drN)) hk)
    clear hk
    have m10 := V1.c0; have m11 := V1.c1; have m12 := V1.c2; have m1l := V1.lt
    go_wp2_with fail
    refine (may_any _ _ _ _ m _ (V1.r2.step (by repeat (first | exact Below.refl _ _ | apply up | apply dr | apply drN))) l2 l1).mono ?_
    rintro e w2 ⟨rfl, hk⟩
    replace hb := bstep hb (bstep (by repeat (first | exact Below.refl _ _ | apply up | apply dr | apply drN)) hk)
    replace V1 := V1.step (bstep (by repeat (first | exact Below.refl _ _ | apply up | apply dr | apply drN)) hk)
    clear hk
    clear m10 m11 m12 m1l
    have m10 := V1.c0; have m11 := V1.c1; have m12 := V1.c2; have m1l := V1.lt
    go_wp2
    go_ret
    exact ⟨rfl, hb⟩
  · have hR : mSmall m = true ∧ mRight m = true := by simpa [mMays] using q
    obtain ⟨g1, g2, g3, g4, g5⟩ := mRight_out hR.2
    have g6 : m.G.length ≤ 61 ∧ m.W.length ≤ 368 := by simpa [mSmall] using hR.1
    obtain ⟨g6, g7⟩ := g6
    have G3 := hid g3
    have G4 := hid g4
    have G5 := hid g5
    clear g3 g4 g5 hR
    obtain ⟨p, hp⟩ : ∃ p, a % ((m.W.length : Int) + 4) = p := ⟨_, rfl⟩
    have p0 : 0 ≤ p := by rw [← hp]; exact Int.emod_nonneg _ (by omega)
    have p1 : p < (m.W.length : Int) + 4 := by rw [← hp]; exact Int.emod_lt_of_pos _ (by omega)
    have hN := mNode_cases m.G p
    obtain ⟨n, hn⟩ : ∃ n, mNode m.G p = n := ⟨_, rfl⟩
    rw [hn] at hN
    rcases hN with ⟨n0, hq⟩ | ⟨n1, n2, n3, n4, n5⟩
    · have z0 : (n == 0) = true := by simpa using n0
      have z1 : 0 ≤ n := by omega
      have z2 : n ≤ 0 := by omega
      have z3 : n < (m.G.length : Int) := by omega
      clear n0
      have hq2 : p < 128 ∨ (m.W.length : Int) ≤ p ∧ 128 ≤ p ∨ (p < (m.W.length : Int) ∧ 128 ≤ p ∧ ((p - 128) % 4 == 0) = true) := by have := G3.out; simp only [beq_iff_eq]; omega
      clear hq
      rcases hq2 with q1 | ⟨q1, q2⟩ | ⟨q1, q2, q3⟩
      · skip
        have hb : Below w.heap.size w w := Below.refl _ _
        go_enter Try.func8, Try.ntmps8
        go_wp2_with fail
        refine (shown_any _).mono ?_
        rintro e w1 ⟨rfl, hk⟩
        replace hb := bstep hb (bstep (by repeat (first | exact Below.refl _ _ | apply up | apply dr | apply drN)) hk)
        have V1 := (Vr.box (c := c1) (c' := d1) R1 S1).step (bstep (by repeat (first | exact Below.refl _ _ | apply up | apply dr | apply drN)) hk)
        clear hk
        have m10 := V1.c0; have m11 := V1.c1; have m12 := V1.c2; have m1l := V1.lt
        go_wp2_with fail
        refine (may_any _ _ _ _ m _ (V1.r2.step (by repeat (first | exact Below.refl _ _ | apply up | apply dr | apply drN))) l2 l1).mono ?_
        rintro e w2 ⟨rfl, hk⟩
        replace hb := bstep hb (bstep (by repeat (first | exact Below.refl _ _ | apply up | apply dr | apply drN)) hk)
        replace V1 := V1.step (bstep (by repeat (first | exact Below.refl _ _ | apply up | apply dr | apply drN)) hk)
        clear hk
        clear m10 m11 m12 m1l
        have m10 := V1.c0; have m11 := V1.c1; have m12 := V1.c2; have m1l := V1.lt
        go_wp2_with fail
        refine (node_any _ _ _ _ m p _ (by omega) g1 (by omega) (by omega)).mono ?_
        rintro e w3 ⟨rfl, hk⟩
        replace hb := bstep hb (bstep (by repeat (first | exact Below.refl _ _ | apply up | apply dr | apply drN)) hk)
        replace V1 := V1.step (bstep (by repeat (first | exact Below.refl _ _ | apply up | apply dr | apply drN)) hk)
        clear hk
        clear m10 m11 m12 m1l
        have m10 := V1.c0; have m11 := V1.c1; have m12 := V1.c2; have m1l := V1.lt
        go_wp2
        go_ret
        exact ⟨rfl, hb⟩
      · skip
        have hb : Below w.heap.size w w := Below.refl _ _
        go_enter Try.func8, Try.ntmps8
        go_wp2_with fail
        refine (shown_any _).mono ?_
        rintro e w1 ⟨rfl, hk⟩
        replace hb := bstep hb (bstep (by repeat (first | exact Below.refl _ _ | apply up | apply dr | apply drN)) hk)
        have V1 := (Vr.box (c := c1) (c' := d1) R1 S1).step (bstep (by repeat (first | exact Below.refl _ _ | apply up | apply dr | apply drN)) hk)
        clear hk
        have m10 := V1.c0; have m11 := V1.c1; have m12 := V1.c2; have m1l := V1.lt
        go_wp2_with fail
        refine (may_any _ _ _ _ m _ (V1.r2.step (by repeat (first | exact Below.refl _ _ | apply up | apply dr | apply drN))) l2 l1).mono ?_
        rintro e w2 ⟨rfl, hk⟩
        replace hb := bstep hb (bstep (by repeat (first | exact Below.refl _ _ | apply up | apply dr | apply drN)) hk)
        replace V1 := V1.step (bstep (by repeat (first | exact Below.refl _ _ | apply up | apply dr | apply drN)) hk)
        clear hk
        clear m10 m11 m12 m1l
        have m10 := V1.c0; have m11 := V1.c1; have m12 := V1.c2; have m1l := V1.lt
        go_wp2_with fail
        refine (node_any _ _ _ _ m p _ (by omega) g1 (by omega) (by omega)).mono ?_
        rintro e w3 ⟨rfl, hk⟩
        replace hb := bstep hb (bstep (by repeat (first | exact Below.refl _ _ | apply up | apply dr | apply drN)) hk)
        replace V1 := V1.step (bstep (by repeat (first | exact Below.refl _ _ | apply up | apply dr | apply drN)) hk)
        clear hk
        clear m10 m11 m12 m1l
        have m10 := V1.c0; have m11 := V1.c1; have m12 := V1.c2; have m1l := V1.lt
        go_wp2
        go_ret
        exact ⟨rfl, hb⟩
      · skip
        have hb : Below w.heap.size w w := Below.refl _ _
        go_enter Try.func8, Try.ntmps8
        go_wp2_with fail
        refine (shown_any _).mono ?_
        rintro e w1 ⟨rfl, hk⟩
        replace hb := bstep hb (bstep (by repeat (first | exact Below.refl _ _ | apply up | apply dr | apply drN)) hk)
        have V1 := (Vr.box (c := c1) (c' := d1) R1 S1).step (bstep (by repeat (first | exact Below.refl _ _ | apply up | apply dr | apply drN)) hk)
        clear hk
        have m10 := V1.c0; have m11 := V1.c1; have m12 := V1.c2; have m1l := V1.lt
        go_wp2_with fail
        refine (may_any _ _ _ _ m _ (V1.r2.step (by repeat (first | exact Below.refl _ _ | apply up | apply dr | apply drN))) l2 l1).mono ?_
        rintro e w2 ⟨rfl, hk⟩
        replace hb := bstep hb (bstep (by repeat (first | exact Below.refl _ _ | apply up | apply dr | apply drN)) hk)
        replace V1 := V1.step (bstep (by repeat (first | exact Below.refl _ _ | apply up | apply dr | apply drN)) hk)
        clear hk
        clear m10 m11 m12 m1l
        have m10 := V1.c0; have m11 := V1.c1; have m12 := V1.c2; have m1l := V1.lt
        go_wp2_with fail
        refine (node_any _ _ _ _ m p _ (by omega) g1 (by omega) (by omega)).mono ?_
        rintro e w3 ⟨rfl, hk⟩
        replace hb := bstep hb (bstep (by repeat (first | exact Below.refl _ _ | apply up | apply dr | apply drN)) hk)
        replace V1 := V1.step (bstep (by repeat (first | exact Below.refl _ _ | apply up | apply dr | apply drN)) hk)
        clear hk
        clear m10 m11 m12 m1l
        have m10 := V1.c0; have m11 := V1.c1; have m12 := V1.c2; have m1l := V1.lt
        go_wp2
        go_ret
        exact ⟨rfl, hb⟩
    · have N3 := hid n3
      clear n3
      have z0 : mNode m.G (124 + 4 * n) = 0 := by unfold mNode; rw [if_neg (by omega)]
      have z1 : (n == 0) = false := by simp; omega
      have z2 : 124 + 4 * n < p := by have := N3.out; omega
      have z3 : p ≤ 124 + 4 * n + 3 := by have := N3.out; omega
      have z4 : ((124 + 4 * (n + 1)) == (124 + 4 * n + 4)) = true := by simp; omega
      have hb : Below w.heap.size w w := Below.refl _ _
      go_enter Try.func8, Try.ntmps8
      go_wp2_with fail
      refine (shown_any _).mono ?_
      rintro e w1 ⟨rfl, hk⟩
      replace hb := bstep hb (bstep (by repeat (first | exact Below.refl _ _ | apply up | apply dr | apply drN)) hk)
      have V1 := (Vr.box (c := c1) (c' := d1) R1 S1).step (bstep (by repeat (first | exact Below.refl _ _ | apply up | apply dr | apply drN)) hk)
      clear hk
      have m10 := V1.c0; have m11 := V1.c1; have m12 := V1.c2; have m1l := V1.lt
      go_wp2_with fail
      refine (may_any _ _ _ _ m _ (V1.r2.step (by repeat (first | exact Below.refl _ _ | apply up | apply dr | apply drN))) l2 l1).mono ?_
      rintro e w2 ⟨rfl, hk⟩
      replace hb := bstep hb (bstep (by repeat (first | exact Below.refl _ _ | apply up | apply dr | apply drN)) hk)
      replace V1 := V1.step (bstep (by repeat (first | exact Below.refl _ _ | apply up | apply dr | apply drN)) hk)
      clear hk
      clear m10 m11 m12 m1l
      have m10 := V1.c0; have m11 := V1.c1; have m12 := V1.c2; have m1l := V1.lt
      go_wp2_with fail
      refine (node_any _ _ _ _ m p _ (by omega) g1 (by omega) (by omega)).mono ?_
      rintro e w3 ⟨rfl, hk⟩
      replace hb := bstep hb (bstep (by repeat (first | exact Below.refl _ _ | apply up | apply dr | apply drN)) hk)
      replace V1 := V1.step (bstep (by repeat (first | exact Below.refl _ _ | apply up | apply dr | apply drN)) hk)
      clear hk
      clear m10 m11 m12 m1l
      have m10 := V1.c0; have m11 := V1.c1; have m12 := V1.c2; have m1l := V1.lt
      go_wp2_with fail
      refine (at_any _ _ _ (by omega) (by omega) (by omega) (by omega)).mono ?_
      rintro e w' ⟨rfl, rfl⟩
      go_wp2_with fail
      refine (at_any _ _ _ (by omega) (by omega) (by omega) (by omega)).mono ?_
      rintro e w' ⟨rfl, rfl⟩
      go_wp2_with fail
      refine (node_any _ _ _ _ m _ _ (by omega) g1 (by omega) (by omega)).mono ?_
      rintro e w4 ⟨rfl, hk⟩
      replace hb := bstep hb (bstep (by repeat (first | exact Below.refl _ _ | apply up | apply dr | apply drN)) hk)
      replace V1 := V1.step (bstep (by repeat (first | exact Below.refl _ _ | apply up | apply dr | apply drN)) hk)
      clear hk
      clear m10 m11 m12 m1l
      have m10 := V1.c0; have m11 := V1.c1; have m12 := V1.c2; have m1l := V1.lt
      go_wp2_with fail
      refine (at_any _ _ _ (by omega) (by omega) (by omega) (by omega)).mono ?_
      rintro e w' ⟨rfl, rfl⟩
      go_wp2
      go_ret
      exact ⟨rfl, hb⟩

set_option maxRecDepth 100000 in
theorem lifted (os : Os) (started : os.Started) (H : Type) (enc : TypeId × Value → H) :
    ReturnsInHanded {} Try.checked os 8 .any (Rows.memPlacesSpec.pre6 enc Try.prog Try.f8 Rows.memPlacesRow.domain false) (Rows.memPlacesSpec.post enc Try.prog Try.f8 false true false false) := by
  refine returnsInHanded_of_change (C := Try.checked) own started (by kernel_rfl) Try.func8
    (ChangeSpec.witness6 (enc := enc) (C := Try.checked) false ⟨#[], #[.agg #[.slice none 0 0, .slice none 0 0, .bool false], .int .u16 0], []⟩ 8 (by kernel_rfl) (by kernel_rfl) (by kernel_rfl) (by kernel_rfl)) ?_
  intro W base args ds gs before hval0 hW hcnd _
  have hval : ∀ (j : Nat) t v, Try.f8.params[j]? = some t → args[j]? = some v → Value.okWide Try.prog W .any base t v := hval0
  have hW' := hW
  obtain ⟨p, q, hA0, hV, rfl, hfz, hnd⟩ := hW
  have hA : DataW.TrodAll enc Try.prog W 0 (fun _ => true) true Try.f8.params.toList args.toList ds p := hA0
  rw [Try.params8] at hA hval
  obtain ⟨v0, vs0, d0, ds0, p0, q0, hargs, rfl, rfl, h0, r0⟩ := trodAll_cons hA
  obtain ⟨v1, vs1, d1, ds1, p1, q1, rfl, rfl, rfl, h1, r1⟩ := trodAll_cons r0
  obtain ⟨rfl, rfl, rfl⟩ := trodAll_nil r1
  obtain rfl : args = #[v0, v1] := by cases args; simp_all
  obtain ⟨rfl, rfl⟩ := trodVars_none hV
  clear hA0 hval0
  obtain ⟨A1, B1, c1, d1, m, rfl, R1, S1, l1, l2⟩ := open_arena (hval 0 24 v0 rfl rfl) h0
  obtain ⟨n1, hn1⟩ := h1
  obtain ⟨a, e1, _, u1⟩ := DataW.trod_int Try.underlying53 hn1
  obtain ⟨a', rfl⟩ := okWide_int Try.underlying53 (hval 1 53 v1 rfl rfl)
  obtain rfl : a' = a := by simpa [Value.cells] using e1
  obtain ⟨a0, a1⟩ := bounds_u16 u1
  refine (walk A1 B1 c1 d1 m a' W R1 S1 l1 l2 a0 a1).mono fun e W' ⟨he, hb⟩ => ?_
  subst he
  exact ⟨_, rfl, law_post (tb := 4) (by kernel_rfl) (by kernel_rfl) (by kernel_rfl) Try.underlying4 rfl hW' rfl hb⟩

theorem over : Rows.memPlacesRow.holds Try.pinned (OpenSpec.ofChange Rows.memPlacesSpec) :=
  OpenClaim.holds_of_wide 8 Try.f8 rfl rfl rfl rfl rfl rfl rfl ⟨rfl, rfl, rfl, rfl, rfl⟩ rfl rfl rfl rfl rfl (by kernel_rfl) Try.func8 (by kernel_rfl)
    (of_decide_eq_true (by kernel_rfl)) (by unfold Func.isWrapper; first | (rw [if_pos (by decide +kernel)]; kernel_rfl) | (rw [if_neg (by decide +kernel)]; exact ⟨rfl, rfl⟩))
    (fun os started H enc _ => lifted os started H enc)
end MemPlaces

theorem memPlaces_holds : Rows.MemPlacesSaid := MemPlaces.over
#print axioms memPlaces_holds
end Go.Proofs.Ytbpkndjnohdnjaa
