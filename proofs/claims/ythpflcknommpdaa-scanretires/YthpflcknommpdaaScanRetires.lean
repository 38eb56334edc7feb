/- For every system and every two bytes, the law ScanRetires (a node that is retired is the last one that its core retired; it is Retired, if it was Live; below the limit no scan begins, from there on one does) returns true, and the arguments read afterwards as before. No conditions. -/
import Derived.Test.YthpflcknommpdaaRows
import Derived.Test.YthpflcknommpdaaScRe
import Derived.Test.YthpflcknommpdaaScRH
import Derived.Test.YthpflcknommpdaaScRL
import Derived.Test.YthpflcknommpdaaKCoB
import Derived.Test.YthpflcknommpdaaKBas
namespace Go.Proofs.Ythpflcknommpdaa
namespace ScanRetires
open Go.ChangeShapes Go.WideShapes Go.ChangeAt Go.RowKit
set_option linter.unusedVariables false
set_option linter.unusedSimpArgs false

theorem own : ownKnob Try.prog.godebug = none := by kernel_rfl
theorem walk (A0 B0 C0 L0 : Option Addr) (a0 b0 c0 d0 : Nat) (s0 : Sy) (n1 n2 : Int) (w0 : World) (u0 : 0 ≤ n1) (u1 : n1 ≤ 255) (u2 : 0 ≤ n2) (u3 : n2 ≤ 255)
    (rW : Row w0 A0 s0.M.W) (rG : Row w0 B0 s0.M.G) (rC : RowC w0 C0 s0.C) (rL : RowE w0 L0 s0.L) (g0 : s0.M.W.length ≤ maxLen) (g1 : s0.M.G.length ≤ maxLen) (g2 : s0.C.length ≤ maxLen) (g3 : s0.L.length ≤ maxLen) :
    Calls Try.prog 5 #[.agg #[.slice A0 s0.M.W.length a0, .slice B0 s0.M.G.length b0, .bool s0.M.bad, .slice C0 s0.C.length c0, .slice L0 s0.L.length d0], .int .u8 n1, .int .u8 n2] w0 fun e w' => e = .returned (.bool true) ∧ Below w0.heap.size w0 w' := by
  rcases q0 : syMays4 s0 with _ | _
  · exact walk_not A0 B0 C0 L0 a0 b0 c0 d0 s0 n1 n2 w0 u0 u1 u2 u3 rW rG rC rL g0 g1 g2 g3 q0
  · have one : ∀ (k k' : Nat) (x x' : Co), n1.tmod (s0.C.length : Int) = (k : Int) → s0.C[k]? = some x → n1.tmod (s0.C.length : Int) = (k' : Int) → s0.C[k']? = some x' → x = x' := fun k k' x x' h1 h2 h1' h2' => by
      have e1 : k' = k := by omega
      subst e1
      rw [h2] at h2'
      exact Option.some.inj h2'
    by_cases qD : ∀ (k : Nat) (x : Co), n1.tmod (s0.C.length : Int) = (k : Int) → s0.C[k]? = some x → 38 ≤ x.F.length
    · exact walk_deep A0 B0 C0 L0 a0 b0 c0 d0 s0 n1 n2 w0 u0 u1 u2 u3 rW rG rC rL g0 g1 g2 g3 q0 qD
    · by_cases qM : ∀ (k : Nat) (x : Co), n1.tmod (s0.C.length : Int) = (k : Int) → s0.C[k]? = some x → x.F.length < 38 ∧ 200 ≤ x.ret.length
      · exact walk_much A0 B0 C0 L0 a0 b0 c0 d0 s0 n1 n2 w0 u0 u1 u2 u3 rW rG rC rL g0 g1 g2 g3 q0 qM
      · obtain ⟨k, x, hk, hx, hF⟩ : ∃ (k : Nat) (x : Co), n1.tmod (s0.C.length : Int) = (k : Int) ∧ s0.C[k]? = some x ∧ x.F.length < 38 := by
          apply Classical.byContradiction
          intro h
          exact qD (fun k x h1 h2 => by
            apply Classical.byContradiction
            intro h3
            exact h ⟨k, x, h1, h2, by omega⟩)
        have hR : x.ret.length < 200 := by
          apply Classical.byContradiction
          intro h
          exact qM (fun k' x' h1 h2 => by
            have e := one k k' x x' hk hx h1 h2
            subst e
            exact ⟨hF, by omega⟩)
        have qF : ∀ (k : Nat) (x : Co), n1.tmod (s0.C.length : Int) = (k : Int) → s0.C[k]? = some x → x.F.length < 38 ∧ x.ret.length < 200 := fun k' x' h1 h2 => by
          have e := one k k' x x' hk hx h1 h2
          subst e
          exact ⟨hF, hR⟩
        by_cases hl : x.ret.length + 1 < 3 * s0.C.length + 1
        · exact walk_low A0 B0 C0 L0 a0 b0 c0 d0 s0 n1 n2 w0 u0 u1 u2 u3 rW rG rC rL g0 g1 g2 g3 q0 qF (fun k' x' h1 h2 => by have e := one k k' x x' hk hx h1 h2; subst e; exact hl)
        · exact walk_high A0 B0 C0 L0 a0 b0 c0 d0 s0 n1 n2 w0 u0 u1 u2 u3 rW rG rC rL g0 g1 g2 g3 q0 qF (fun k' x' h1 h2 => by have e := one k k' x x' hk hx h1 h2; subst e; exact hl)

set_option maxRecDepth 100000 in
theorem lifted (os : Os) (started : os.Started) (H : Type) (enc : TypeId × Value → H) :
    ReturnsInHanded {} Try.checked os 5 .any (Rows.scanRetiresSpec.pre6 enc Try.prog Try.f5 Rows.scanRetiresRow.domain false) (Rows.scanRetiresSpec.post enc Try.prog Try.f5 false true false false) := by
  refine returnsInHanded_of_change (C := Try.checked) own started (by kernel_rfl) Try.func5
    (ChangeSpec.witness6 (enc := enc) (C := Try.checked) false ⟨#[], #[.agg #[.slice none 0 0, .slice none 0 0, .bool false, .slice none 0 0, .slice none 0 0], .int .u8 0, .int .u8 0], []⟩ 8 (by kernel_rfl) (by kernel_rfl) (by kernel_rfl) (by kernel_rfl)) ?_
  intro W base args ds gs before hval0 hW hcnd _
  have hval : ∀ (j : Nat) t v, Try.f5.params[j]? = some t → args[j]? = some v → Value.okWide Try.prog W .any base t v := hval0
  have hW' := hW
  obtain ⟨p, q, hA0, hV, rfl, hfz, hnd⟩ := hW
  have hA : DataW.TrodAll enc Try.prog W 0 (fun _ => true) true Try.f5.params.toList args.toList ds p := hA0
  rw [Try.params5] at hA hval
  obtain ⟨v0, vs0, d0, ds0, p0, q0, hargs, rfl, rfl, h0, r0⟩ := trodAll_cons hA
  obtain ⟨v1, vs1, d1, ds1, p1, q1, rfl, rfl, rfl, h1, r1⟩ := trodAll_cons r0
  obtain ⟨v2, vs2, d2, ds2, p2, q2, rfl, rfl, rfl, h2, r2⟩ := trodAll_cons r1
  obtain ⟨rfl, rfl, rfl⟩ := trodAll_nil r2
  obtain rfl : args = #[v0, v1, v2] := by cases args; simp_all
  obtain ⟨rfl, rfl⟩ := trodVars_none hV
  clear hA0 hval0
  obtain ⟨A0, B0, C0, L0, a0, b0, c0, d0, s0, rfl, rW, rG, rC, rL, l0, l1, l2, l3, hin⟩ := open_systemW (hval 0 _ v0 rfl rfl) h0
  obtain ⟨m1, hm1⟩ := h1
  obtain ⟨a, e1, _, u1⟩ := DataW.trod_int Try.underlying5 hm1
  obtain ⟨a', rfl⟩ := okWide_int Try.underlying5 (hval 1 5 v1 rfl rfl)
  obtain rfl : a' = a := by simpa [Value.cells] using e1
  obtain ⟨y0, y1⟩ := bounds_u8 u1
  obtain ⟨m2, hm2⟩ := h2
  obtain ⟨a2, e2, _, u2⟩ := DataW.trod_int Try.underlying5 hm2
  obtain ⟨a2', rfl⟩ := okWide_int Try.underlying5 (hval 2 5 v2 rfl rfl)
  obtain rfl : a2' = a2 := by simpa [Value.cells] using e2
  obtain ⟨y2, y3⟩ := bounds_u8 u2
  refine (walk A0 B0 C0 L0 a0 b0 c0 d0 s0 a' a2' W y0 y1 y2 y3 rW rG rC rL l0 l1 l2 l3).mono fun e W' ⟨he, hb⟩ => ?_
  subst he
  exact ⟨_, rfl, law_post (tb := 4) (by kernel_rfl) (by kernel_rfl) (by kernel_rfl) Try.underlying4 rfl hW' rfl hb⟩

theorem over : Rows.scanRetiresRow.holds Try.pinned (OpenSpec.ofChange Rows.scanRetiresSpec) :=
  OpenClaim.holds_of_wide 5 Try.f5 rfl rfl rfl rfl rfl rfl rfl ⟨rfl, rfl, rfl, rfl, rfl⟩ rfl rfl rfl rfl rfl (by kernel_rfl) Try.func5 (by kernel_rfl)
    (of_decide_eq_true (by kernel_rfl)) (by unfold Func.isWrapper; first | (rw [if_pos (by decide +kernel)]; kernel_rfl) | (rw [if_neg (by decide +kernel)]; exact ⟨rfl, rfl⟩))
    (fun os started H enc _ => lifted os started H enc)
end ScanRetires

theorem scanRetires_holds : Rows.ScanRetiresSaid := ScanRetires.over
#print axioms scanRetires_holds
end Go.Proofs.Ythpflcknommpdaa
