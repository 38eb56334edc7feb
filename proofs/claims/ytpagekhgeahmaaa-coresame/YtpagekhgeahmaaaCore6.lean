/- Contracts of the document's answers for layer 3: cores that are the same. -/
import Derived.Test.YtpagekhgeahmaaaCore5
import Derived.Deep.RegionHeld3
import Derived.Deep.CutRange
namespace Go.Proofs.Ytpagekhgeahmaaa
open Go.RowKit
set_option linter.unusedVariables false
set_option linter.unusedSimpArgs false

def coSame (x y : Co) : Bool := mInts x.ret y.ret && (x.v == y.v) && (x.e == y.e) && decide ([x.x0, x.x1, x.x2] = [y.x0, y.x1, y.x2]) && lSame x.F y.F

theorem frSame_eq (f g : Fr) : frSame f g = decide (f = g) := by
  obtain ⟨a, b, c, d⟩ := f
  obtain ⟨a', b', c', d'⟩ := g
  unfold frSame mInts
  rw [Bool.eq_iff_iff]
  simp
  constructor
  · rintro ⟨⟨⟨h1, h2⟩, h3⟩, h4⟩; exact ⟨h2, h3, h4, h1⟩
  · rintro ⟨h1, h2, h3, h4⟩; exact ⟨⟨⟨h4, h1⟩, h2⟩, h3⟩

theorem list8 {l : List Int} (h : l.length = 8) : ∃ r0 r1 r2 r3 r4 r5 r6 r7 : Int, l = [r0, r1, r2, r3, r4, r5, r6, r7] := by
  match l, h with
  | [r0, r1, r2, r3, r4, r5, r6, r7], _ => exact ⟨r0, r1, r2, r3, r4, r5, r6, r7, rfl⟩

theorem neq3 (a b c a' b' c' : Int) (w : World) : (binOp .neq 63 (.agg #[.int .i64 a, .int .i64 b, .int .i64 c]) (.agg #[.int .i64 a', .int .i64 b', .int .i64 c'])).run Try.prog w = .ok (.bool (!decide ([a, b, c] = [a', b', c']))) w := by
  obtain ⟨i, hi⟩ := int_info3
  exact run_neq_ints w Try.underlying63 Try.underlying3 hi (by kernel_rfl) [a, b, c] [a', b', c'] rfl rfl

set_option maxRecDepth 100000 in
set_option maxHeartbeats 4000000 in
theorem rone_any (AF AR BF BR : Option Addr) (cF cR dF dR : Nat) (x y : Co) (w : World) (hF : RowF w AF x.F) (hR : Row w AR x.ret) (kF : RowF w BF y.F) (kR : Row w BR y.ret) (h0 : x.ret.length ≤ 1000000) (h1 : x.F.length ≤ 1000000) (h2 : ∀ f ∈ x.F, f.S.length ≤ 1000000) :
    Calls Try.prog 58 #[.agg #[.slice AF x.F.length cF, .int .i64 x.v, .int .i64 x.e, .int .i64 x.x0, .int .i64 x.x1, .int .i64 x.x2, .slice AR x.ret.length cR], .agg #[.slice BF y.F.length dF, .int .i64 y.v, .int .i64 y.e, .int .i64 y.x0, .int .i64 y.x1, .int .i64 y.x2, .slice BR y.ret.length dR]] w fun e w' => e = .returned (.bool (coSame x y)) ∧ Below w.heap.size w w' := by
  have HC := hid (show coSame x y = (mInts x.ret y.ret && (x.v == y.v) && (x.e == y.e) && decide ([x.x0, x.x1, x.x2] = [y.x0, y.x1, y.x2]) && lSame x.F y.F) from rfl)
  have H2 := hid h2
  clear h2
  have hq := neq3 x.x0 x.x1 x.x2 y.x0 y.x1 y.x2
  obtain ⟨z, hz⟩ : ∃ z, decide ([x.x0, x.x1, x.x2] = [y.x0, y.x1, y.x2]) = z := ⟨_, rfl⟩
  rw [hz] at HC
  have hq2 : ∀ w, (binOp .neq 63 (.agg #[.int .i64 x.x0, .int .i64 x.x1, .int .i64 x.x2]) (.agg #[.int .i64 y.x0, .int .i64 y.x1, .int .i64 y.x2])).run Try.prog w = .ok (.bool !z) w := fun w => by rw [hq w, hz]
  clear hq hz
  by_cases hall : mInts x.ret y.ret = true ∧ (x.v != y.v) = false ∧ (x.e != y.e) = false ∧ z = true ∧ x.F.length = y.F.length
  · obtain ⟨t0, t1, t2, rfl, t4⟩ := hall
    have T4 := hid t4
    have l1 : x.F.length ≤ y.F.length := by omega
    have l2 : y.F.length ≤ x.F.length := by omega
    have t5 : ((x.F.length : Int) != (y.F.length : Int)) = false := by simp [t4]
    clear t4
    have HC2 : Hid (coSame x y = lSame x.F y.F) := by
      show _ = _
      rw [HC.out, t0, show (x.v == y.v) = true by simpa using t1, show (x.e == y.e) = true by simpa using t2]
      rfl
    simp only [Bool.not_true] at hq2
    go_enter Try.func58, Try.ntmps58
    go_wp2_with (go_at_call 25; refine (rints_any _ _ _ _ x.ret y.ret _ ((hR.alloc _).alloc _) ((kR.alloc _).alloc _) (by omega)).mono ?_; rintro e wk ⟨rfl, hk⟩; obtain ⟨gc, gf⟩ := bcell hk; have hz1 : w.heap.size + 1 < wk.heap.size := (by have := hk.size; simp at this; omega); have hz0 : w.heap.size < wk.heap.size := (by omega))
    have p0 : wk.cell? ⟨w.heap.size, 0, none⟩ = some (.slice AF x.F.length cF) := by rw [gc _ _ (by simp; omega)]; simp [go_sem]
    have p1 : wk.cell? ⟨w.heap.size + 1, 0, none⟩ = some (.slice BF y.F.length dF) := by rw [gc _ _ (by simp)]; simp [go_sem]
    have hb : Below w.heap.size w wk := bstep (bstep (boxed _ _) (boxed _ _)) hk
    have rF := ((hF.step (boxed w _)).step (boxed _ _)).step hk
    have sF := ((kF.step (boxed w _)).step (boxed _ _)).step hk
    clear gc gf hk hq2
    go_loopw [6] (fun i wr => ∃ k : Nat, k ≤ x.F.length ∧ i = .int .i64 k ∧ Hid (x.F.take k = y.F.take k) ∧ Below wk.heap.size wk wr) (fun i _ => x.F.length - (intOf i).toNat)
    case atStart => exact ⟨0, Nat.zero_le _, rfl, hid rfl, Below.refl _ _⟩
    case round =>
      obtain ⟨k, hkk, rfl, HT, hbr⟩ := hrel
      have c0 := (hbr.cell hz0).trans p0
      have c1 := (hbr.cell hz1).trans p1
      by_cases hlt : k < x.F.length
      · obtain ⟨b1, o1, rfl, hb1, hat1⟩ := rF (by omega)
        obtain ⟨b2, o2, rfl, hb2, hat2⟩ := sF (by omega)
        obtain ⟨f, hf⟩ : ∃ f, x.F[k]? = some f := ⟨_, List.getElem?_eq_getElem hlt⟩
        obtain ⟨g, hg⟩ : ∃ g, y.F[k]? = some g := ⟨_, List.getElem?_eq_getElem (by omega)⟩
        have hb1r : b1 < wr.heap.size := Nat.lt_of_lt_of_le hb1 hbr.size
        have hb2r : b2 < wr.heap.size := Nat.lt_of_lt_of_le hb2 hbr.size
        have U := (hat1 k f hf).step hb1 hbr
        have T := (hat2 k g hg).step hb2 hbr
        have hfS := H2.out f (List.mem_of_getElem? hf)
        obtain ⟨op, pc, rs, xs⟩ := f
        obtain ⟨op2, pc2, ss, ys⟩ := g
        obtain ⟨e1, u0, u1, ur, AS, cS, u10, rS⟩ := U
        obtain ⟨e2, t0', t1', tr, BS, dS, t10, sS⟩ := T
        obtain ⟨r0, r1, r2, r3, r4, r5, r6, r7, rfl⟩ := list8 e1
        obtain ⟨s0, s1, s2, s3, s4, s5, s6, s7, rfl⟩ := list8 e2
        have HF := hid hf
        have HG := hid hg
        dsimp only at u0 u1 ur u10 rS t0' t1' tr t10 sS hfS
        have u2 : wr.cell? ⟨b1, o1 + k * 11 + 2, none⟩ = some (.int .i64 r0) := ur 0 (by omega)
        have t2 : wr.cell? ⟨b2, o2 + k * 11 + 2, none⟩ = some (.int .i64 s0) := tr 0 (by omega)
        have u3 : wr.cell? ⟨b1, o1 + k * 11 + 3, none⟩ = some (.int .i64 r1) := ur 1 (by omega)
        have t3 : wr.cell? ⟨b2, o2 + k * 11 + 3, none⟩ = some (.int .i64 s1) := tr 1 (by omega)
        have u4 : wr.cell? ⟨b1, o1 + k * 11 + 4, none⟩ = some (.int .i64 r2) := ur 2 (by omega)
        have t4 : wr.cell? ⟨b2, o2 + k * 11 + 4, none⟩ = some (.int .i64 s2) := tr 2 (by omega)
        have u5 : wr.cell? ⟨b1, o1 + k * 11 + 5, none⟩ = some (.int .i64 r3) := ur 3 (by omega)
        have t5 : wr.cell? ⟨b2, o2 + k * 11 + 5, none⟩ = some (.int .i64 s3) := tr 3 (by omega)
        have u6 : wr.cell? ⟨b1, o1 + k * 11 + 6, none⟩ = some (.int .i64 r4) := ur 4 (by omega)
        have t6 : wr.cell? ⟨b2, o2 + k * 11 + 6, none⟩ = some (.int .i64 s4) := tr 4 (by omega)
        have u7 : wr.cell? ⟨b1, o1 + k * 11 + 7, none⟩ = some (.int .i64 r5) := ur 5 (by omega)
        have t7 : wr.cell? ⟨b2, o2 + k * 11 + 7, none⟩ = some (.int .i64 s5) := tr 5 (by omega)
        have u8 : wr.cell? ⟨b1, o1 + k * 11 + 8, none⟩ = some (.int .i64 r6) := ur 6 (by omega)
        have t8 : wr.cell? ⟨b2, o2 + k * 11 + 8, none⟩ = some (.int .i64 s6) := tr 6 (by omega)
        have u9 : wr.cell? ⟨b1, o1 + k * 11 + 9, none⟩ = some (.int .i64 r7) := ur 7 (by omega)
        have t9 : wr.cell? ⟨b2, o2 + k * 11 + 9, none⟩ = some (.int .i64 s7) := tr 7 (by omega)
        clear hat1 hat2 hf hg e1 e2 ur tr
        have z0 : w.heap.size < wr.heap.size := Nat.lt_of_lt_of_le hz0 hbr.size
        have z1 : w.heap.size + 1 < wr.heap.size := Nat.lt_of_lt_of_le hz1 hbr.size
        have kl : (k : Int) < (y.F.length : Int) := by omega
        have kl2 : k < y.F.length := by omega
        go_upto_region 7 with (fail)
        go_cut [7] from 45 to 64 (fun s wx => s = .bool (frSame ⟨op, pc, [r0, r1, r2, r3, r4, r5, r6, r7], xs⟩ ⟨op2, pc2, [s0, s1, s2, s3, s4, s5, s6, s7], ys⟩) ∧ Below wr.heap.size wr wx)
        case first =>
          have hS : ∀ w', Below wr.heap.size wr w' → (Below wr.heap.size wr w' ∧ w'.cell? ⟨w.heap.size, 0, none⟩ = some (.slice (some ⟨b1, o1, none⟩) x.F.length cF) ∧ w'.cell? ⟨w.heap.size + 1, 0, none⟩ = some (.slice (some ⟨b2, o2, none⟩) y.F.length dF) ∧ w'.cell? ⟨b1, o1 + k * 11, none⟩ = some (.int .i64 op) ∧ w'.cell? ⟨b1, o1 + k * 11 + 1, none⟩ = some (.int .i64 pc) ∧ w'.cell? ⟨b1, o1 + k * 11 + 2, none⟩ = some (.int .i64 r0) ∧ w'.cell? ⟨b1, o1 + k * 11 + 3, none⟩ = some (.int .i64 r1) ∧ w'.cell? ⟨b1, o1 + k * 11 + 4, none⟩ = some (.int .i64 r2) ∧ w'.cell? ⟨b1, o1 + k * 11 + 5, none⟩ = some (.int .i64 r3) ∧ w'.cell? ⟨b1, o1 + k * 11 + 6, none⟩ = some (.int .i64 r4) ∧ w'.cell? ⟨b1, o1 + k * 11 + 7, none⟩ = some (.int .i64 r5) ∧ w'.cell? ⟨b1, o1 + k * 11 + 8, none⟩ = some (.int .i64 r6) ∧ w'.cell? ⟨b1, o1 + k * 11 + 9, none⟩ = some (.int .i64 r7) ∧ w'.cell? ⟨b1, o1 + k * 11 + 10, none⟩ = some (.slice AS xs.length cS) ∧ w'.cell? ⟨b2, o2 + k * 11, none⟩ = some (.int .i64 op2) ∧ w'.cell? ⟨b2, o2 + k * 11 + 1, none⟩ = some (.int .i64 pc2) ∧ w'.cell? ⟨b2, o2 + k * 11 + 2, none⟩ = some (.int .i64 s0) ∧ w'.cell? ⟨b2, o2 + k * 11 + 3, none⟩ = some (.int .i64 s1) ∧ w'.cell? ⟨b2, o2 + k * 11 + 4, none⟩ = some (.int .i64 s2) ∧ w'.cell? ⟨b2, o2 + k * 11 + 5, none⟩ = some (.int .i64 s3) ∧ w'.cell? ⟨b2, o2 + k * 11 + 6, none⟩ = some (.int .i64 s4) ∧ w'.cell? ⟨b2, o2 + k * 11 + 7, none⟩ = some (.int .i64 s5) ∧ w'.cell? ⟨b2, o2 + k * 11 + 8, none⟩ = some (.int .i64 s6) ∧ w'.cell? ⟨b2, o2 + k * 11 + 9, none⟩ = some (.int .i64 s7) ∧ w'.cell? ⟨b2, o2 + k * 11 + 10, none⟩ = some (.slice BS ys.length dS)) := fun w' h => ⟨h, (h.cell z0).trans c0, (h.cell z1).trans c1, (h.cell hb1r).trans u0, (h.cell hb1r).trans u1, (h.cell hb1r).trans u2, (h.cell hb1r).trans u3, (h.cell hb1r).trans u4, (h.cell hb1r).trans u5, (h.cell hb1r).trans u6, (h.cell hb1r).trans u7, (h.cell hb1r).trans u8, (h.cell hb1r).trans u9, (h.cell hb1r).trans u10, (h.cell hb2r).trans t0', (h.cell hb2r).trans t1', (h.cell hb2r).trans t2, (h.cell hb2r).trans t3, (h.cell hb2r).trans t4, (h.cell hb2r).trans t5, (h.cell hb2r).trans t6, (h.cell hb2r).trans t7, (h.cell hb2r).trans t8, (h.cell hb2r).trans t9, (h.cell hb2r).trans t10⟩
          go_region_held3 (fun w' => Below wr.heap.size wr w' ∧ w'.cell? ⟨w.heap.size, 0, none⟩ = some (.slice (some ⟨b1, o1, none⟩) x.F.length cF) ∧ w'.cell? ⟨w.heap.size + 1, 0, none⟩ = some (.slice (some ⟨b2, o2, none⟩) y.F.length dF) ∧ w'.cell? ⟨b1, o1 + k * 11, none⟩ = some (.int .i64 op) ∧ w'.cell? ⟨b1, o1 + k * 11 + 1, none⟩ = some (.int .i64 pc) ∧ w'.cell? ⟨b1, o1 + k * 11 + 2, none⟩ = some (.int .i64 r0) ∧ w'.cell? ⟨b1, o1 + k * 11 + 3, none⟩ = some (.int .i64 r1) ∧ w'.cell? ⟨b1, o1 + k * 11 + 4, none⟩ = some (.int .i64 r2) ∧ w'.cell? ⟨b1, o1 + k * 11 + 5, none⟩ = some (.int .i64 r3) ∧ w'.cell? ⟨b1, o1 + k * 11 + 6, none⟩ = some (.int .i64 r4) ∧ w'.cell? ⟨b1, o1 + k * 11 + 7, none⟩ = some (.int .i64 r5) ∧ w'.cell? ⟨b1, o1 + k * 11 + 8, none⟩ = some (.int .i64 r6) ∧ w'.cell? ⟨b1, o1 + k * 11 + 9, none⟩ = some (.int .i64 r7) ∧ w'.cell? ⟨b1, o1 + k * 11 + 10, none⟩ = some (.slice AS xs.length cS) ∧ w'.cell? ⟨b2, o2 + k * 11, none⟩ = some (.int .i64 op2) ∧ w'.cell? ⟨b2, o2 + k * 11 + 1, none⟩ = some (.int .i64 pc2) ∧ w'.cell? ⟨b2, o2 + k * 11 + 2, none⟩ = some (.int .i64 s0) ∧ w'.cell? ⟨b2, o2 + k * 11 + 3, none⟩ = some (.int .i64 s1) ∧ w'.cell? ⟨b2, o2 + k * 11 + 4, none⟩ = some (.int .i64 s2) ∧ w'.cell? ⟨b2, o2 + k * 11 + 5, none⟩ = some (.int .i64 s3) ∧ w'.cell? ⟨b2, o2 + k * 11 + 6, none⟩ = some (.int .i64 s4) ∧ w'.cell? ⟨b2, o2 + k * 11 + 7, none⟩ = some (.int .i64 s5) ∧ w'.cell? ⟨b2, o2 + k * 11 + 8, none⟩ = some (.int .i64 s6) ∧ w'.cell? ⟨b2, o2 + k * 11 + 9, none⟩ = some (.int .i64 s7) ∧ w'.cell? ⟨b2, o2 + k * 11 + 10, none⟩ = some (.slice BS ys.length dS)) (first | exact hS _ ((Below.refl _ _).drew) | exact hS _ (bstep ((Below.refl _ _).drew) hk1))
            (first
              | (go_at_call 88; (with_reducible refine (rframe_any _ _ _ _ op pc op2 pc2 r0 r1 r2 r3 r4 r5 r6 r7 s0 s1 s2 s3 s4 s5 s6 s7 xs ys _ (rS.step ((Below.refl _ _).drew)) (sS.step ((Below.refl _ _).drew)) hfS).mono ?_); rintro e wk1 ⟨rfl, hk1⟩))
          all_goals go_wp2_with fail
          all_goals go_meet
          all_goals exact ⟨rfl, bstep ((Below.refl _ _).drew) hk1⟩
        case rest =>
          obtain ⟨rfl, hk⟩ := hcut
          have hfs := frSame_eq ⟨op, pc, [r0, r1, r2, r3, r4, r5, r6, r7], xs⟩ ⟨op2, pc2, [s0, s1, s2, s3, s4, s5, s6, s7], ys⟩
          by_cases heq : (⟨op, pc, [r0, r1, r2, r3, r4, r5, r6, r7], xs⟩ : Fr) = ⟨op2, pc2, [s0, s1, s2, s3, s4, s5, s6, s7], ys⟩
          · rw [decide_eq_true heq] at hfs
            have HT2 := hid (lSame_more HF.out (by rw [heq]; exact HG.out) HT.out)
            clear heq
            go_wp2
            go_roundw
            case rel => exact ⟨k + 1, by omega, by go_num, HT2, bstep hbr hk⟩
            case measure => simp [intOf]; omega
          · rw [decide_eq_false heq] at hfs
            have HNE := hid heq
            clear heq
            go_wp2
            go_ret
            exact ⟨ret_bool (by rw [HC2.out, lSame_at HF.out HG.out HNE.out]), bstep hb (bstep hbr hk)⟩
      · go_wp2
        go_ret
        obtain rfl : k = x.F.length := by omega
        exact ⟨ret_bool (by rw [HC2.out, lSame_all T4.out HT.out]), bstep hb hbr⟩
  · have q' : mInts x.ret y.ret = false ∨ (mInts x.ret y.ret = true ∧ (x.v != y.v) = true) ∨ (mInts x.ret y.ret = true ∧ (x.v != y.v) = false ∧ (x.e != y.e) = true) ∨ (mInts x.ret y.ret = true ∧ (x.v != y.v) = false ∧ (x.e != y.e) = false ∧ z = false) ∨ (mInts x.ret y.ret = true ∧ (x.v != y.v) = false ∧ (x.e != y.e) = false ∧ z = true ∧ ((x.F.length : Int) != (y.F.length : Int)) = true) := by
      cases t0 : mInts x.ret y.ret
      · exact .inl rfl
      · cases t1 : (x.v != y.v)
        · cases t2 : (x.e != y.e)
          · cases z
            · simp
            · right; right; right; right
              refine ⟨rfl, rfl, rfl, rfl, ?_⟩
              have : ¬ x.F.length = y.F.length := fun h => hall ⟨t0, t1, t2, rfl, h⟩
              simp
              omega
          · simp
        · simp
    clear hall
    have fin : (mInts x.ret y.ret && (x.v == y.v) && (x.e == y.e) && z && lSame x.F y.F) = false → coSame x y = false := fun h => HC.out.trans h
    have Fin := hid fin
    clear fin HC
    rcases q' with t0 | ⟨t0, t1⟩ | ⟨t0, t1, t2⟩ | ⟨t0, t1, t2, t3⟩ | ⟨t0, t1, t2, t3, t4⟩
    all_goals
      go_enter Try.func58, Try.ntmps58
      go_wp2_with (go_at_call 25; refine (rints_any _ _ _ _ x.ret y.ret _ ((hR.alloc _).alloc _) ((kR.alloc _).alloc _) (by omega)).mono ?_; rintro e wk ⟨rfl, hk⟩; obtain ⟨gc, gf⟩ := bcell hk; have hz1 : w.heap.size + 1 < wk.heap.size := (by have := hk.size; simp at this; omega); have hz0 : w.heap.size < wk.heap.size := (by omega))
      go_ret
      refine ⟨ret_bool (Fin.out ?_).symm, bstep (bstep (boxed _ _) (boxed _ _)) hk⟩
      first
        | (rw [t0]; rfl; done)
        | (rw [show (x.v == y.v) = false by simpa using t1]; simp; done)
        | (rw [show (x.e == y.e) = false by simpa using t2]; simp; done)
        | (rw [t3]; simp; done)
        | (subst t3; simp; done)
        | (rw [lSame_len (by have := t4; simp at this; omega)]; simp; done)
end Go.Proofs.Ytpagekhgeahmaaa
