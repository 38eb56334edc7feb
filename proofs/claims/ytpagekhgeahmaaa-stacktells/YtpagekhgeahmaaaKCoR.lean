/- Contracts: right systems, by the program. -/
import Derived.Test.YtpagekhgeahmaaaKCoA
import Derived.Test.YtpagekhgeahmaaaKRef
import Derived.Test.YtpagekhgeahmaaaKBas

namespace Go.Proofs.Ytpagekhgeahmaaa
open Go.RowKit
set_option linter.unusedVariables false
set_option linter.unusedSimpArgs false

/-- What the program asks of a frame. -/
def frB (f : Fr) : Bool := frFew f && frNear f
theorem all_frB (l : List Fr) : l.all frB = (l.all frFew && l.all frNear) := by
  induction l with
  | nil => rfl
  | cons a t ih =>
    simp only [List.all_cons, ih, frB]
    cases frFew a <;> cases frNear a <;> cases t.all frFew <;> cases t.all frNear <;> rfl
theorem coRight_prog (x : Co) : coRight x = (decide (x.F.length ≤ 40) && decide (x.ret.length ≤ 200) && near x.v && [x.x0, x.x1, x.x2].all near && x.F.all frB) := by
  rw [all_frB]
  unfold coRight coNear
  simp only [List.all_cons, List.all_nil]
  cases near x.v <;> cases near x.x0 <;> cases near x.x1 <;> cases near x.x2 <;> cases decide (x.F.length ≤ 40) <;> cases decide (x.ret.length ≤ 200) <;> cases x.F.all frFew <;> cases x.F.all frNear <;> rfl

theorem near1_any (n : Int) (w : World) : Calls Try.prog 114 #[.int .i64 n] w fun e w' => e = .returned (.bool (near n)) ∧ w = w' := by
  go_enter Try.func114, Try.ntmps114
  go_wp2
  all_goals
    go_ret
    exact ⟨ret_bool (by rw [Bool.eq_iff_iff]; simp [near]; omega), rfl⟩

set_option maxHeartbeats 1000000 in
theorem allI_any (A : Option Addr) (c : Nat) (xs : List Int) (w : World) (hA : Row w A xs) (h0 : xs.length ≤ 1000000) :
    Calls Try.prog 113 #[.slice A xs.length c, .func (.func 114) #[] #[]] w fun e w' => e = .returned (.bool (xs.all near)) ∧ w = w' := by
  go_enter Try.func113, Try.ntmps113
  go_wp2
  go_loop [9] (fun i => ∃ k : Nat, k ≤ xs.length ∧ i = .int .i64 k ∧ Hid ((xs.take k).all near = true)) (fun i => xs.length - (intOf i).toNat)
  case atStart => exact ⟨0, Nat.zero_le _, rfl, hid rfl⟩
  case round =>
    obtain ⟨k, hk, rfl, HT⟩ := hrel
    by_cases hlt : k < xs.length
    · obtain ⟨b, o, rfl, hb, hc⟩ := hA.atE k hlt
      obtain ⟨z, hz⟩ : ∃ z, xs[k] = z := ⟨_, rfl⟩
      rw [hz] at hc
      have HZ : Hid (xs[k]? = some z) := by show _ = _; rw [List.getElem?_eq_getElem hlt, hz]
      clear hz
      cases q : near z
      · go_wp2_with (go_at_call 114; refine (near1_any _ _).mono ?_; rintro e w' ⟨rfl, rfl⟩)
        go_ret
        exact ⟨ret_bool (all_bad HZ.out q).symm, rfl⟩
      · go_wp2_with (go_at_call 114; refine (near1_any _ _).mono ?_; rintro e w' ⟨rfl, rfl⟩)
        go_round
        case rel => exact ⟨k + 1, by omega, by go_num, hid (all_more HZ.out HT.out q)⟩
        case measure => simp [intOf]; omega
    · go_wp2
      go_ret
      exact ⟨ret_bool (all_full (by omega) HT.out).symm, rfl⟩

theorem pnear_any (A : Option Addr) (c : Nat) (xs : List Int) (w : World) (hA : Row w A xs) (h0 : xs.length ≤ 1000000) :
    Calls Try.prog 90 #[.slice A xs.length c] w fun e w' => e = .returned (.bool (xs.all near)) ∧ w = w' := by
  have hmf : ∀ (fn : Fn) (first cap : Array Value) (w : World), (Instr.makeFunc fn first cap).run Try.prog w = .ok (.func fn first cap) w := fun _ _ _ _ => rfl
  go_enter Try.func90, Try.ntmps90
  go_wp2_with (go_at_call 113; refine (allI_any _ _ xs _ hA h0).mono ?_; rintro e w' ⟨rfl, rfl⟩)
  go_ret
  exact ⟨rfl, rfl⟩

theorem rowIn (w : World) (cs : Array Value) (t : TypeId) (o : Nat) (xs : List Int) (h : ∀ j x, xs[j]? = some x → cs[o + j]? = some (.int .i64 x)) : Row (w.alloc (.cells cs t)) (some ⟨w.heap.size, o, none⟩) xs := fun hn =>
  ⟨_, _, rfl, by simp, fun j x hx => by rw [cell_of_row _ _ _ _ _ _ (heap_alloc_new w _)]; exact h j x hx⟩
theorem at8 {xs : List Int} {r0 r1 r2 r3 r4 r5 r6 r7 : Int} {op pc v : Value} (hxs : xs = [r0, r1, r2, r3, r4, r5, r6, r7]) : ∀ j x, xs[j]? = some x → (#[op, pc, .int .i64 r0, .int .i64 r1, .int .i64 r2, .int .i64 r3, .int .i64 r4, .int .i64 r5, .int .i64 r6, .int .i64 r7, v] : Array Value)[2 + j]? = some (.int .i64 x) := fun j x hx => by
  subst hxs
  have hj : j < 8 := by have := (List.getElem?_eq_some_iff.1 hx).1; simpa using this
  match j, hj with
  | 0, _ => simp at hx; subst hx; rfl
  | 1, _ => simp at hx; subst hx; rfl
  | 2, _ => simp at hx; subst hx; rfl
  | 3, _ => simp at hx; subst hx; rfl
  | 4, _ => simp at hx; subst hx; rfl
  | 5, _ => simp at hx; subst hx; rfl
  | 6, _ => simp at hx; subst hx; rfl
  | 7, _ => simp at hx; subst hx; rfl
theorem at3 {a b c : Int} {f v e r : Value} : ∀ j x, ([a, b, c] : List Int)[j]? = some x → (#[f, v, e, .int .i64 a, .int .i64 b, .int .i64 c, r] : Array Value)[3 + j]? = some (.int .i64 x) := fun j x hx => by
  have hj : j < 3 := by have := (List.getElem?_eq_some_iff.1 hx).1; simpa using this
  match j, hj with
  | 0, _ => simp at hx; subst hx; rfl
  | 1, _ => simp at hx; subst hx; rfl
  | 2, _ => simp at hx; subst hx; rfl

set_option maxRecDepth 100000 in
set_option maxHeartbeats 1000000 in
theorem rightFrame_any (AS : Option Addr) (cS : Nat) (op pc r0 r1 r2 r3 r4 r5 r6 r7 : Int) (xs : List Int) (w : World) (h0 : xs.length ≤ 1000000) :
    Calls Try.prog 92 #[.agg #[.int .i64 op, .int .i64 pc, .int .i64 r0, .int .i64 r1, .int .i64 r2, .int .i64 r3, .int .i64 r4, .int .i64 r5, .int .i64 r6, .int .i64 r7, .slice AS xs.length cS]] w fun e w' => e = .returned (.bool (frB ⟨op, pc, [r0, r1, r2, r3, r4, r5, r6, r7], xs⟩)) ∧ Below w.heap.size w w' := by
  have hB : frB ⟨op, pc, [r0, r1, r2, r3, r4, r5, r6, r7], xs⟩ = (decide (xs.length ≤ 24) && [r0, r1, r2, r3, r4, r5, r6, r7].all near) := rfl
  have HB := hid hB
  clear hB
  have hR : Row (w.alloc (.cells #[.int .i64 op, .int .i64 pc, .int .i64 r0, .int .i64 r1, .int .i64 r2, .int .i64 r3, .int .i64 r4, .int .i64 r5, .int .i64 r6, .int .i64 r7, .slice AS xs.length cS] 42)) (some ⟨w.heap.size, 2, none⟩) [r0, r1, r2, r3, r4, r5, r6, r7] := rowIn w _ _ 2 _ (at8 rfl)
  by_cases q : xs.length ≤ 24
  · go_enter Try.func92, Try.ntmps92
    go_wp2_with (go_at_call 90; refine (pnear_any _ _ [r0, r1, r2, r3, r4, r5, r6, r7] _ hR (by simp)).mono ?_; rintro e w' ⟨rfl, rfl⟩)
    go_ret
    exact ⟨ret_bool (by rw [HB.out, decide_eq_true q]; simp), boxed _ _⟩
  · go_enter Try.func92, Try.ntmps92
    go_wp2
    go_ret
    exact ⟨ret_bool (by rw [HB.out, decide_eq_false q]; rfl), boxed _ _⟩

set_option maxRecDepth 100000 in
set_option maxHeartbeats 2000000 in
theorem allF_any (A : Option Addr) (c : Nat) (fs : List Fr) (w : World) (hF : RowF w A fs) (h0 : fs.length ≤ 1000000) (h1 : ∀ f ∈ fs, f.S.length ≤ 1000000) :
    Calls Try.prog 91 #[.slice A fs.length c, .func (.func 92) #[] #[]] w fun e w' => e = .returned (.bool (fs.all frB)) ∧ Below w.heap.size w w' := by
  have H1 := hid h1
  clear h1
  go_enter Try.func91, Try.ntmps91
  go_wp2
  go_loopw [9] (fun i wr => ∃ k : Nat, k ≤ fs.length ∧ i = .int .i64 k ∧ Hid ((fs.take k).all frB = true) ∧ Below w.heap.size w wr) (fun i _ => fs.length - (intOf i).toNat)
  case atStart => exact ⟨0, Nat.zero_le _, rfl, hid rfl, Below.refl _ _⟩
  case round =>
    obtain ⟨k, hk, rfl, HT, hbr⟩ := hrel
    by_cases hlt : k < fs.length
    · obtain ⟨b, o, rfl, hb, hat⟩ := hF (by omega)
      obtain ⟨f, hf⟩ : ∃ f, fs[k]? = some f := ⟨_, List.getElem?_eq_getElem hlt⟩
      obtain ⟨⟨AS, cS⟩, h8, hc0, rS⟩ := ((hat k f hf).step hb hbr).cs
      have hfS := H1.out f (List.mem_of_getElem? hf)
      have HF := hid hf
      clear hat hf
      obtain ⟨op, pc, Rs, xs⟩ := f
      dsimp only at h8 hfS rS
      obtain ⟨r0, r1, r2, r3, r4, r5, r6, r7, rfl⟩ := fr8 h8
      have hc : ∀ r v, (frCells ⟨op, pc, [r0, r1, r2, r3, r4, r5, r6, r7], xs⟩ (AS, cS))[r]? = some v → wr.cell? ⟨b, o + k * 11 + r, none⟩ = some v := hc0
      have u0 : wr.cell? ⟨b, o + k * 11, none⟩ = some (.int .i64 op) := hc 0 _ rfl
      have u1 : wr.cell? ⟨b, o + k * 11 + 1, none⟩ = some (.int .i64 pc) := hc 1 _ rfl
      have u2 : wr.cell? ⟨b, o + k * 11 + 2, none⟩ = some (.int .i64 r0) := hc 2 _ rfl
      have u3 : wr.cell? ⟨b, o + k * 11 + 3, none⟩ = some (.int .i64 r1) := hc 3 _ rfl
      have u4 : wr.cell? ⟨b, o + k * 11 + 4, none⟩ = some (.int .i64 r2) := hc 4 _ rfl
      have u5 : wr.cell? ⟨b, o + k * 11 + 5, none⟩ = some (.int .i64 r3) := hc 5 _ rfl
      have u6 : wr.cell? ⟨b, o + k * 11 + 6, none⟩ = some (.int .i64 r4) := hc 6 _ rfl
      have u7 : wr.cell? ⟨b, o + k * 11 + 7, none⟩ = some (.int .i64 r5) := hc 7 _ rfl
      have u8 : wr.cell? ⟨b, o + k * 11 + 8, none⟩ = some (.int .i64 r6) := hc 8 _ rfl
      have u9 : wr.cell? ⟨b, o + k * 11 + 9, none⟩ = some (.int .i64 r7) := hc 9 _ rfl
      have u10 : wr.cell? ⟨b, o + k * 11 + 10, none⟩ = some (.slice AS xs.length cS) := hc 10 _ rfl
      clear hc hc0 h8
      have kl : (k : Int) < (fs.length : Int) := by omega
      cases q : frB ⟨op, pc, [r0, r1, r2, r3, r4, r5, r6, r7], xs⟩
      · go_wp2_with (go_at_call 92; refine (rightFrame_any AS cS op pc r0 r1 r2 r3 r4 r5 r6 r7 xs _ hfS).mono ?_; rintro e wk ⟨rfl, hk2⟩)
        go_ret
        exact ⟨ret_bool (all_bad HF.out q).symm, bstep hbr (bstep (boxed _ _) hk2)⟩
      · go_wp2_with (go_at_call 92; refine (rightFrame_any AS cS op pc r0 r1 r2 r3 r4 r5 r6 r7 xs _ hfS).mono ?_; rintro e wk ⟨rfl, hk2⟩)
        go_roundw
        case rel => exact ⟨k + 1, by omega, by go_num, hid (all_more HF.out HT.out q), bstep hbr (bstep (boxed _ _) hk2)⟩
        case measure => simp [intOf]; omega
    · go_wp2
      go_ret
      exact ⟨ret_bool (all_full (by omega) HT.out).symm, hbr⟩
end Go.Proofs.Ytpagekhgeahmaaa

/- Contracts: right cores and systems, by the program. -/
namespace Go.Proofs.Ytpagekhgeahmaaa
open Go.RowKit
set_option linter.unusedVariables false
set_option linter.unusedSimpArgs false

set_option maxRecDepth 100000 in
set_option maxHeartbeats 2000000 in
theorem rightCore_any (AF AR : Option Addr) (cF cR : Nat) (x : Co) (w : World) (hF : RowF w AF x.F) (h0 : x.F.length ≤ 1000000) (h1 : x.ret.length ≤ 1000000) (h2 : ∀ f ∈ x.F, f.S.length ≤ 1000000) :
    Calls Try.prog 61 #[.agg #[.slice AF x.F.length cF, .int .i64 x.v, .int .i64 x.e, .int .i64 x.x0, .int .i64 x.x1, .int .i64 x.x2, .slice AR x.ret.length cR]] w fun e w' => e = .returned (.bool (coRight x)) ∧ Below w.heap.size w w' := by
  have HC := hid (coRight_prog x)
  have hX : Row ((w.alloc (.cells #[.slice AF x.F.length cF, .int .i64 x.v, .int .i64 x.e, .int .i64 x.x0, .int .i64 x.x1, .int .i64 x.x2, .slice AR x.ret.length cR] 65)).alloc (.cells #[.int .i64 x.v] 3)) (some ⟨w.heap.size, 3, none⟩) [x.x0, x.x1, x.x2] := (rowIn w _ _ 3 _ at3).alloc _
  have hV : Row ((w.alloc (.cells #[.slice AF x.F.length cF, .int .i64 x.v, .int .i64 x.e, .int .i64 x.x0, .int .i64 x.x1, .int .i64 x.x2, .slice AR x.ret.length cR] 65)).alloc (.cells #[.int .i64 x.v] 3)) (some ⟨(w.alloc (.cells #[.slice AF x.F.length cF, .int .i64 x.v, .int .i64 x.e, .int .i64 x.x0, .int .i64 x.x1, .int .i64 x.x2, .slice AR x.ret.length cR] 65)).heap.size, 0, none⟩) [x.v] := rowIn _ _ _ 0 _ (fun j y hy => by match j, hy with | 0, hy => simp at hy; subst hy; rfl)
  rw [show (w.alloc (.cells #[.slice AF x.F.length cF, .int .i64 x.v, .int .i64 x.e, .int .i64 x.x0, .int .i64 x.x1, .int .i64 x.x2, .slice AR x.ret.length cR] 65)).heap.size = w.heap.size + 1 by simp] at hV
  have H2 := hid h2
  clear h2
  by_cases q1 : x.F.length ≤ 40
  · by_cases q2 : x.ret.length ≤ 200
    · cases q3 : near x.v
      · have hv1 : [x.v].all near = false := by simp [q3]
        rw [decide_eq_true q1, decide_eq_true q2, q3] at HC
        go_enter Try.func61, Try.ntmps61
        go_wp2_with fail
        refine (pnear_any _ _ [x.v] _ hV (by simp)).mono ?_
        rintro e w' ⟨rfl, rfl⟩
        rw [hv1]
        go_wp2
        go_ret
        exact ⟨ret_bool (by rw [HC.out]; rfl), bstep (boxed _ _) (boxed _ _)⟩
      · have hv1 : [x.v].all near = true := by simp [q3]
        cases q4 : [x.x0, x.x1, x.x2].all near
        · rw [decide_eq_true q1, decide_eq_true q2, q3, q4] at HC
          have Q4 := hid q4
          clear q4
          go_enter Try.func61, Try.ntmps61
          go_wp2_with fail
          refine (pnear_any _ _ [x.v] _ hV (by simp)).mono ?_
          rintro e w' ⟨rfl, rfl⟩
          rw [hv1]
          go_wp2_with fail
          refine (pnear_any _ _ [x.x0, x.x1, x.x2] _ hX (by simp)).mono ?_
          rintro e w' ⟨rfl, rfl⟩
          rw [Q4.out]
          go_wp2
          go_ret
          exact ⟨ret_bool (by rw [HC.out]; rfl), bstep (boxed _ _) (boxed _ _)⟩
        · rw [decide_eq_true q1, decide_eq_true q2, q3, q4] at HC
          have Q4 := hid q4
          clear q4
          go_enter Try.func61, Try.ntmps61
          go_wp2_with fail
          refine (pnear_any _ _ [x.v] _ hV (by simp)).mono ?_
          rintro e w' ⟨rfl, rfl⟩
          rw [hv1]
          go_wp2_with fail
          refine (pnear_any _ _ [x.x0, x.x1, x.x2] _ hX (by simp)).mono ?_
          rintro e w' ⟨rfl, rfl⟩
          rw [Q4.out]
          go_wp2_with fail
          refine (allF_any _ _ x.F _ ((hF.step (boxed _ _)).step (boxed _ _)) h0 H2.out).mono ?_
          rintro e wk ⟨rfl, hk⟩
          go_wp2
          go_ret
          exact ⟨ret_bool (by rw [HC.out]; rfl), bstep (bstep (boxed _ _) (boxed _ _)) hk⟩
    · rw [decide_eq_true q1, decide_eq_false q2] at HC
      go_enter Try.func61, Try.ntmps61
      go_wp2
      go_ret
      exact ⟨ret_bool (by rw [HC.out]; rfl), boxed _ _⟩
  · rw [decide_eq_false q1] at HC
    go_enter Try.func61, Try.ntmps61
    go_wp2
    go_ret
    exact ⟨ret_bool (by rw [HC.out]; rfl), boxed _ _⟩

set_option maxRecDepth 100000 in
set_option maxHeartbeats 2000000 in
theorem allC_any (A : Option Addr) (c : Nat) (cs : List Co) (w : World) (hC : RowC w A cs) (h0 : cs.length ≤ 1000000) (h1 : ∀ x ∈ cs, x.ret.length ≤ 1000000 ∧ x.F.length ≤ 1000000 ∧ ∀ f ∈ x.F, f.S.length ≤ 1000000) :
    Calls Try.prog 60 #[.slice A cs.length c, .func (.func 61) #[] #[]] w fun e w' => e = .returned (.bool (cs.all coRight)) ∧ Below w.heap.size w w' := by
  have H1 := hid h1
  clear h1
  go_enter Try.func60, Try.ntmps60
  go_wp2
  go_loopw [9] (fun i wr => ∃ k : Nat, k ≤ cs.length ∧ i = .int .i64 k ∧ Hid ((cs.take k).all coRight = true) ∧ Below w.heap.size w wr) (fun i _ => cs.length - (intOf i).toNat)
  case atStart => exact ⟨0, Nat.zero_le _, rfl, hid rfl, Below.refl _ _⟩
  case round =>
    obtain ⟨k, hk, rfl, HT, hbr⟩ := hrel
    by_cases hlt : k < cs.length
    · obtain ⟨b, o, rfl, hb, hat⟩ := hC (by omega)
      obtain ⟨x, hx⟩ : ∃ x, cs[k]? = some x := ⟨_, List.getElem?_eq_getElem hlt⟩
      obtain ⟨AF, AR, cF, cR, hc, rF, rR⟩ := ((hat k x hx).step hb hbr).cs
      obtain ⟨y1, y2, y3⟩ := H1.out x (List.mem_of_getElem? hx)
      have HX := hid hx
      have HY := hid y3
      clear hat hx y3
      have u0 : wr.cell? ⟨b, o + k * 7, none⟩ = some (.slice AF x.F.length cF) := hc 0 _ rfl
      have u1 : wr.cell? ⟨b, o + k * 7 + 1, none⟩ = some (.int .i64 x.v) := hc 1 _ rfl
      have u2 : wr.cell? ⟨b, o + k * 7 + 2, none⟩ = some (.int .i64 x.e) := hc 2 _ rfl
      have u3 : wr.cell? ⟨b, o + k * 7 + 3, none⟩ = some (.int .i64 x.x0) := hc 3 _ rfl
      have u4 : wr.cell? ⟨b, o + k * 7 + 4, none⟩ = some (.int .i64 x.x1) := hc 4 _ rfl
      have u5 : wr.cell? ⟨b, o + k * 7 + 5, none⟩ = some (.int .i64 x.x2) := hc 5 _ rfl
      have u6 : wr.cell? ⟨b, o + k * 7 + 6, none⟩ = some (.slice AR x.ret.length cR) := hc 6 _ rfl
      clear hc
      have kl : (k : Int) < (cs.length : Int) := by omega
      cases q : coRight x
      · go_wp2_with (go_at_call 61; refine (rightCore_any AF AR cF cR x _ (rF.step (boxed _ _)) y2 y1 HY.out).mono ?_; rintro e wk ⟨rfl, hk2⟩)
        go_ret
        exact ⟨ret_bool (all_bad HX.out q).symm, bstep hbr (bstep (boxed _ _) hk2)⟩
      · go_wp2_with (go_at_call 61; refine (rightCore_any AF AR cF cR x _ (rF.step (boxed _ _)) y2 y1 HY.out).mono ?_; rintro e wk ⟨rfl, hk2⟩)
        go_roundw
        case rel => exact ⟨k + 1, by omega, by go_num, hid (all_more HX.out HT.out q), bstep hbr (bstep (boxed _ _) hk2)⟩
        case measure => simp [intOf]; omega
    · go_wp2
      go_ret
      exact ⟨ret_bool (all_full (by omega) HT.out).symm, hbr⟩

set_option maxHeartbeats 2000000 in
theorem right3_any (A B AC AL : Option Addr) (c d cC cL : Nat) (s : Sy) (w : World) (hG : Row w B s.M.G) (hC : RowC w AC s.C) (h0 : s.M.G.length ≤ 1000000) (h1 : s.M.W.length ≤ 1000000) (h2 : s.C.length ≤ 1000000) (h3 : ∀ x ∈ s.C, x.ret.length ≤ 1000000 ∧ x.F.length ≤ 1000000 ∧ ∀ f ∈ x.F, f.S.length ≤ 1000000) :
    Calls Try.prog 21 #[.agg #[.slice A s.M.W.length c, .slice B s.M.G.length d, .bool s.M.bad, .slice AC s.C.length cC, .slice AL s.L.length cL]] w fun e w' => e = .returned (.bool (syRight s)) ∧ Below w.heap.size w w' := by
  have HS := hid (show syRight s = (mRight s.M && decide (1 ≤ s.C.length) && decide (s.C.length ≤ 8) && s.C.all coRight) from rfl)
  have H3 := hid h3
  clear h3
  cases q0 : mRight s.M
  · rw [q0] at HS
    go_enter Try.func21, Try.ntmps21
    go_wp2_with (go_at_call 59; refine (right_any _ _ _ _ s.M _ (hG.alloc _) (by omega) (by omega)).mono ?_; rintro e wk ⟨rfl, hk⟩; obtain ⟨gc, gf⟩ := bcell hk; have hz : w.heap.size < wk.heap.size := (by have := hk.size; simp at this; omega))
    go_ret
    exact ⟨ret_bool (by rw [HS.out]; rfl), bstep (boxed _ _) hk⟩
  · by_cases q1 : 1 ≤ s.C.length
    · by_cases q2 : s.C.length ≤ 8
      · rw [q0, decide_eq_true q1, decide_eq_true q2] at HS
        go_enter Try.func21, Try.ntmps21
        go_wp2_with (first
          | (go_at_call 59; refine (right_any _ _ _ _ s.M _ (hG.alloc _) (by omega) (by omega)).mono ?_; rintro e wk ⟨rfl, hk⟩; obtain ⟨gc, gf⟩ := bcell hk; have hz : w.heap.size < wk.heap.size := (by have := hk.size; simp at this; omega))
          | (go_at_call 60; refine (allC_any _ _ s.C _ ((hC.step (boxed _ _)).step hk) h2 H3.out).mono ?_; rintro e wl ⟨rfl, hl⟩))
        go_ret
        exact ⟨ret_bool (by rw [HS.out]; rfl), bstep (bstep (boxed _ _) hk) hl⟩
      · rw [q0, decide_eq_true q1, decide_eq_false q2] at HS
        go_enter Try.func21, Try.ntmps21
        go_wp2_with (go_at_call 59; refine (right_any _ _ _ _ s.M _ (hG.alloc _) (by omega) (by omega)).mono ?_; rintro e wk ⟨rfl, hk⟩; obtain ⟨gc, gf⟩ := bcell hk; have hz : w.heap.size < wk.heap.size := (by have := hk.size; simp at this; omega))
        go_ret
        exact ⟨ret_bool (by rw [HS.out]; rfl), bstep (boxed _ _) hk⟩
    · rw [q0, decide_eq_false q1] at HS
      go_enter Try.func21, Try.ntmps21
      go_wp2_with (go_at_call 59; refine (right_any _ _ _ _ s.M _ (hG.alloc _) (by omega) (by omega)).mono ?_; rintro e wk ⟨rfl, hk⟩; obtain ⟨gc, gf⟩ := bcell hk; have hz : w.heap.size < wk.heap.size := (by have := hk.size; simp at this; omega))
      go_ret
      exact ⟨ret_bool (by rw [HS.out]; rfl), bstep (boxed _ _) hk⟩
end Go.Proofs.Ytpagekhgeahmaaa
