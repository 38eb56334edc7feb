/- core.Top tells a frame whose list has room for it. -/
import Derived.Test.YthpflcknommpdaaKCpy
import Derived.Test.YthpflcknommpdaaKCoT
import Derived.Test.YthpflcknommpdaaStk9
namespace Go.Proofs.Ythpflcknommpdaa
open Go.RowKit
set_option linter.unusedVariables false
set_option linter.unusedSimpArgs false

set_option maxRecDepth 100000 in
set_option maxHeartbeats 2000000 in
theorem copiedFrame_cap (A : Option Addr) (c : Nat) (op pc r0 r1 r2 r3 r4 r5 r6 r7 : Int) (xs : List Int) (w : World) (hA : Row w A xs) (hl : xs.length ≤ 1000000) :
    Calls Try.prog 75 #[.agg #[.int .i64 op, .int .i64 pc, .int .i64 r0, .int .i64 r1, .int .i64 r2, .int .i64 r3, .int .i64 r4, .int .i64 r5, .int .i64 r6, .int .i64 r7, .slice A xs.length c]] w fun e w' =>
      ∃ A' c', e = .returned (.agg #[.int .i64 op, .int .i64 pc, .int .i64 r0, .int .i64 r1, .int .i64 r2, .int .i64 r3, .int .i64 r4, .int .i64 r5, .int .i64 r6, .int .i64 r7, .slice A' xs.length c']) ∧ (RowI (fun b => w.heap.size ≤ b) w' A' xs ∧ xs.length ≤ c') ∧ Below w.heap.size w w' := by
  go_enter Try.func75, Try.ntmps75
  go_wp2_with (go_at_call 97; refine (cloneInt _ _ _ (xs.map inCells) _ (((hA.alloc _).alloc _).src) (by simp) hl).mono ?_; rintro e wk ⟨v, rfl, ho, hk⟩; obtain ⟨A', c', rfl, hr⟩ := own_rowI ho rfl; have hcp : xs.length ≤ c' := own_cap ho; obtain ⟨gc, gf⟩ := bcell hk; have hz : w.heap.size + 1 < wk.heap.size := (by have := hk.size; simp at this; omega); have hz0 : w.heap.size < wk.heap.size := (by omega); have p10 : wk.cell? ⟨w.heap.size, 10, none⟩ = some (.slice A xs.length c) := (by rw [gc _ _ (by simp; omega)]; simp [go_sem]); have q0 : wk.cell? ⟨w.heap.size + 1, 0, none⟩ = some (.int .i64 0) := (by rw [gc _ _ (by simp)]; simp [go_sem]); have q1 : wk.cell? ⟨w.heap.size + 1, 1, none⟩ = some (.int .i64 0) := (by rw [gc _ _ (by simp)]; simp [go_sem]); have q2 : wk.cell? ⟨w.heap.size + 1, 2, none⟩ = some (.int .i64 0) := (by rw [gc _ _ (by simp)]; simp [go_sem]); have q3 : wk.cell? ⟨w.heap.size + 1, 3, none⟩ = some (.int .i64 0) := (by rw [gc _ _ (by simp)]; simp [go_sem]); have q4 : wk.cell? ⟨w.heap.size + 1, 4, none⟩ = some (.int .i64 0) := (by rw [gc _ _ (by simp)]; simp [go_sem]); have q5 : wk.cell? ⟨w.heap.size + 1, 5, none⟩ = some (.int .i64 0) := (by rw [gc _ _ (by simp)]; simp [go_sem]); have q6 : wk.cell? ⟨w.heap.size + 1, 6, none⟩ = some (.int .i64 0) := (by rw [gc _ _ (by simp)]; simp [go_sem]); have q7 : wk.cell? ⟨w.heap.size + 1, 7, none⟩ = some (.int .i64 0) := (by rw [gc _ _ (by simp)]; simp [go_sem]); have q8 : wk.cell? ⟨w.heap.size + 1, 8, none⟩ = some (.int .i64 0) := (by rw [gc _ _ (by simp)]; simp [go_sem]); have q9 : wk.cell? ⟨w.heap.size + 1, 9, none⟩ = some (.int .i64 0) := (by rw [gc _ _ (by simp)]; simp [go_sem]); have q10 : wk.cell? ⟨w.heap.size + 1, 10, none⟩ = some (.slice none 0 0) := (by rw [gc _ _ (by simp)]; simp [go_sem]))
  refine bodyPost_ret (v := .agg #[.int .i64 op, .int .i64 pc, .int .i64 r0, .int .i64 r1, .int .i64 r2, .int .i64 r3, .int .i64 r4, .int .i64 r5, .int .i64 r6, .int .i64 r7, .slice A' xs.length c']) (by simp [results, Try.results75, go_sem, q0, q1, q2, q3, q4, q5, q6, q7, q8, q9, q10]) rfl ?_
  have key : ∀ w', Turn (fun b => b = w.heap.size ∨ b = w.heap.size + 1) wk w' → (RowI (fun b => w.heap.size ≤ b) w' A' xs ∧ xs.length ≤ c') ∧ Below w.heap.size w w' := fun w' hT =>
    ⟨⟨(hr.turn hT (fun b _ hb => by simp at hb; omega)).mono (fun b _ hb => by simp at hb; omega), hcp⟩, (bstep (boxed _ _) (boxed _ _)).trans ((hk.mono (by simp; omega)).trans (hT.to_below (by omega) (fun g hg => by omega)))⟩
  refine ⟨A', c', rfl, ?_⟩
  exact key _ (by repeat (first | (with_reducible exact Turn.refl _ _) | (with_reducible refine Turn.set ?_ (by simp) _ _)))

set_option maxRecDepth 100000 in
set_option maxHeartbeats 8000000 in
/-- A core with frames: the last of them, and true. -/
theorem top_yesC (A B AC AL : Option Addr) (c d cC cL : Nat) (s : Sy) (k n : Nat) (x : Co) (op pc r0 r1 r2 r3 r4 r5 r6 r7 : Int) (xs : List Int) (w : World) (hC : RowC w AC s.C) (h2 : s.C.length ≤ 1000000) (hx : s.C[k]? = some x) (hn : x.F.length = n + 1) (h3 : n ≤ 999999) (h4 : xs.length ≤ 1000000) (hf : x.F[n]? = some ⟨op, pc, [r0, r1, r2, r3, r4, r5, r6, r7], xs⟩) :
    Calls Try.prog 42 #[.agg #[.slice A s.M.W.length c, .slice B s.M.G.length d, .bool s.M.bad, .slice AC s.C.length cC, .slice AL s.L.length cL], .int .i64 k] w fun e w' => ∃ A' c', e = .returned (.tuple #[.agg #[.int .i64 op, .int .i64 pc, .int .i64 r0, .int .i64 r1, .int .i64 r2, .int .i64 r3, .int .i64 r4, .int .i64 r5, .int .i64 r6, .int .i64 r7, .slice A' xs.length c'], .bool true]) ∧ Row w' A' xs ∧ xs.length ≤ c' ∧ Below w.heap.size w w' := by
  have hlt : k < s.C.length := (List.getElem?_eq_some_iff.1 hx).1
  obtain ⟨b, o, rfl, hbl, hat⟩ := hC (by omega)
  obtain ⟨⟨AF, cF, c0, rF, _⟩, _⟩ := hat k x hx
  obtain ⟨g, o1, rfl, hgl, hat1⟩ := rF (by omega)
  obtain ⟨⟨AS, cS⟩, _, hc, rS⟩ := (hat1 n _ hf).cs
  dsimp only at rS
  have u0 : w.cell? ⟨g, o1 + n * 11, none⟩ = some (.int .i64 op) := hc 0 _ rfl
  have u1 : w.cell? ⟨g, o1 + n * 11 + 1, none⟩ = some (.int .i64 pc) := hc 1 _ rfl
  have u2 : w.cell? ⟨g, o1 + n * 11 + 2, none⟩ = some (.int .i64 r0) := hc 2 _ rfl
  have u3 : w.cell? ⟨g, o1 + n * 11 + 3, none⟩ = some (.int .i64 r1) := hc 3 _ rfl
  have u4 : w.cell? ⟨g, o1 + n * 11 + 4, none⟩ = some (.int .i64 r2) := hc 4 _ rfl
  have u5 : w.cell? ⟨g, o1 + n * 11 + 5, none⟩ = some (.int .i64 r3) := hc 5 _ rfl
  have u6 : w.cell? ⟨g, o1 + n * 11 + 6, none⟩ = some (.int .i64 r4) := hc 6 _ rfl
  have u7 : w.cell? ⟨g, o1 + n * 11 + 7, none⟩ = some (.int .i64 r5) := hc 7 _ rfl
  have u8 : w.cell? ⟨g, o1 + n * 11 + 8, none⟩ = some (.int .i64 r6) := hc 8 _ rfl
  have u9 : w.cell? ⟨g, o1 + n * 11 + 9, none⟩ = some (.int .i64 r7) := hc 9 _ rfl
  have u10 : w.cell? ⟨g, o1 + n * 11 + 10, none⟩ = some (.slice AS xs.length cS) := hc 10 _ rfl
  clear hat hat1 hc hf
  have HX := hid hx
  clear hx
  have hpos : decide (0 < x.F.length) = true := decide_eq_true (by omega)
  have h5 : x.F.length ≤ 1000000 := by omega
  have hn' : (x.F.length : Int) - 1 = (n : Int) := by omega
  obtain ⟨b1, b2, bs⟩ := heap2 w (.cells #[.slice A s.M.W.length c, .slice B s.M.G.length d, .bool s.M.bad, .slice (some ⟨b, o, none⟩) s.C.length cC, .slice AL s.L.length cL] 28) (.cells #[.int .i64 0, .int .i64 0, .int .i64 0, .int .i64 0, .int .i64 0, .int .i64 0, .int .i64 0, .int .i64 0, .int .i64 0, .int .i64 0, .slice none 0 0] 55)
  have hw2 : Below w.heap.size w ((w.alloc (.cells #[.slice A s.M.W.length c, .slice B s.M.G.length d, .bool s.M.bad, .slice (some ⟨b, o, none⟩) s.C.length cC, .slice AL s.L.length cL] 28)).alloc (.cells #[.int .i64 0, .int .i64 0, .int .i64 0, .int .i64 0, .int .i64 0, .int .i64 0, .int .i64 0, .int .i64 0, .int .i64 0, .int .i64 0, .slice none 0 0] 55)) := bstep (boxed _ _) (boxed _ _)
  go_enter Try.func42, Try.ntmps42
  go_wp2_with fail
  generalize ((w.alloc (.cells #[.slice A s.M.W.length c, .slice B s.M.G.length d, .bool s.M.bad, .slice (some ⟨b, o, none⟩) s.C.length cC, .slice AL s.L.length cL] 28)).alloc (.cells #[.int .i64 0, .int .i64 0, .int .i64 0, .int .i64 0, .int .i64 0, .int .i64 0, .int .i64 0, .int .i64 0, .int .i64 0, .int .i64 0, .slice none 0 0] 55)) = w2 at *
  refine (hasFrame_at _ _ _ _ _ _ _ _ s k x _ (hC.step hw2) h2 HX.out (by omega)).mono ?_
  rintro e wk ⟨rfl, hk⟩
  rw [hpos]
  replace b1 := (hk.block w.heap.size (by omega)).trans b1
  replace b2 := (hk.block (w.heap.size + 1) (by omega)).trans b2
  have hb := bstep hw2 hk
  have hCk := hC.step hb
  have rSk := rS.step hb
  have hz : w.heap.size + 1 < wk.heap.size := by have := hk.size; omega
  obtain ⟨p0, p1, p2, p3, p4⟩ := cells5 b1
  obtain ⟨q0, q1, q2, q3, q4, q5, q6, q7, q8, q9, q10⟩ := cells11 b2
  obtain ⟨qf0, qf1, qf2, qf3, qf4, qf5, qf6, qf7, qf8, qf9, qf10⟩ := frz11 b2
  have c1 : wk.cell? ⟨b, o + k * 7, none⟩ = some (.slice (some ⟨g, o1, none⟩) x.F.length cF) := (hb.cell hbl).trans c0
  replace u0 := (hb.cell hgl).trans u0
  replace u1 := (hb.cell hgl).trans u1
  replace u2 := (hb.cell hgl).trans u2
  replace u3 := (hb.cell hgl).trans u3
  replace u4 := (hb.cell hgl).trans u4
  replace u5 := (hb.cell hgl).trans u5
  replace u6 := (hb.cell hgl).trans u6
  replace u7 := (hb.cell hgl).trans u7
  replace u8 := (hb.cell hgl).trans u8
  replace u9 := (hb.cell hgl).trans u9
  replace u10 := (hb.cell hgl).trans u10
  have g1 : b < wk.heap.size := Nat.lt_of_lt_of_le hbl hb.size
  have g2 : g < wk.heap.size := Nat.lt_of_lt_of_le hgl hb.size
  have kl : (k : Int) < (s.C.length : Int) := by omega
  have nl : (n : Int) < (x.F.length : Int) := by omega
  have HN := hid hn'
  have HB := hid hb
  clear hk hw2 bs b1 b2 hC rS hn hn' hpos rF c0 hb
  have KS := hid (show ∀ w', Turn (fun b => b = w.heap.size + 1) wk w' → (w'.cell? ⟨w.heap.size, 0, none⟩ = some (.slice A s.M.W.length c) ∧ w'.cell? ⟨w.heap.size, 1, none⟩ = some (.slice B s.M.G.length d) ∧ w'.cell? ⟨w.heap.size, 2, none⟩ = some (.bool s.M.bad) ∧ w'.cell? ⟨w.heap.size, 3, none⟩ = some (.slice (some ⟨b, o, none⟩) s.C.length cC) ∧ w'.cell? ⟨w.heap.size, 4, none⟩ = some (.slice AL s.L.length cL) ∧ w'.cell? ⟨b, o + k * 7, none⟩ = some (.slice (some ⟨g, o1, none⟩) x.F.length cF) ∧ w'.cell? ⟨g, o1 + n * 11, none⟩ = some (.int .i64 op) ∧ w'.cell? ⟨g, o1 + n * 11 + 1, none⟩ = some (.int .i64 pc) ∧ w'.cell? ⟨g, o1 + n * 11 + 2, none⟩ = some (.int .i64 r0) ∧ w'.cell? ⟨g, o1 + n * 11 + 3, none⟩ = some (.int .i64 r1) ∧ w'.cell? ⟨g, o1 + n * 11 + 4, none⟩ = some (.int .i64 r2) ∧ w'.cell? ⟨g, o1 + n * 11 + 5, none⟩ = some (.int .i64 r3) ∧ w'.cell? ⟨g, o1 + n * 11 + 6, none⟩ = some (.int .i64 r4) ∧ w'.cell? ⟨g, o1 + n * 11 + 7, none⟩ = some (.int .i64 r5) ∧ w'.cell? ⟨g, o1 + n * 11 + 8, none⟩ = some (.int .i64 r6) ∧ w'.cell? ⟨g, o1 + n * 11 + 9, none⟩ = some (.int .i64 r7) ∧ w'.cell? ⟨g, o1 + n * 11 + 10, none⟩ = some (.slice AS xs.length cS)) from fun w' h => ⟨(h.cell (by omega) (by omega)).trans p0, (h.cell (by omega) (by omega)).trans p1, (h.cell (by omega) (by omega)).trans p2, (h.cell (by omega) (by omega)).trans p3, (h.cell (by omega) (by omega)).trans p4, (h.cell g1 (by omega)).trans c1, (h.cell g2 (by omega)).trans u0, (h.cell g2 (by omega)).trans u1, (h.cell g2 (by omega)).trans u2, (h.cell g2 (by omega)).trans u3, (h.cell g2 (by omega)).trans u4, (h.cell g2 (by omega)).trans u5, (h.cell g2 (by omega)).trans u6, (h.cell g2 (by omega)).trans u7, (h.cell g2 (by omega)).trans u8, (h.cell g2 (by omega)).trans u9, (h.cell g2 (by omega)).trans u10⟩)
  go_upto_region 3 with (fail)
  go_region_held3 (fun w' => w'.cell? ⟨w.heap.size, 0, none⟩ = some (.slice A s.M.W.length c) ∧ w'.cell? ⟨w.heap.size, 1, none⟩ = some (.slice B s.M.G.length d) ∧ w'.cell? ⟨w.heap.size, 2, none⟩ = some (.bool s.M.bad) ∧ w'.cell? ⟨w.heap.size, 3, none⟩ = some (.slice (some ⟨b, o, none⟩) s.C.length cC) ∧ w'.cell? ⟨w.heap.size, 4, none⟩ = some (.slice AL s.L.length cL) ∧ w'.cell? ⟨b, o + k * 7, none⟩ = some (.slice (some ⟨g, o1, none⟩) x.F.length cF) ∧ w'.cell? ⟨g, o1 + n * 11, none⟩ = some (.int .i64 op) ∧ w'.cell? ⟨g, o1 + n * 11 + 1, none⟩ = some (.int .i64 pc) ∧ w'.cell? ⟨g, o1 + n * 11 + 2, none⟩ = some (.int .i64 r0) ∧ w'.cell? ⟨g, o1 + n * 11 + 3, none⟩ = some (.int .i64 r1) ∧ w'.cell? ⟨g, o1 + n * 11 + 4, none⟩ = some (.int .i64 r2) ∧ w'.cell? ⟨g, o1 + n * 11 + 5, none⟩ = some (.int .i64 r3) ∧ w'.cell? ⟨g, o1 + n * 11 + 6, none⟩ = some (.int .i64 r4) ∧ w'.cell? ⟨g, o1 + n * 11 + 7, none⟩ = some (.int .i64 r5) ∧ w'.cell? ⟨g, o1 + n * 11 + 8, none⟩ = some (.int .i64 r6) ∧ w'.cell? ⟨g, o1 + n * 11 + 9, none⟩ = some (.int .i64 r7) ∧ w'.cell? ⟨g, o1 + n * 11 + 10, none⟩ = some (.slice AS xs.length cS)) (exact KS.out _ (by repeat (first | (with_reducible exact Turn.refl _ _) | (with_reducible refine Turn.set ?_ (by simp) _ _) | (with_reducible refine Turn.drew ?_) | (with_reducible refine Turn.below ?_ hk2) | (with_reducible refine Turn.below ?_ hk1))))
    (first
      | (go_at_call 76; refine (last_at _ _ _ _ _ _ _ _ s k x _ (hCk.step ((Below.refl _ _).drew)) h2 HX.out h5).mono ?_; rintro e w3 ⟨rfl, hk1⟩; rw [HN.out]; have hj1 : Below wk.heap.size wk w3 := bstep ((Below.refl _ _).drew) hk1)
      | (go_at_call 75; refine (copiedFrame_cap AS cS op pc r0 r1 r2 r3 r4 r5 r6 r7 xs _ (rSk.step hj1) h4).mono ?_; rintro e w4 ⟨A', c', rfl, ⟨hr4, hcp⟩, hk2⟩; have hj2 := bstep hj1 hk2; replace q0 := (hj2.cell hz).trans q0; replace qf0 := (hj2.frozen hz).trans qf0; replace q1 := (hj2.cell hz).trans q1; replace qf1 := (hj2.frozen hz).trans qf1; replace q2 := (hj2.cell hz).trans q2; replace qf2 := (hj2.frozen hz).trans qf2; replace q3 := (hj2.cell hz).trans q3; replace qf3 := (hj2.frozen hz).trans qf3; replace q4 := (hj2.cell hz).trans q4; replace qf4 := (hj2.frozen hz).trans qf4; replace q5 := (hj2.cell hz).trans q5; replace qf5 := (hj2.frozen hz).trans qf5; replace q6 := (hj2.cell hz).trans q6; replace qf6 := (hj2.frozen hz).trans qf6; replace q7 := (hj2.cell hz).trans q7; replace qf7 := (hj2.frozen hz).trans qf7; replace q8 := (hj2.cell hz).trans q8; replace qf8 := (hj2.frozen hz).trans qf8; replace q9 := (hj2.cell hz).trans q9; replace qf9 := (hj2.frozen hz).trans qf9; replace q10 := (hj2.cell hz).trans q10; replace qf10 := (hj2.frozen hz).trans qf10))
  all_goals go_wp2_with fail
  all_goals refine bodyPost_ret (v := .tuple #[.agg #[.int .i64 op, .int .i64 pc, .int .i64 r0, .int .i64 r1, .int .i64 r2, .int .i64 r3, .int .i64 r4, .int .i64 r5, .int .i64 r6, .int .i64 r7, .slice A' xs.length c'], .bool true]) (by simp [results, Try.results42, go_sem, q0, q1, q2, q3, q4, q5, q6, q7, q8, q9, q10]) rfl ?_
  all_goals
    have key : ∀ w', Turn (fun b => b = w.heap.size + 1) w4 w' → Row w' A' xs ∧ xs.length ≤ c' ∧ Below w.heap.size w w' := fun w' hT =>
      ⟨(hr4.turn hT (fun b _ hb e => by have := hj1.size; omega)).row, hcp, (bstep HB.out hj2).trans (hT.to_below (by have := HB.out.size; have := hj2.size; omega) (fun g hg => by omega))⟩
    refine ⟨A', c', rfl, ?_⟩
    exact key _ (by repeat (first | (with_reducible exact Turn.refl _ _) | (with_reducible refine Turn.set ?_ (by simp) _ _)))


theorem top_isC (A B C L : Option Addr) (a b c d : Nat) (s : Sy) (i op pc r0 r1 r2 r3 r4 r5 r6 r7 : Int) (xs : List Int) (w : World) (hs : SyFew s) (h : RS w s A B C L) (hp : pTop s i = some ⟨op, pc, [r0, r1, r2, r3, r4, r5, r6, r7], xs⟩) (h6 : xs.length ≤ 1000000) :
    Calls Try.prog 42 #[.agg #[.slice A s.M.W.length a, .slice B s.M.G.length b, .bool s.M.bad, .slice C s.C.length c, .slice L s.L.length d], .int .i64 i] w fun e w' => ∃ (A' : Option Addr) (c' : Nat), e = .returned (.tuple #[.agg #[.int .i64 op, .int .i64 pc, .int .i64 r0, .int .i64 r1, .int .i64 r2, .int .i64 r3, .int .i64 r4, .int .i64 r5, .int .i64 r6, .int .i64 r7, .slice A' xs.length c'], .bool true]) ∧ Row w' A' xs ∧ xs.length ≤ c' ∧ Below w.heap.size w w' := by
  obtain ⟨k, n, x, rfl, hx, hn, hf⟩ := pTop_out hp
  have g2 := (hs.2.2.2.2 x (List.mem_of_getElem? hx)).2.1
  exact top_yesC A B C L a b c d s k n x op pc r0 r1 r2 r3 r4 r5 r6 r7 xs w h.C hs.2.2.1 hx hn (by omega) h6 hf
end Go.Proofs.Ythpflcknommpdaa
