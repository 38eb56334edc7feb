/- Contract: core.Set, where nothing is set; the rows stand whatever becomes of older blocks. -/
import Derived.Test.YthpflcknommpdaaKCoT
import Derived.Test.YthpflcknommpdaaKBas
namespace Go.Proofs.Ythpflcknommpdaa
open Go.RowKit
set_option linter.unusedVariables false
set_option linter.unusedSimpArgs false

theorem heap3b (w0 : World) (a b c : Obj) : (((w0.alloc a).alloc b).alloc c).heap[w0.heap.size]? = some a ∧ (((w0.alloc a).alloc b).alloc c).heap[w0.heap.size + 1]? = some b ∧ (((w0.alloc a).alloc b).alloc c).heap[w0.heap.size + 1 + 1]? = some c ∧ (((w0.alloc a).alloc b).alloc c).heap.size = w0.heap.size + 3 := by
  obtain ⟨h1, h2, h3⟩ := heap2 w0 a b
  refine ⟨?_, ?_, ?_, by simp⟩
  · rw [Below.heap_alloc _ _ _ (by omega), h1]
  · rw [Below.heap_alloc _ _ _ (by omega), h2]
  · rw [show w0.heap.size + 1 + 1 = ((w0.alloc a).alloc b).heap.size by rw [h3], heap_alloc_new]

/-- The last frame of a core of the call's own is another one. -/
theorem CoI.setF {T : Nat} {ok : Nat → Prop} {w : World} {x : Co} {ps : List (Option Addr × Nat)} {gF cF n : Nat} {vR : Value} (h : CoI T ok w x ps (.slice (some ⟨gF, 0, none⟩) x.F.length cF) vR) (hn : n < x.F.length)
    {op pc r0 r1 r2 r3 r4 r5 r6 r7 : Int} {xs : List Int} {A : Option Addr} (c : Nat) {q : Nat → Prop} {w' : World} (t' : Turn q (((((((((((w.setCell ⟨gF, n * 11, none⟩ (.int .i64 op)).setCell ⟨gF, n * 11 + 1, none⟩ (.int .i64 pc)).setCell ⟨gF, n * 11 + 2, none⟩ (.int .i64 r0)).setCell ⟨gF, n * 11 + 3, none⟩ (.int .i64 r1)).setCell ⟨gF, n * 11 + 4, none⟩ (.int .i64 r2)).setCell ⟨gF, n * 11 + 5, none⟩ (.int .i64 r3)).setCell ⟨gF, n * 11 + 6, none⟩ (.int .i64 r4)).setCell ⟨gF, n * 11 + 7, none⟩ (.int .i64 r5)).setCell ⟨gF, n * 11 + 8, none⟩ (.int .i64 r6)).setCell ⟨gF, n * 11 + 9, none⟩ (.int .i64 r7)).setCell ⟨gF, n * 11 + 10, none⟩ (.slice A xs.length c)) w') (hq : ∀ b, ok b → ¬ q b) (hA : RowI (fun b => b ≠ gF ∧ ¬ q b) w A xs) :
    ToldCo w' (coSet x n ⟨op, pc, [r0, r1, r2, r3, r4, r5, r6, r7], xs⟩) (.slice (some ⟨gF, 0, none⟩) x.F.length cF) vR := by
  obtain ⟨h1, h2⟩ := own_put11 h.fr (fsCells_each h.r8) (i := n) (by rw [fsCells_len h.pl]; exact hn) (.int .i64 op) (.int .i64 pc) (.int .i64 r0) (.int .i64 r1) (.int .i64 r2) (.int .i64 r3) (.int .i64 r4) (.int .i64 r5) (.int .i64 r6) (.int .i64 r7) (.slice A xs.length c)
  have e : (fsCells x.F ps).set n [.int .i64 op, .int .i64 pc, .int .i64 r0, .int .i64 r1, .int .i64 r2, .int .i64 r3, .int .i64 r4, .int .i64 r5, .int .i64 r6, .int .i64 r7, .slice A xs.length c] = fsCells (x.F.set n ⟨op, pc, [r0, r1, r2, r3, r4, r5, r6, r7], xs⟩) (ps.set n (A, c)) := zip_set (f := frCells) (us := x.F) (ys := ps) (i := n) (a := ⟨op, pc, [r0, r1, r2, r3, r4, r5, r6, r7], xs⟩) (b := (A, c))
  rw [e] at h1
  have hT : Turn (fun b => b = gF) w _ := (Turn.refl _ _).grown h2 (fun b hb => by simpa using hb.symm)
  have h8 : ∀ f ∈ x.F.set n ⟨op, pc, [r0, r1, r2, r3, r4, r5, r6, r7], xs⟩, f.R.length = 8 := fun f hf => by
    rcases List.mem_or_eq_of_mem_set hf with h' | h'
    · exact h.r8 f h'
    · rw [h']; rfl
  have hpl : (ps.set n (A, c)).length = (x.F.set n ⟨op, pc, [r0, r1, r2, r3, r4, r5, r6, r7], xs⟩).length := by simpa using h.pl
  obtain ⟨A2, c2, e2, hs⟩ := own_src (own_turn h1 t' (fun b hb e => hq b (h.okF b hb) e)) (fsCells_each h8) (by rw [fsCells_len hpl]; simp) (fsCells_one _ _)
  obtain ⟨AR, cR, eR, rR⟩ := h.rr
  have hcp := own_cap h.fr
  have e3 : c2 = cF := by injection e2 with _ _ e2; exact e2.symm
  refine ⟨A2, c2, AR, cR, ?_, eR, Src.rowF hpl h8 hs (fun j f p hf hp => ?_), ((rR.turn hT (fun b _ hb e => hb.2 (by rw [e]; rfl))).turn t' (fun b _ hb e => hq b hb.1 e)).row, by rw [e3]; simpa [coSet] using hcp, by simpa [coSet] using h.rc _ _ _ eR⟩
  · rw [e2]; simp [coSet]
  · have hf : (x.F.set n ⟨op, pc, [r0, r1, r2, r3, r4, r5, r6, r7], xs⟩)[j]? = some f := hf
    by_cases ej : j = n
    · subst ej
      rw [List.getElem?_set_self hn] at hf
      rw [List.getElem?_set_self (by rw [h.pl]; exact hn)] at hp
      injection hf with hf
      injection hp with hp
      subst hf hp
      exact ((hA.turn hT (fun b _ hb e => hb.1 e)).turn t' (fun b _ hb e => hb.2 e)).row
    · rw [List.getElem?_set_ne (fun h => ej h.symm)] at hf hp
      exact (((h.sr j f p hf hp).turn hT (fun b _ hb e => hb.2 (by rw [e]; rfl))).turn t' (fun b _ hb e => hq b hb.1 e)).row

set_option maxRecDepth 100000 in
set_option maxHeartbeats 8000000 in
theorem set_outN (A B AC AL : Option Addr) (c d cC cL : Nat) (s : Sy) (i : Int) (AS : Option Addr) (cS : Nat) (op pc r0 r1 r2 r3 r4 r5 r6 r7 : Int) (xs : List Int) (hi : syHas s i = false) (w : World) (hW : Row w A s.M.W) (hG : Row w B s.M.G) (hC : RowC w AC s.C) (hL : RowE w AL s.L) (h0 : s.M.W.length ≤ 1000000) (h1 : s.M.G.length ≤ 1000000) (h2 : s.C.length ≤ 1000000) (h3 : s.L.length ≤ 1000000) (h4 : ∀ x ∈ s.C, x.ret.length ≤ 1000000 ∧ x.F.length ≤ 1000000 ∧ ∀ f ∈ x.F, f.S.length ≤ 1000000) :
    Calls Try.prog 45 #[.agg #[.slice A s.M.W.length c, .slice B s.M.G.length d, .bool s.M.bad, .slice AC s.C.length cC, .slice AL s.L.length cL], .int .i64 i, .agg #[.int .i64 op, .int .i64 pc, .int .i64 r0, .int .i64 r1, .int .i64 r2, .int .i64 r3, .int .i64 r4, .int .i64 r5, .int .i64 r6, .int .i64 r7, .slice AS xs.length cS]] w (RetSysN w s) := by
  obtain ⟨b1, bf, b2, bs⟩ := heap3b w (.cells #[.slice A s.M.W.length c, .slice B s.M.G.length d, .bool s.M.bad, .slice AC s.C.length cC, .slice AL s.L.length cL] 28) (.cells #[.int .i64 op, .int .i64 pc, .int .i64 r0, .int .i64 r1, .int .i64 r2, .int .i64 r3, .int .i64 r4, .int .i64 r5, .int .i64 r6, .int .i64 r7, .slice AS xs.length cS] 55) (.cells #[.slice none 0 0, .slice none 0 0, .bool false, .slice none 0 0, .slice none 0 0] 28)
  have hw2 : Below w.heap.size w (((w.alloc (.cells #[.slice A s.M.W.length c, .slice B s.M.G.length d, .bool s.M.bad, .slice AC s.C.length cC, .slice AL s.L.length cL] 28)).alloc (.cells #[.int .i64 op, .int .i64 pc, .int .i64 r0, .int .i64 r1, .int .i64 r2, .int .i64 r3, .int .i64 r4, .int .i64 r5, .int .i64 r6, .int .i64 r7, .slice AS xs.length cS] 55)).alloc (.cells #[.slice none 0 0, .slice none 0 0, .bool false, .slice none 0 0, .slice none 0 0] 28)) := bstep (bstep (boxed _ _) (boxed _ _)) (boxed _ _)
  have H4 := hid h4
  clear h4
  go_enter Try.func45, Try.ntmps45
  go_wp2_with fail
  generalize (((w.alloc (.cells #[.slice A s.M.W.length c, .slice B s.M.G.length d, .bool s.M.bad, .slice AC s.C.length cC, .slice AL s.L.length cL] 28)).alloc (.cells #[.int .i64 op, .int .i64 pc, .int .i64 r0, .int .i64 r1, .int .i64 r2, .int .i64 r3, .int .i64 r4, .int .i64 r5, .int .i64 r6, .int .i64 r7, .slice AS xs.length cS] 55)).alloc (.cells #[.slice none 0 0, .slice none 0 0, .bool false, .slice none 0 0, .slice none 0 0] 28)) = w2 at *
  refine (copied_any A B AC AL c d cC cL s w2 (hW.step hw2) (hG.step hw2) (hC.step hw2) (hL.step hw2) h0 h1 h2 h3 H4.out).mono ?_
  rintro e w3 ⟨lo, hm, own, vs, AW, AG, cW, cG, vC, vL, rfl, hlo, SI, hk⟩
  have hmv : hm ≤ w3.heap.size := SI.hw
  have SI := SI.seal
  have hside : ∀ b, w3.heap.size ≤ b → Side s lo hm (fun b => if b < w3.heap.size then own b else s.C.length) b := fun b hb => .inr ⟨by omega, if_neg (by omega)⟩
  generalize (fun b => if b < w3.heap.size then own b else s.C.length) = own2 at *
  obtain ⟨AC', cC', rfl⟩ := own_val SI.co
  obtain ⟨AL', cL', rfl⟩ := own_val SI.ev
  replace b1 := (hk.block w.heap.size (by omega)).trans b1
  replace b2 := (hk.block (w.heap.size + 1 + 1) (by omega)).trans b2
  replace bf := (hk.block (w.heap.size + 1) (by omega)).trans bf
  have hb := bstep hw2 hk
  have hz : w.heap.size + 1 + 1 < w3.heap.size := by have := hk.size; omega
  have hz0 : w.heap.size < w3.heap.size := by omega
  have hlo2 : w.heap.size + 1 + 1 < lo := by omega
  have hz1 : w.heap.size + 1 < w3.heap.size := by omega
  clear hk hw2 bs hlo hW hG hL h0 h1
  obtain ⟨p0, p1, p2, p3, p4⟩ := cells5 b1
  go_wp2_with fail
  have bv := heap_alloc_new w3 (.cells #[.slice AW s.M.W.length cW, .slice AG s.M.G.length cG, .bool s.M.bad, .slice AC' s.C.length cC', .slice AL' s.L.length cL'] 28)
  have t4 : Turn (fun _ => False) w3 (w3.alloc (.cells #[.slice AW s.M.W.length cW, .slice AG s.M.G.length cG, .bool s.M.bad, .slice AC' s.C.length cC', .slice AL' s.L.length cL'] 28)) := (Turn.refl _ _).alloc _
  replace SI := SI.turn t4 (fun _ _ h => h)
  replace b1 := (t4.block w.heap.size hz0 id).trans b1
  replace b2 := (t4.block (w.heap.size + 1 + 1) hz id).trans b2
  replace bf := (t4.block (w.heap.size + 1) hz1 id).trans bf
  skip
  replace hb := bstep hb (boxed w3 (.cells #[.slice AW s.M.W.length cW, .slice AG s.M.G.length cG, .bool s.M.bad, .slice AC' s.C.length cC', .slice AL' s.L.length cL'] 28))
  have vx : w3.heap.size < (w3.alloc (.cells #[.slice AW s.M.W.length cW, .slice AG s.M.G.length cG, .bool s.M.bad, .slice AC' s.C.length cC', .slice AL' s.L.length cL'] 28)).heap.size := by simp
  clear t4 p0 p1 p2 p3 p4
  obtain ⟨v, hv⟩ : ∃ v, w3.heap.size = v := ⟨_, rfl⟩
  generalize (w3.alloc (.cells #[.slice AW s.M.W.length cW, .slice AG s.M.G.length cG, .bool s.M.bad, .slice AC' s.C.length cC', .slice AL' s.L.length cL'] 28)) = w4 at *
  rw [hv] at bv vx hz hz0 hmv hside ⊢
  have HSD := hid hside
  clear hside
  rw [hv] at hz1
  clear hv
  refine (hasFrame_out _ _ _ _ _ _ _ _ s i _ h2 hi).mono ?_
  rintro e w5 ⟨rfl, hk⟩
  replace b1 := (hk.block w.heap.size (by omega)).trans b1
  replace b2 := (hk.block (w.heap.size + 1 + 1) (by omega)).trans b2
  replace bv := (hk.block v vx).trans bv
  replace bf := (hk.block (w.heap.size + 1) (by omega)).trans bf
  replace SI := SI.turn (Turn.below (Turn.refl (fun _ => False) _) hk) (fun _ _ h => h)
  replace hb := bstep hb hk
  replace vx := Nat.lt_of_lt_of_le vx hk.size
  clear hk
  obtain ⟨m0, m1, m2, m3, m4⟩ := cells5 bv
  obtain ⟨mf0, mf1, mf2, mf3, mf4⟩ := frz5 bv
  obtain ⟨q0, q1, q2, q3, q4⟩ := cells5 b2
  obtain ⟨qf0, qf1, qf2, qf3, qf4⟩ := frz5 b2
  clear b1 b2 bv
  go_wp2
  refine bodyPost_ret (v := .agg #[.slice AW s.M.W.length cW, .slice AG s.M.G.length cG, .bool s.M.bad, .slice AC' s.C.length cC', .slice AL' s.L.length cL']) (by simp [results, Try.results45, go_sem, q0, q1, q2, q3, q4]) rfl ?_
  have key : ∀ w', Turn (fun b => (b = w.heap.size + 1 + 1) ∨ b < w.heap.size) w5 w' → RetSys w' s (.returned (.agg #[.slice AW s.M.W.length cW, .slice AG s.M.G.length cG, .bool s.M.bad, .slice AC' s.C.length cC', .slice AL' s.L.length cL'])) w' := fun w' hT => (SI.turn hT (fun b hb e => by omega)).told cW cG (Below.refl _ _)
  exact retN (p := fun b => b = w.heap.size + 1 + 1) key (turn5 _ _ _ _ _ _ _) (hb.trans ((turn5 _ _ _ _ _ _ _).to_below hb.size (fun g hg => by omega)))



set_option maxRecDepth 100000 in
set_option maxHeartbeats 8000000 in
theorem set_noneN (A B AC AL : Option Addr) (c d cC cL : Nat) (s : Sy) (k : Nat) (x : Co) (AS : Option Addr) (cS : Nat) (op pc r0 r1 r2 r3 r4 r5 r6 r7 : Int) (xs : List Int) (hx : s.C[k]? = some x) (hF : x.F.length = 0) (w : World) (hW : Row w A s.M.W) (hG : Row w B s.M.G) (hC : RowC w AC s.C) (hL : RowE w AL s.L) (h0 : s.M.W.length ≤ 1000000) (h1 : s.M.G.length ≤ 1000000) (h2 : s.C.length ≤ 1000000) (h3 : s.L.length ≤ 1000000) (h4 : ∀ x ∈ s.C, x.ret.length ≤ 1000000 ∧ x.F.length ≤ 1000000 ∧ ∀ f ∈ x.F, f.S.length ≤ 1000000) :
    Calls Try.prog 45 #[.agg #[.slice A s.M.W.length c, .slice B s.M.G.length d, .bool s.M.bad, .slice AC s.C.length cC, .slice AL s.L.length cL], .int .i64 k, .agg #[.int .i64 op, .int .i64 pc, .int .i64 r0, .int .i64 r1, .int .i64 r2, .int .i64 r3, .int .i64 r4, .int .i64 r5, .int .i64 r6, .int .i64 r7, .slice AS xs.length cS]] w (RetSysN w s) := by
  have hxF : ¬ 0 < x.F.length := by omega
  obtain ⟨b1, bf, b2, bs⟩ := heap3b w (.cells #[.slice A s.M.W.length c, .slice B s.M.G.length d, .bool s.M.bad, .slice AC s.C.length cC, .slice AL s.L.length cL] 28) (.cells #[.int .i64 op, .int .i64 pc, .int .i64 r0, .int .i64 r1, .int .i64 r2, .int .i64 r3, .int .i64 r4, .int .i64 r5, .int .i64 r6, .int .i64 r7, .slice AS xs.length cS] 55) (.cells #[.slice none 0 0, .slice none 0 0, .bool false, .slice none 0 0, .slice none 0 0] 28)
  have hw2 : Below w.heap.size w (((w.alloc (.cells #[.slice A s.M.W.length c, .slice B s.M.G.length d, .bool s.M.bad, .slice AC s.C.length cC, .slice AL s.L.length cL] 28)).alloc (.cells #[.int .i64 op, .int .i64 pc, .int .i64 r0, .int .i64 r1, .int .i64 r2, .int .i64 r3, .int .i64 r4, .int .i64 r5, .int .i64 r6, .int .i64 r7, .slice AS xs.length cS] 55)).alloc (.cells #[.slice none 0 0, .slice none 0 0, .bool false, .slice none 0 0, .slice none 0 0] 28)) := bstep (bstep (boxed _ _) (boxed _ _)) (boxed _ _)
  have H4 := hid h4
  clear h4
  go_enter Try.func45, Try.ntmps45
  go_wp2_with fail
  generalize (((w.alloc (.cells #[.slice A s.M.W.length c, .slice B s.M.G.length d, .bool s.M.bad, .slice AC s.C.length cC, .slice AL s.L.length cL] 28)).alloc (.cells #[.int .i64 op, .int .i64 pc, .int .i64 r0, .int .i64 r1, .int .i64 r2, .int .i64 r3, .int .i64 r4, .int .i64 r5, .int .i64 r6, .int .i64 r7, .slice AS xs.length cS] 55)).alloc (.cells #[.slice none 0 0, .slice none 0 0, .bool false, .slice none 0 0, .slice none 0 0] 28)) = w2 at *
  refine (copied_any A B AC AL c d cC cL s w2 (hW.step hw2) (hG.step hw2) (hC.step hw2) (hL.step hw2) h0 h1 h2 h3 H4.out).mono ?_
  rintro e w3 ⟨lo, hm, own, vs, AW, AG, cW, cG, vC, vL, rfl, hlo, SI, hk⟩
  have hmv : hm ≤ w3.heap.size := SI.hw
  have SI := SI.seal
  have hside : ∀ b, w3.heap.size ≤ b → Side s lo hm (fun b => if b < w3.heap.size then own b else s.C.length) b := fun b hb => .inr ⟨by omega, if_neg (by omega)⟩
  generalize (fun b => if b < w3.heap.size then own b else s.C.length) = own2 at *
  obtain ⟨AC', cC', rfl⟩ := own_val SI.co
  obtain ⟨AL', cL', rfl⟩ := own_val SI.ev
  replace b1 := (hk.block w.heap.size (by omega)).trans b1
  replace b2 := (hk.block (w.heap.size + 1 + 1) (by omega)).trans b2
  replace bf := (hk.block (w.heap.size + 1) (by omega)).trans bf
  have hb := bstep hw2 hk
  have hz : w.heap.size + 1 + 1 < w3.heap.size := by have := hk.size; omega
  have hz0 : w.heap.size < w3.heap.size := by omega
  have hlo2 : w.heap.size + 1 + 1 < lo := by omega
  have hz1 : w.heap.size + 1 < w3.heap.size := by omega
  clear hk hw2 bs hlo hW hG hL h0 h1
  obtain ⟨p0, p1, p2, p3, p4⟩ := cells5 b1
  go_wp2_with fail
  have bv := heap_alloc_new w3 (.cells #[.slice AW s.M.W.length cW, .slice AG s.M.G.length cG, .bool s.M.bad, .slice AC' s.C.length cC', .slice AL' s.L.length cL'] 28)
  have t4 : Turn (fun _ => False) w3 (w3.alloc (.cells #[.slice AW s.M.W.length cW, .slice AG s.M.G.length cG, .bool s.M.bad, .slice AC' s.C.length cC', .slice AL' s.L.length cL'] 28)) := (Turn.refl _ _).alloc _
  replace SI := SI.turn t4 (fun _ _ h => h)
  replace b1 := (t4.block w.heap.size hz0 id).trans b1
  replace b2 := (t4.block (w.heap.size + 1 + 1) hz id).trans b2
  replace bf := (t4.block (w.heap.size + 1) hz1 id).trans bf
  skip
  replace hb := bstep hb (boxed w3 (.cells #[.slice AW s.M.W.length cW, .slice AG s.M.G.length cG, .bool s.M.bad, .slice AC' s.C.length cC', .slice AL' s.L.length cL'] 28))
  have vx : w3.heap.size < (w3.alloc (.cells #[.slice AW s.M.W.length cW, .slice AG s.M.G.length cG, .bool s.M.bad, .slice AC' s.C.length cC', .slice AL' s.L.length cL'] 28)).heap.size := by simp
  clear t4 p0 p1 p2 p3 p4
  obtain ⟨v, hv⟩ : ∃ v, w3.heap.size = v := ⟨_, rfl⟩
  generalize (w3.alloc (.cells #[.slice AW s.M.W.length cW, .slice AG s.M.G.length cG, .bool s.M.bad, .slice AC' s.C.length cC', .slice AL' s.L.length cL'] 28)) = w4 at *
  rw [hv] at bv vx hz hz0 hmv hside ⊢
  have HSD := hid hside
  clear hside
  rw [hv] at hz1
  clear hv
  refine (hasFrame_at _ _ _ _ _ _ _ _ s k x _ (hC.step hb) h2 hx (H4.out x (List.mem_of_getElem? hx)).2.1).mono ?_
  rintro e w5 ⟨rfl, hk⟩
  rw [decide_eq_false hxF]
  replace b1 := (hk.block w.heap.size (by omega)).trans b1
  replace b2 := (hk.block (w.heap.size + 1 + 1) (by omega)).trans b2
  replace bv := (hk.block v vx).trans bv
  replace bf := (hk.block (w.heap.size + 1) (by omega)).trans bf
  replace SI := SI.turn (Turn.below (Turn.refl (fun _ => False) _) hk) (fun _ _ h => h)
  replace hb := bstep hb hk
  replace vx := Nat.lt_of_lt_of_le vx hk.size
  clear hk
  obtain ⟨m0, m1, m2, m3, m4⟩ := cells5 bv
  obtain ⟨mf0, mf1, mf2, mf3, mf4⟩ := frz5 bv
  obtain ⟨q0, q1, q2, q3, q4⟩ := cells5 b2
  obtain ⟨qf0, qf1, qf2, qf3, qf4⟩ := frz5 b2
  clear b1 b2 bv
  go_wp2
  refine bodyPost_ret (v := .agg #[.slice AW s.M.W.length cW, .slice AG s.M.G.length cG, .bool s.M.bad, .slice AC' s.C.length cC', .slice AL' s.L.length cL']) (by simp [results, Try.results45, go_sem, q0, q1, q2, q3, q4]) rfl ?_
  have key : ∀ w', Turn (fun b => (b = w.heap.size + 1 + 1) ∨ b < w.heap.size) w5 w' → RetSys w' s (.returned (.agg #[.slice AW s.M.W.length cW, .slice AG s.M.G.length cG, .bool s.M.bad, .slice AC' s.C.length cC', .slice AL' s.L.length cL'])) w' := fun w' hT => (SI.turn hT (fun b hb e => by omega)).told cW cG (Below.refl _ _)
  exact retN (p := fun b => b = w.heap.size + 1 + 1) key (turn5 _ _ _ _ _ _ _) (hb.trans ((turn5 _ _ _ _ _ _ _).to_below hb.size (fun g hg => by omega)))



end Go.Proofs.Ythpflcknommpdaa
