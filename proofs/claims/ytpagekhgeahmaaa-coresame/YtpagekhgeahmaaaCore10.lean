/- Contracts of the document's answers for layer 3: a system with another core. -/
import Derived.Test.YtpagekhgeahmaaaCoreW
namespace Go.Proofs.Ytpagekhgeahmaaa
open Go.RowKit
set_option linter.unusedVariables false
set_option linter.unusedSimpArgs false

theorem run_append_no {P : Program} (w : World) (t ty e : TypeId) (i : TypeInfo) (ht : P.underlying t = some (.slice e)) (hi : P.info? e = some i) (g c : Nat) :
    (Builtin.append_ #[t, t] ty #[.slice (some ⟨g, 0, none⟩) 0 0, .slice none 0 c]).run P w = .ok (.slice (some ⟨g, 0, none⟩) 0 0) w := by
  simp [Builtin.append_, run_underlying ht, sizeOf, typeInfo, hi, Builtin.lenOf, Builtin.firstCells, storeCells]

theorem Src.none {w : World} {k : Nat} {css : List (List Value)} (h : Src w none k css) : css = [] := by
  rcases Nat.eq_zero_or_pos css.length with h0 | h0
  · exact List.eq_nil_of_length_eq_zero h0
  · obtain ⟨b, o, e, _⟩ := h.at_ h0
    cases e

theorem own_empty {w : World} {g0 e size : Nat} (hg0 : w.heap[g0]? = some (.cells #[] e (0, 0))) : w.ownsRow g0 e size (.slice (some ⟨g0, 0, none⟩) 0 0) 0 ([] : List (List Value)).flatten :=
  ⟨by simp, .inr ⟨g0, 0, #[], rfl, Nat.le_refl _, hg0, Nat.le_refl _, by simp [maxLen], by simp, by simp⟩⟩

/-- append([]E{}, xs...), whatever slice xs is. -/
theorem wpList_append_any {P : Program} {w : World} {ops : Array Oper} {rest : List Oper} {o : Oper} {a : Act} {Q : Exit → Act → World → Prop} (hgd : o.guard = none) (s x : Operand) (t : TypeId)
    (ho : o.op = .call { callee := .builtin .append, args := #[s, x], argTypes := #[t, t] })
    (e : TypeId) (z : Value) (size bytes : Nat) (ht : P.underlying t = some (.slice e)) (hinfo : (P.info? e).map (fun i => (i.zero, i.size, i.bytes)) = some (some z, size, bytes)) (hzs : z.cells.size = size) (hsz : 0 < size)
    (g0 : Nat) (hs : a.eval s = .slice (some ⟨g0, 0, none⟩) 0 0) (hg0 : w.heap[g0]? = some (.cells #[] e (0, 0)))
    (A : Option Addr) (c : Nat) (css : List (List Value)) (m : Nat) (hm : css.length = m) (hx : a.eval x = .slice A m c) (hsrc : Src w A size css)
    (hlen : m ≤ 1000000) (hby : bytes ≤ 1000)
    (h : ∀ v' w', w'.ownsRow g0 e size v' m css.flatten → Below g0 w w' → wpList P ops Q rest (a.put o.dst v') w') : wpList P ops Q (o :: rest) a w := by
  cases A with
  | none =>
    obtain rfl := hsrc.none
    obtain rfl : m = 0 := hm.symm
    obtain ⟨i, hi, _, _, _⟩ := info_parts hinfo
    refine wpList_plain hgd fun K hK => ?_
    have hr := run_append_no (P := P) w t o.type e i ht hi g0 c
    unfold Oper.wp execOp
    simp only [ho, resolve, invoke, builtin, Sem.run_bind, Sem.run_pure, Result.andThen_ok, List.map_toArray, List.map_cons, List.map_nil, hs, hx, hr]
    exact hK _ _ (h _ w (own_empty hg0) (Below.refl _ _))
  | some ad => exact wpList_append_fresh hgd s x t ho e z size bytes ht hinfo hzs hsz g0 hs hg0 ad c css m hm hx hsrc hlen hby h

theorem step_append_any {P : Program} {w : World} {ops : Array Oper} {o : Oper} {a : Act} {K : Act → World → Prop} {Q : Exit → Act → World → Prop} {E : Prop} (hgd : o.guard = none) (s x : Operand) (t : TypeId)
    (ho : o.op = .call { callee := .builtin .append, args := #[s, x], argTypes := #[t, t] })
    (e : TypeId) (z : Value) (size bytes : Nat) (ht : P.underlying t = some (.slice e)) (hinfo : (P.info? e).map (fun i => (i.zero, i.size, i.bytes)) = some (some z, size, bytes)) (hzs : z.cells.size = size) (hsz : 0 < size)
    (g0 : Nat) (hs : a.eval s = .slice (some ⟨g0, 0, none⟩) 0 0) (hg0 : w.heap[g0]? = some (.cells #[] e (0, 0)))
    (A : Option Addr) (c : Nat) (css : List (List Value)) (m : Nat) (hm : css.length = m) (hx : a.eval x = .slice A m c) (hsrc : Src w A size css)
    (hlen : m ≤ 1000000) (hby : bytes ≤ 1000)
    (h : ∀ v' w', w'.ownsRow g0 e size v' m css.flatten → w.grownBy w' (some g0) → K (a.put o.dst v') w') :
    if Region.wanted o (yielded ops a.tmps) = true then Oper.wp P o a w K Q else E := by
  have hw : Region.wanted o (yielded ops a.tmps) = true := by simp [Region.wanted, hgd]
  rw [if_pos hw]
  obtain ⟨i, hi, hz0, hz1, hz2⟩ := info_parts hinfo
  have hlt : g0 < w.heap.size := (Array.getElem?_eq_some_iff.1 hg0).1
  cases A with
  | none =>
    obtain rfl := hsrc.none
    obtain rfl : m = 0 := hm.symm
    have hr := run_append_no (P := P) w t o.type e i ht hi g0 c
    unfold Oper.wp execOp
    simp only [ho, resolve, invoke, builtin, Sem.run_bind, Sem.run_pure, Result.andThen_ok, List.map_toArray, List.map_cons, List.map_nil, hs, hx, hr]
    exact h _ w (own_empty hg0) (World.grownBy.refl _ _)
  | some ad =>
    obtain ⟨b, of, sp⟩ := ad
    have hnews : ∀ j u, css.flatten[j]? = some u → w.cell? ((⟨b, of, sp⟩ : Addr).add j) = some u := by
      intro j u hu
      obtain ⟨i, r, c, rfl, hr, hi, hu'⟩ := flat_inv hsrc.each hu
      obtain ⟨b', o', e, _, hc⟩ := hsrc.at_ (by have := (List.getElem?_eq_some_iff.1 hi).1; omega)
      simp only [Option.some.injEq, Addr.mk.injEq] at e
      obtain ⟨rfl, rfl, rfl⟩ := e
      rw [Addr.add_lit, show of + (i * size + r) = of + i * size + r by omega]
      exact hc i c hi r u hu'
    have hb1 : (0 + m) * bytes ≤ 140737488355328 := Nat.le_trans (Nat.mul_le_mul (by omega : 0 + m ≤ 1000000) hby) (by omega)
    obtain ⟨v', w', hr, h2, h3, _, _⟩ := run_append_own_at (P := P) w g0 t o.type e i z size bytes ht hi hz0 hz1 hz2 hzs hsz (.slice (some ⟨g0, 0, none⟩) 0 0) 0 [] ⟨by simp, .inr ⟨g0, 0, #[], rfl, Nat.le_refl _, hg0, Nat.le_refl _, by simp [maxLen], by simp, by simp⟩⟩ ⟨b, of, sp⟩ m c css.flatten (by rw [flat_len hsrc.each, hm]) hnews (Each.one hsrc.one) (by simp only [maxLen]; omega) hb1 (by omega)
    rw [Nat.zero_add, List.nil_append] at h2
    unfold Oper.wp execOp
    simp only [ho, resolve, invoke, builtin, Sem.run_bind, Sem.run_pure, Result.andThen_ok, List.map_toArray, List.map_cons, List.map_nil, hs, hx, hr]
    exact h v' w' h2 h3

set_option maxRecDepth 100000 in
set_option maxHeartbeats 8000000 in
theorem rwith_any (A B AC AL : Option Addr) (c d cC cL : Nat) (s : Sy) (k : Nat) (AF AR : Option Addr) (cF cR : Nat) (x : Co) (w : World) (hW : Row w A s.M.W) (hG : Row w B s.M.G) (hC : RowC w AC s.C) (hL : RowE w AL s.L) (h2 : s.C.length ≤ 1000000) (hF : RowF w AF x.F) (hRt : Row w AR x.ret) (hk : k < s.C.length) (hcp : x.F.length ≤ cF) :
    Calls Try.prog 35 #[.agg #[.slice A s.M.W.length c, .slice B s.M.G.length d, .bool s.M.bad, .slice AC s.C.length cC, .slice AL s.L.length cL], .int .i64 k, .agg #[.slice AF x.F.length cF, .int .i64 x.v, .int .i64 x.e, .int .i64 x.x0, .int .i64 x.x1, .int .i64 x.x2, .slice AR x.ret.length cR]] w (RetSys w (syWith s k x)) := by
  obtain ⟨qs, hq, hsC, hR⟩ := hC.src4
  obtain ⟨b1, bf, b2, bs⟩ := heap3b w (.cells #[.slice A s.M.W.length c, .slice B s.M.G.length d, .bool s.M.bad, .slice AC s.C.length cC, .slice AL s.L.length cL] 28) (.cells #[.slice AF x.F.length cF, .int .i64 x.v, .int .i64 x.e, .int .i64 x.x0, .int .i64 x.x1, .int .i64 x.x2, .slice AR x.ret.length cR] 65) (.cells #[.slice none 0 0, .slice none 0 0, .bool false, .slice none 0 0, .slice none 0 0] 28)
  have hw2 : Below w.heap.size w (((w.alloc (.cells #[.slice A s.M.W.length c, .slice B s.M.G.length d, .bool s.M.bad, .slice AC s.C.length cC, .slice AL s.L.length cL] 28)).alloc (.cells #[.slice AF x.F.length cF, .int .i64 x.v, .int .i64 x.e, .int .i64 x.x0, .int .i64 x.x1, .int .i64 x.x2, .slice AR x.ret.length cR] 65)).alloc (.cells #[.slice none 0 0, .slice none 0 0, .bool false, .slice none 0 0, .slice none 0 0] 28)) := bstep (bstep (boxed _ _) (boxed _ _)) (boxed _ _)
  go_enter Try.func35, Try.ntmps35
  have b1' := b1
  go_wp2_with (at_builtin; refine wpList_append_any rfl _ _ _ rfl 65 _ 7 88 Try.underlying25 infoCo rfl (by omega) (w.heap.size + 3) rfl (by rw [← bs]; exact heap_alloc_new _ _) AC cC (csCells s.C qs) s.C.length (csCells_len hq) rfl (hsC.step (bstep hw2 (boxed _ _))) h2 (by omega) ?_; intro v7 w7 ho7 hk7; have j7 : Below (w.heap.size + 3) (((w.alloc (.cells #[.slice A s.M.W.length c, .slice B s.M.G.length d, .bool s.M.bad, .slice AC s.C.length cC, .slice AL s.L.length cL] 28)).alloc (.cells #[.slice AF x.F.length cF, .int .i64 x.v, .int .i64 x.e, .int .i64 x.x0, .int .i64 x.x1, .int .i64 x.x2, .slice AR x.ret.length cR] 65)).alloc (.cells #[.slice none 0 0, .slice none 0 0, .bool false, .slice none 0 0, .slice none 0 0] 28)) w7 := (((boxed _ _).mono (by omega)).trans hk7); obtain ⟨g, cap, rfl, hg1, hg2⟩ := ho7.form (by omega); replace b1 := (j7.block w.heap.size (by omega)).trans b1; replace bf := (j7.block (w.heap.size + 1) (by omega)).trans bf; replace b2 := (j7.block (w.heap.size + 1 + 1) (by omega)).trans b2; have hcat := ho7.cellAt; have hfz := ho7.frozenAt; have p0 : w7.cell? ⟨w.heap.size, 0, none⟩ = some (.slice A s.M.W.length c) := cell_of_row w7 _ 0 _ _ _ b1; have p1 : w7.cell? ⟨w.heap.size, 1, none⟩ = some (.slice B s.M.G.length d) := cell_of_row w7 _ 1 _ _ _ b1; have p2 : w7.cell? ⟨w.heap.size, 2, none⟩ = some (.bool s.M.bad) := cell_of_row w7 _ 2 _ _ _ b1; have p3 : w7.cell? ⟨w.heap.size, 3, none⟩ = some (.slice AC s.C.length cC) := cell_of_row w7 _ 3 _ _ _ b1; have p4 : w7.cell? ⟨w.heap.size, 4, none⟩ = some (.slice AL s.L.length cL) := cell_of_row w7 _ 4 _ _ _ b1; have f0 : w7.cell? ⟨w.heap.size + 1, 0, none⟩ = some (.slice AF x.F.length cF) := cell_of_row w7 _ 0 _ _ _ bf; have f1 : w7.cell? ⟨w.heap.size + 1, 1, none⟩ = some (.int .i64 x.v) := cell_of_row w7 _ 1 _ _ _ bf; have f2 : w7.cell? ⟨w.heap.size + 1, 2, none⟩ = some (.int .i64 x.e) := cell_of_row w7 _ 2 _ _ _ bf; have f3 : w7.cell? ⟨w.heap.size + 1, 3, none⟩ = some (.int .i64 x.x0) := cell_of_row w7 _ 3 _ _ _ bf; have f4 : w7.cell? ⟨w.heap.size + 1, 4, none⟩ = some (.int .i64 x.x1) := cell_of_row w7 _ 4 _ _ _ bf; have f5 : w7.cell? ⟨w.heap.size + 1, 5, none⟩ = some (.int .i64 x.x2) := cell_of_row w7 _ 5 _ _ _ bf; have f6 : w7.cell? ⟨w.heap.size + 1, 6, none⟩ = some (.slice AR x.ret.length cR) := cell_of_row w7 _ 6 _ _ _ bf; have q0 : w7.cell? ⟨w.heap.size + 1 + 1, 0, none⟩ = some (.slice none 0 0) := cell_of_row w7 _ 0 _ _ _ b2; have q1 : w7.cell? ⟨w.heap.size + 1 + 1, 1, none⟩ = some (.slice none 0 0) := cell_of_row w7 _ 1 _ _ _ b2; have q2 : w7.cell? ⟨w.heap.size + 1 + 1, 2, none⟩ = some (.bool false) := cell_of_row w7 _ 2 _ _ _ b2; have q3 : w7.cell? ⟨w.heap.size + 1 + 1, 3, none⟩ = some (.slice none 0 0) := cell_of_row w7 _ 3 _ _ _ b2; have q4 : w7.cell? ⟨w.heap.size + 1 + 1, 4, none⟩ = some (.slice none 0 0) := cell_of_row w7 _ 4 _ _ _ b2; have qf0 : w7.frozen? ⟨w.heap.size + 1 + 1, 0, none⟩ = false := frozen_of_row w7 _ 0 _ _ b2; have qf1 : w7.frozen? ⟨w.heap.size + 1 + 1, 1, none⟩ = false := frozen_of_row w7 _ 1 _ _ b2; have qf2 : w7.frozen? ⟨w.heap.size + 1 + 1, 2, none⟩ = false := frozen_of_row w7 _ 2 _ _ b2; have qf3 : w7.frozen? ⟨w.heap.size + 1 + 1, 3, none⟩ = false := frozen_of_row w7 _ 3 _ _ b2; have qf4 : w7.frozen? ⟨w.heap.size + 1 + 1, 4, none⟩ = false := frozen_of_row w7 _ 4 _ _ b2; obtain ⟨y0, hy0⟩ : ∃ u, w7.cell? ⟨g, k * 7, none⟩ = some u := ⟨_, (hcat _ (by omega)).trans (List.getElem?_eq_getElem (by rw [ho7.1]; omega))⟩; have hz0 := hfz (k * 7); obtain ⟨y1, hy1⟩ : ∃ u, w7.cell? ⟨g, k * 7 + 1, none⟩ = some u := ⟨_, (hcat _ (by omega)).trans (List.getElem?_eq_getElem (by rw [ho7.1]; omega))⟩; have hz1 := hfz (k * 7 + 1); obtain ⟨y2, hy2⟩ : ∃ u, w7.cell? ⟨g, k * 7 + 2, none⟩ = some u := ⟨_, (hcat _ (by omega)).trans (List.getElem?_eq_getElem (by rw [ho7.1]; omega))⟩; have hz2 := hfz (k * 7 + 2); obtain ⟨y3, hy3⟩ : ∃ u, w7.cell? ⟨g, k * 7 + 3, none⟩ = some u := ⟨_, (hcat _ (by omega)).trans (List.getElem?_eq_getElem (by rw [ho7.1]; omega))⟩; have hz3 := hfz (k * 7 + 3); obtain ⟨y4, hy4⟩ : ∃ u, w7.cell? ⟨g, k * 7 + 4, none⟩ = some u := ⟨_, (hcat _ (by omega)).trans (List.getElem?_eq_getElem (by rw [ho7.1]; omega))⟩; have hz4 := hfz (k * 7 + 4); obtain ⟨y5, hy5⟩ : ∃ u, w7.cell? ⟨g, k * 7 + 5, none⟩ = some u := ⟨_, (hcat _ (by omega)).trans (List.getElem?_eq_getElem (by rw [ho7.1]; omega))⟩; have hz5 := hfz (k * 7 + 5); obtain ⟨y6, hy6⟩ : ∃ u, w7.cell? ⟨g, k * 7 + 6, none⟩ = some u := ⟨_, (hcat _ (by omega)).trans (List.getElem?_eq_getElem (by rw [ho7.1]; omega))⟩; have hz6 := hfz (k * 7 + 6); have ne1 : w.heap.size ≠ g := (by omega); have ne2 : w.heap.size + 1 ≠ g := (by omega); have ne3 : w.heap.size + 1 + 1 ≠ g := (by omega); have kl : (k : Int) < (s.C.length : Int) := (by omega); clear b1 bf b2 hcat hfz)
  refine bodyPost_ret (v := .agg #[.slice A s.M.W.length c, .slice B s.M.G.length d, .bool s.M.bad, .slice (some ⟨g, 0, none⟩) s.C.length cap, .slice AL s.L.length cL]) (by simp [results, Try.results35, go_sem, q0, q1, q2, q3, q4]) rfl ?_
  have key : ∀ w', Turn (fun b => b = w.heap.size + 1 + 1) (((((((w7.setCell ⟨g, k * 7, none⟩ (.slice AF x.F.length cF)).setCell ⟨g, k * 7 + 1, none⟩ (.int .i64 x.v)).setCell ⟨g, k * 7 + 2, none⟩ (.int .i64 x.e)).setCell ⟨g, k * 7 + 3, none⟩ (.int .i64 x.x0)).setCell ⟨g, k * 7 + 4, none⟩ (.int .i64 x.x1)).setCell ⟨g, k * 7 + 5, none⟩ (.int .i64 x.x2)).setCell ⟨g, k * 7 + 6, none⟩ (.slice AR x.ret.length cR)) w' → RetSys w (syWith s k x) (.returned (.agg #[.slice A s.M.W.length c, .slice B s.M.G.length d, .bool s.M.bad, .slice (some ⟨g, 0, none⟩) s.C.length cap, .slice AL s.L.length cL])) w' := fun w' hT => by
    obtain ⟨h1, h2'⟩ := own_put7 ho7 csCells_each (i := k) (by rw [csCells_len hq]; exact hk) (.slice AF x.F.length cF) (.int .i64 x.v) (.int .i64 x.e) (.int .i64 x.x0) (.int .i64 x.x1) (.int .i64 x.x2) (.slice AR x.ret.length cR)
    have e : (csCells s.C qs).set k [.slice AF x.F.length cF, .int .i64 x.v, .int .i64 x.e, .int .i64 x.x0, .int .i64 x.x1, .int .i64 x.x2, .slice AR x.ret.length cR] = csCells (s.C.set k x) (qs.set k ⟨AF, cF, AR, cR⟩) := zip_set (f := coC) (us := s.C) (ys := qs) (i := k) (a := x) (b := ⟨AF, cF, AR, cR⟩)
    rw [e] at h1
    have tg : Turn (fun b => b = g) w7 _ := (Turn.refl _ _).grown h2' (fun b hb => by simpa using hb.symm)
    have tt : Turn (fun b => b = g ∨ b = w.heap.size + 1 + 1) w7 w' := (tg.mono (fun b _ h => .inl h)).trans (hT.mono (fun b _ h => .inr h))
    have hb : Below w.heap.size w w' := (hw2.trans (j7.mono (by omega))).trans (tt.to_below (by have := hw2.size; have := j7.size; omega) (fun b h => by omega))
    have hlq : (qs.set k ⟨AF, cF, AR, cR⟩).length = (s.C.set k x).length := by simpa using hq
    obtain ⟨A9, c9, e9, hs9⟩ := own_src (own_turn h1 hT (fun b hb h => by simp [Value.ownBlock] at hb; omega)) csCells_each (by rw [csCells_len hlq]; simp) (csCells_one _ _)
    have rC := Src.rowC hlq hs9 (fun j y q hy hqj => by
      by_cases ej : j = k
      · subst ej
        rw [List.getElem?_set_self hk] at hy
        rw [List.getElem?_set_self (by omega)] at hqj
        injection hy with hy
        injection hqj with hqj
        subst hy hqj
        exact ⟨hF.step hb, hRt.step hb, hcp⟩
      · rw [List.getElem?_set_ne (fun h => ej h.symm)] at hy hqj
        obtain ⟨r1, r2, r3⟩ := hR j y q hy hqj
        exact ⟨r1.step hb, r2.step hb, r3⟩)
    obtain ⟨rfl, rfl⟩ : A9 = some ⟨g, 0, none⟩ ∧ c9 = cap := by simpa using e9.symm
    refine ⟨A, B, _, AL, c, d, c9, cL, ?_, hW.step hb, hG.step hb, rC, hL.step hb, hb⟩
    simp [syWith]
  exact key _ (turn5 _ _ _ _ _ _ _)
end Go.Proofs.Ytpagekhgeahmaaa
