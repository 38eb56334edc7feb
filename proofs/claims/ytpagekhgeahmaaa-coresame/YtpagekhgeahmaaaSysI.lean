/- Systems of the call's own: which block is whose. No Go text but types. -/
import Derived.Test.YtpagekhgeahmaaaPut
namespace Go.Proofs.Ytpagekhgeahmaaa
open Go.RowKit
set_option linter.unusedVariables false

def csV (cs : List Co) (vs : List (Value × Value)) : List (List Value) := List.zipWith (fun x v => coCells x v.1 v.2) cs vs
theorem csV_len {cs : List Co} {vs : List (Value × Value)} (h : vs.length = cs.length) : (csV cs vs).length = cs.length := by simp [csV, h]
theorem csV_each {cs : List Co} {vs : List (Value × Value)} : Each 7 (csV cs vs) := fun c hc => by
  obtain ⟨i, hi⟩ := List.mem_iff_getElem?.1 hc
  obtain ⟨f, p, hf, _, rfl⟩ := zip_inv hi
  rfl

/-- The loop over the cores, behind k rounds. -/
structure Cl (s : Sy) (qs : List Pq) (lo : Nat) (vC : Value) (wm : World) (k : Nat) (wr : World) : Prop where
  ex : ∃ (vs : List (Value × Value)) (own : Nat → Nat), vs.length = s.C.length ∧ wr.ownsRow lo 65 7 vC s.C.length (csV s.C vs).flatten ∧
    ∀ (j : Nat) (x : Co) (v : Value × Value), s.C[j]? = some x → vs[j]? = some v → (j < k → ∃ ps, CoI 42 (fun b => wm.heap.size ≤ b ∧ own b = j) wr x ps v.1 v.2) ∧
      (k ≤ j → ∃ q, qs[j]? = some q ∧ v = (.slice q.AF x.F.length q.cF, .slice q.AR x.ret.length q.cR))
  t : Turn (fun b => vC.ownBlock = some b) wm wr
  gl : ∀ g, vC.ownBlock = some g → lo ≤ g ∧ g < wm.heap.size

theorem Cl.start {s : Sy} {qs : List Pq} {lo : Nat} {vC : Value} {wm : World} (hq : qs.length = s.C.length) (ho : wm.ownsRow lo 65 7 vC s.C.length (csCells s.C qs).flatten) : Cl s qs lo vC wm 0 wm := by
  obtain ⟨vs, hl, hv⟩ := list_of (n := s.C.length) (p := fun j v => ∀ x q, s.C[j]? = some x → qs[j]? = some q → v = ((.slice q.AF x.F.length q.cF, .slice q.AR x.ret.length q.cR) : Value × Value)) (fun j hj => by
    obtain ⟨q, hqj⟩ := some_of hq (List.getElem?_eq_getElem hj)
    exact ⟨(.slice q.AF s.C[j].F.length q.cF, .slice q.AR s.C[j].ret.length q.cR), fun x q' hx hq' => by
      rw [List.getElem?_eq_getElem hj] at hx
      injection hx with hx
      rw [hqj] at hq'
      injection hq' with hq'
      subst hx hq'
      rfl⟩)
  have e : csCells s.C qs = csV s.C vs := by
    apply List.ext_getElem?
    intro j
    by_cases hj : j < s.C.length
    · obtain ⟨q, hqj⟩ := some_of hq (List.getElem?_eq_getElem hj)
      obtain ⟨v, hvj⟩ := some_of hl (List.getElem?_eq_getElem hj)
      rw [csCells, csV, zip_at (List.getElem?_eq_getElem hj) hqj, zip_at (List.getElem?_eq_getElem hj) hvj, hv j v hvj _ _ (List.getElem?_eq_getElem hj) hqj]
      rfl
    · rw [List.getElem?_eq_none (by rw [csCells_len hq]; omega), List.getElem?_eq_none (by rw [csV_len hl]; omega)]
  rw [e] at ho
  refine ⟨⟨vs, fun _ => 0, hl, ho, fun j x v hx hvj => ⟨fun h => by omega, fun _ => ?_⟩⟩, Turn.refl _ _, ho.lt⟩
  obtain ⟨q, hqj⟩ := some_of hq hx
  exact ⟨q, hqj, hv j v hvj x q hx hqj⟩

theorem Cl.look {s : Sy} {qs : List Pq} {lo g cap : Nat} {wm wr : World} {k : Nat} (h : Cl s qs lo (.slice (some ⟨g, 0, none⟩) s.C.length cap) wm k wr) {x : Co} (hx : s.C[k]? = some x) :
    ∃ q, qs[k]? = some q ∧ (∀ r v, (coC x q)[r]? = some v → wr.cell? ⟨g, k * 7 + r, none⟩ = some v) ∧ (∀ j, wr.frozen? ⟨g, j, none⟩ = false) := by
  obtain ⟨⟨vs, own, hl, ho, hj⟩, t, _⟩ := h
  have hkl : k < s.C.length := (List.getElem?_eq_some_iff.1 hx).1
  obtain ⟨v, hv⟩ := some_of hl hx
  obtain ⟨q, hq, e⟩ := (hj k x v hx hv).2 (Nat.le_refl _)
  refine ⟨q, hq, fun r u hu => ?_, ho.frozenAt⟩
  have hr : r < 7 := (List.getElem?_eq_some_iff.1 hu).1
  rw [ho.cellAt _ (by have : (k + 1) * 7 ≤ s.C.length * 7 := Nat.mul_le_mul_right _ hkl; omega)]
  exact flat_at csV_each (zip_at hx hv) (by rw [e]; exact hu)

theorem Cl.next {s : Sy} {qs : List Pq} {lo g cap : Nat} {wm wr w3 : World} {k : Nat} (h : Cl s qs lo (.slice (some ⟨g, 0, none⟩) s.C.length cap) wm k wr) {x : Co} (hx : s.C[k]? = some x) (hb : Below wr.heap.size wr w3) {ps : List (Option Addr × Nat)} {vF vR : Value}
    (hc : CoI 42 (fun b => wr.heap.size ≤ b) w3 x ps vF vR) :
    Cl s qs lo (.slice (some ⟨g, 0, none⟩) s.C.length cap) wm (k + 1) (((((((w3.setCell ⟨g, k * 7, none⟩ vF).setCell ⟨g, k * 7 + 1, none⟩ (.int .i64 x.v)).setCell ⟨g, k * 7 + 2, none⟩ (.int .i64 x.e)).setCell ⟨g, k * 7 + 3, none⟩ (.int .i64 x.x0)).setCell ⟨g, k * 7 + 4, none⟩ (.int .i64 x.x1)).setCell ⟨g, k * 7 + 5, none⟩ (.int .i64 x.x2)).setCell ⟨g, k * 7 + 6, none⟩ vR) := by
  obtain ⟨⟨vs, own, hl, ho, hj⟩, t, gl⟩ := h
  have hkl : k < s.C.length := (List.getElem?_eq_some_iff.1 hx).1
  obtain ⟨v, hv⟩ := some_of hl hx
  obtain ⟨g1, g2⟩ := gl g rfl
  obtain ⟨h1, h2⟩ := own_put7 (own_step ho hb) csV_each (i := k) (by rw [csV_len hl]; exact hkl) vF (.int .i64 x.v) (.int .i64 x.e) (.int .i64 x.x0) (.int .i64 x.x1) (.int .i64 x.x2) vR
  have e : (csV s.C vs).set k [vF, .int .i64 x.v, .int .i64 x.e, .int .i64 x.x0, .int .i64 x.x1, .int .i64 x.x2, vR] = csV s.C (vs.set k (vF, vR)) := by
    have := zip_set (f := fun (x : Co) (v : Value × Value) => coCells x v.1 v.2) (us := s.C) (ys := vs) (i := k) (a := x) (b := (vF, vR))
    rw [set_same hx] at this
    exact this
  rw [e] at h1
  have hT : Turn (fun b => Value.ownBlock (.slice (some ⟨g, 0, none⟩) s.C.length cap) = some b) w3 _ := (Turn.refl _ _).grown h2 (fun b hb => by simpa [Value.ownBlock] using hb)
  have hsz : wm.heap.size ≤ wr.heap.size := t.size
  refine ⟨⟨vs.set k (vF, vR), fun b => if b < wr.heap.size then own b else k, by simpa using hl, h1, fun j y u hy hu => ?_⟩, (t.below hb).trans hT, gl⟩
  by_cases ej : j = k
  · subst ej
    rw [List.getElem?_set_self (by omega)] at hu
    injection hu with hu
    subst hu
    rw [hx] at hy
    injection hy with hy
    subst hy
    exact ⟨fun _ => ⟨ps, (hc.mono (fun b _ hb => ⟨by omega, if_neg (by omega)⟩)).turn hT (fun b _ hb e => by simp [Value.ownBlock] at e; omega)⟩, fun h => by omega⟩
  · rw [List.getElem?_set_ne (fun h => ej h.symm)] at hu
    obtain ⟨a1, a2⟩ := hj j y u hy hu
    refine ⟨fun hjk => ?_, fun h => a2 (by omega)⟩
    obtain ⟨ps', C⟩ := a1 (by omega)
    exact ⟨ps', ((C.mono (fun b hl hb => ⟨hb.1, (if_pos hl).trans hb.2⟩)).keep hb.size (fun b hl _ => hb.block b hl)).turn hT (fun b _ hb e => by simp [Value.ownBlock] at e; omega)⟩

/-- A system of the call's own: blocks from lo on; from hm on the cores', each core's its own; below that W's, G's, the cores' row and the events'. -/
structure SyI (s : Sy) (lo hm : Nat) (own : Nat → Nat) (vs : List (Value × Value)) (AW AG : Option Addr) (vC vL : Value) (w : World) : Prop where
  len : vs.length = s.C.length
  wr : RowI (fun b => lo ≤ b ∧ b < hm ∧ vC.ownBlock ≠ some b ∧ vL.ownBlock ≠ some b) w AW s.M.W
  gr : RowI (fun b => lo ≤ b ∧ b < hm ∧ vC.ownBlock ≠ some b ∧ vL.ownBlock ≠ some b) w AG s.M.G
  co : w.ownsRow lo 65 7 vC s.C.length (csV s.C vs).flatten
  ev : w.ownsRow lo 56 5 vL s.L.length (s.L.map evCells).flatten
  cb : ∀ g, vC.ownBlock = some g → g < hm ∧ vL.ownBlock ≠ some g
  eb : ∀ g, vL.ownBlock = some g → g < hm
  ci : ∀ (j : Nat) (x : Co) (v : Value × Value), s.C[j]? = some x → vs[j]? = some v → ∃ ps, CoI 42 (fun b => hm ≤ b ∧ own b = j) w x ps v.1 v.2
  lh : lo ≤ hm
  hw : hm ≤ w.heap.size

/-- A copy of a system, of the call's own, is returned. -/
def RetCopy (w : World) (s : Sy) (e : Ending) (w' : World) : Prop :=
  ∃ (lo hm : Nat) (own : Nat → Nat) (vs : List (Value × Value)) (AW AG : Option Addr) (cW cG : Nat) (vC vL : Value), e = .returned (.agg #[.slice AW s.M.W.length cW, .slice AG s.M.G.length cG, .bool s.M.bad, vC, vL]) ∧ w.heap.size ≤ lo ∧ SyI s lo hm own vs AW AG vC vL w' ∧ Below w.heap.size w w'

/-- A system that is returned. -/
def RetSys (w : World) (s : Sy) (e : Ending) (w' : World) : Prop :=
  ∃ (A B AC AL : Option Addr) (c d cC cL : Nat), e = .returned (.agg #[.slice A s.M.W.length c, .slice B s.M.G.length d, .bool s.M.bad, .slice AC s.C.length cC, .slice AL s.L.length cL]) ∧
    Row w' A s.M.W ∧ Row w' B s.M.G ∧ RowC w' AC s.C ∧ RowE w' AL s.L ∧ Below w.heap.size w w'

/-- The cores' row, as it is told to others. -/
theorem cs_told {w : World} {lo : Nat} {vC : Value} {cs : List Co} {vs : List (Value × Value)} (hl : vs.length = cs.length) (ho : w.ownsRow lo 65 7 vC cs.length (csV cs vs).flatten)
    (hc : ∀ (j : Nat) (x : Co) (v : Value × Value), cs[j]? = some x → vs[j]? = some v → ∃ AF cF AR cR, v.1 = .slice AF x.F.length cF ∧ v.2 = .slice AR x.ret.length cR ∧ RowF w AF x.F ∧ Row w AR x.ret ∧ x.F.length ≤ cF) : ∃ AC cC, vC = .slice AC cs.length cC ∧ RowC w AC cs := by
  obtain ⟨qs, hq, hqs⟩ := list_of (n := cs.length) (p := fun j (q : Pq) => ∀ x v, cs[j]? = some x → vs[j]? = some v → v = ((.slice q.AF x.F.length q.cF, .slice q.AR x.ret.length q.cR) : Value × Value) ∧ RowF w q.AF x.F ∧ Row w q.AR x.ret ∧ x.F.length ≤ q.cF) (fun j hj => by
    obtain ⟨v, hv⟩ := some_of hl (List.getElem?_eq_getElem hj)
    obtain ⟨AF, cF, AR, cR, e1, e2, r1, r2⟩ := hc j _ v (List.getElem?_eq_getElem hj) hv
    refine ⟨⟨AF, cF, AR, cR⟩, fun x v' hx hv' => ?_⟩
    rw [List.getElem?_eq_getElem hj] at hx
    injection hx with hx
    rw [hv] at hv'
    injection hv' with hv'
    subst hx hv'
    exact ⟨Prod.ext e1 e2, r1, r2⟩)
  have e : csV cs vs = csCells cs qs := by
    apply List.ext_getElem?
    intro j
    by_cases hj : j < cs.length
    · obtain ⟨q, hqj⟩ := some_of hq (List.getElem?_eq_getElem hj)
      obtain ⟨v, hvj⟩ := some_of hl (List.getElem?_eq_getElem hj)
      rw [csCells, csV, zip_at (List.getElem?_eq_getElem hj) hqj, zip_at (List.getElem?_eq_getElem hj) hvj, (hqs j q hqj _ v (List.getElem?_eq_getElem hj) hvj).1]
      rfl
    · rw [List.getElem?_eq_none (by rw [csV_len hl]; omega), List.getElem?_eq_none (by rw [csCells_len hq]; omega)]
  rw [e] at ho
  obtain ⟨A, c, e1, hs⟩ := own_src ho csCells_each (csCells_len hq) (csCells_one _ _)
  refine ⟨A, c, e1, Src.rowC hq hs (fun j x q hx hqj => ?_)⟩
  obtain ⟨v, hv⟩ := some_of hl hx
  exact (hqs j q hqj x v hx hv).2

theorem ev_told {w : World} {lo : Nat} {vL : Value} {es : List Evt} (ho : w.ownsRow lo 56 5 vL es.length (es.map evCells).flatten) : ∃ AL cL, vL = .slice AL es.length cL ∧ RowE w AL es := by
  obtain ⟨A, c, e1, hs⟩ := own_src ho (fun c hc => by obtain ⟨x, _, rfl⟩ := List.mem_map.1 hc; rfl) (by simp) (fun c hc v hv => by obtain ⟨x, _, rfl⟩ := List.mem_map.1 hc; exact evCells_one x v hv)
  exact ⟨A, c, e1, hs.rowE⟩

theorem SyI.told {s : Sy} {lo hm : Nat} {own : Nat → Nat} {vs : List (Value × Value)} {AW AG : Option Addr} {vC vL : Value} {w0 w : World} (h : SyI s lo hm own vs AW AG vC vL w) (cW cG : Nat) (hb : Below w0.heap.size w0 w) :
    RetSys w0 s (.returned (.agg #[.slice AW s.M.W.length cW, .slice AG s.M.G.length cG, .bool s.M.bad, vC, vL])) w := by
  obtain ⟨AC, cC, rfl, rC⟩ := cs_told h.len h.co (fun j x v hx hv => by
    obtain ⟨ps, C⟩ := h.ci j x v hx hv
    exact C.told)
  obtain ⟨AL, cL, rfl, rL⟩ := ev_told h.ev
  exact ⟨_, _, _, _, _, _, _, _, rfl, h.wr.row, h.gr.row, rC, rL, hb⟩

/-- Blocks that are none of its own may turn. -/
theorem SyI.turn {s : Sy} {lo hm : Nat} {own : Nat → Nat} {vs : List (Value × Value)} {AW AG : Option Addr} {vC vL : Value} {w w' : World} {p : Nat → Prop} (h : SyI s lo hm own vs AW AG vC vL w) (t : Turn p w w') (hp : ∀ b, lo ≤ b → ¬ p b) : SyI s lo hm own vs AW AG vC vL w' :=
  ⟨h.len, h.wr.turn t (fun b _ hb => hp b hb.1), h.gr.turn t (fun b _ hb => hp b hb.1), own_turn h.co t (fun g hg => hp g (h.co.lt g hg).1), own_turn h.ev t (fun g hg => hp g (h.ev.lt g hg).1), h.cb, h.eb,
    fun j x v hx hv => by
      obtain ⟨ps, C⟩ := h.ci j x v hx hv
      exact ⟨ps, C.turn t (fun b _ hb => hp b (by have := h.lh; omega))⟩,
    h.lh, Nat.le_trans h.hw t.size⟩

theorem Cl.done {s : Sy} {qs : List Pq} {lo k : Nat} {vC vL : Value} {AW AG : Option Addr} {wm wr : World} (h : Cl s qs lo vC wm k wr) (hk : s.C.length ≤ k) (hlo : lo ≤ wm.heap.size)
    (hW : RowI (fun b => lo ≤ b ∧ vC.ownBlock ≠ some b ∧ vL.ownBlock ≠ some b) wm AW s.M.W) (hG : RowI (fun b => lo ≤ b ∧ vC.ownBlock ≠ some b ∧ vL.ownBlock ≠ some b) wm AG s.M.G)
    (ev : wm.ownsRow lo 56 5 vL s.L.length (s.L.map evCells).flatten) (ne : ∀ g, vL.ownBlock = some g → vC.ownBlock ≠ some g) :
    ∃ own vs, SyI s lo wm.heap.size own vs AW AG vC vL wr := by
  obtain ⟨⟨vs, own, hl, ho, hj⟩, t, gl⟩ := h
  refine ⟨own, vs, hl, ?_, ?_, ho, own_turn ev t ne, fun g hg => ⟨(gl g hg).2, fun e => ne g e hg⟩, fun g hg => (ev.lt g hg).2, fun j x v hx hv => ?_, hlo, t.size⟩
  · exact (hW.mono (fun b hl hb => ⟨hb.1, hl, hb.2⟩)).turn t (fun b _ hb => hb.2.2.1)
  · exact (hG.mono (fun b hl hb => ⟨hb.1, hl, hb.2⟩)).turn t (fun b _ hb => hb.2.2.1)
  · have hjl : j < s.C.length := (List.getElem?_eq_some_iff.1 hx).1
    exact (hj j x v hx hv).1 (by omega)
end Go.Proofs.Ytpagekhgeahmaaa
