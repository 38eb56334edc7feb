/- Contracts: cores that are copied. -/
import Derived.Test.YtpagekhgeahmaaaCopy1
import Derived.StillTailTactics
import Derived.LoopTactic
import Derived.Deep.RegionHeld3
import Derived.Deep.CutRange
namespace Go.Proofs.Ytpagekhgeahmaaa
open Go.RowKit
set_option linter.unusedVariables false
set_option linter.unusedSimpArgs false

/-- The loop over a core's frames, behind k rounds. -/
structure Fl (x : Co) (ps : List (Option Addr × Nat)) (hB : Nat) (vF : Value) (wm : World) (k : Nat) (wr : World) : Prop where
  ex : ∃ ps' : List (Option Addr × Nat), ps'.length = x.F.length ∧ wr.ownsRow hB 42 11 vF x.F.length (fsCells x.F ps').flatten ∧
    (∀ (j : Nat) (f : Fr) (p : Option Addr × Nat), x.F[j]? = some f → ps'[j]? = some p → (j < k → RowI (fun b => wm.heap.size ≤ b) wr p.1 f.S) ∧ (k ≤ j → ps[j]? = some p))
  t : Turn (fun b => vF.ownBlock = some b) wm wr
  gl : ∀ g, vF.ownBlock = some g → hB ≤ g ∧ g < wm.heap.size

theorem Fl.start {x : Co} {ps : List (Option Addr × Nat)} {hB : Nat} {vF : Value} {wm : World} (hp : ps.length = x.F.length) (ho : wm.ownsRow hB 42 11 vF x.F.length (fsCells x.F ps).flatten) : Fl x ps hB vF wm 0 wm :=
  ⟨⟨ps, hp, ho, fun j f p hf hpj => ⟨fun h => by omega, fun _ => hpj⟩⟩, Turn.refl _ _, ho.lt⟩

/-- What the round k finds: the frame's cells, and where its S lies. -/
theorem Fl.look {x : Co} {ps : List (Option Addr × Nat)} {hB g cap : Nat} {wm wr : World} {k : Nat} (h8 : ∀ f ∈ x.F, f.R.length = 8) (h : Fl x ps hB (.slice (some ⟨g, 0, none⟩) x.F.length cap) wm k wr) {f : Fr} (hf : x.F[k]? = some f) :
    ∃ p, ps[k]? = some p ∧ (∀ r v, (frCells f p)[r]? = some v → wr.cell? ⟨g, k * 11 + r, none⟩ = some v) ∧ (∀ j, wr.frozen? ⟨g, j, none⟩ = false) := by
  obtain ⟨⟨ps', hl, ho, hj⟩, t, _⟩ := h
  have hkl : k < x.F.length := (List.getElem?_eq_some_iff.1 hf).1
  obtain ⟨p, hp⟩ := some_of hl hf
  refine ⟨p, (hj k f p hf hp).2 (Nat.le_refl _), fun r v hv => ?_, ho.frozenAt⟩
  have hr : r < 11 := by have := (List.getElem?_eq_some_iff.1 hv).1; rw [frCells_len p (h8 f (List.mem_of_getElem? hf))] at this; exact this
  rw [ho.cellAt _ (by have : (k + 1) * 11 ≤ x.F.length * 11 := Nat.mul_le_mul_right _ hkl; omega)]
  exact flat_at (fsCells_each h8) (zip_at hf hp) hv

theorem Fl.next {x : Co} {ps : List (Option Addr × Nat)} {hB g cap : Nat} {wm wr w3 : World} {k : Nat} (h8 : ∀ f ∈ x.F, f.R.length = 8) (h : Fl x ps hB (.slice (some ⟨g, 0, none⟩) x.F.length cap) wm k wr)
    {op pc r0 r1 r2 r3 r4 r5 r6 r7 : Int} {xs : List Int} (hf : x.F[k]? = some ⟨op, pc, [r0, r1, r2, r3, r4, r5, r6, r7], xs⟩) (hb : Below wr.heap.size wr w3) {A : Option Addr} {c : Nat} (hr : RowI (fun b => wr.heap.size ≤ b) w3 A xs) :
    Fl x ps hB (.slice (some ⟨g, 0, none⟩) x.F.length cap) wm (k + 1) (((((((((((w3.setCell ⟨g, k * 11, none⟩ (.int .i64 op)).setCell ⟨g, k * 11 + 1, none⟩ (.int .i64 pc)).setCell ⟨g, k * 11 + 2, none⟩ (.int .i64 r0)).setCell ⟨g, k * 11 + 3, none⟩ (.int .i64 r1)).setCell ⟨g, k * 11 + 4, none⟩ (.int .i64 r2)).setCell ⟨g, k * 11 + 5, none⟩ (.int .i64 r3)).setCell ⟨g, k * 11 + 6, none⟩ (.int .i64 r4)).setCell ⟨g, k * 11 + 7, none⟩ (.int .i64 r5)).setCell ⟨g, k * 11 + 8, none⟩ (.int .i64 r6)).setCell ⟨g, k * 11 + 9, none⟩ (.int .i64 r7)).setCell ⟨g, k * 11 + 10, none⟩ (.slice A xs.length c)) := by
  obtain ⟨⟨ps', hl, ho, hj⟩, t, gl⟩ := h
  have hkl : k < x.F.length := (List.getElem?_eq_some_iff.1 hf).1
  obtain ⟨p, hp⟩ := some_of hl hf
  obtain ⟨g1, g2⟩ := gl g rfl
  have h1 := own_put11 (own_step ho hb) (fsCells_each h8) (i := k) (by rw [fsCells_len hl]; exact hkl) (.int .i64 op) (.int .i64 pc) (.int .i64 r0) (.int .i64 r1) (.int .i64 r2) (.int .i64 r3) (.int .i64 r4) (.int .i64 r5) (.int .i64 r6) (.int .i64 r7) (.slice A xs.length c)
  rw [show (fsCells x.F ps').set k [.int .i64 op, .int .i64 pc, .int .i64 r0, .int .i64 r1, .int .i64 r2, .int .i64 r3, .int .i64 r4, .int .i64 r5, .int .i64 r6, .int .i64 r7, .slice A xs.length c] = fsCells x.F (ps'.set k (A, c)) from by
    have := zip_set (f := frCells) (us := x.F) (ys := ps') (i := k) (a := ⟨op, pc, [r0, r1, r2, r3, r4, r5, r6, r7], xs⟩) (b := (A, c))
    rw [set_same hf] at this
    exact this] at h1
  obtain ⟨h1, h2⟩ := h1
  have hT : Turn (fun b => Value.ownBlock (.slice (some ⟨g, 0, none⟩) x.F.length cap) = some b) w3 _ := (Turn.refl _ _).grown h2 (fun b hb => by simpa [Value.ownBlock] using hb)
  refine ⟨⟨ps'.set k (A, c), by simpa using hl, h1, fun j f q hfj hq => ?_⟩, (t.below hb).trans hT, gl⟩
  by_cases e : j = k
  · subst e
    rw [List.getElem?_set_self (by omega)] at hq
    injection hq with hq
    subst hq
    rw [hf] at hfj
    injection hfj with hfj
    subst hfj
    exact ⟨fun _ => (hr.mono (fun b _ hb => Nat.le_trans t.size hb)).turn hT (fun b _ hb e => by simp [Value.ownBlock] at e; omega), fun h => by omega⟩
  · rw [List.getElem?_set_ne (fun h => e h.symm)] at hq
    obtain ⟨a1, a2⟩ := hj j f q hfj hq
    exact ⟨fun h => ((a1 (by omega)).keep hb.size (fun b hl _ => hb.block b hl)).turn hT (fun b _ hb e => by simp [Value.ownBlock] at e; omega), fun h => a2 (by omega)⟩

/-- What the loop leaves is a core of the call's own. -/
theorem Fl.done {x : Co} {ps : List (Option Addr × Nat)} {hB lo : Nat} {vF : Value} {AR : Option Addr} {cR : Nat} {wm wr : World} {k : Nat} (h8 : ∀ f ∈ x.F, f.R.length = 8) (h : Fl x ps hB vF wm k wr) (hk : x.F.length ≤ k) (hlo : lo ≤ hB)
    (hr : RowI (fun b => lo ≤ b ∧ b < hB) wm AR x.ret) (hBm : hB ≤ wm.heap.size) : ∃ ps', CoI 42 (fun b => lo ≤ b) wr x ps' vF (.slice AR x.ret.length cR) := by
  obtain ⟨⟨ps', hl, ho, hj⟩, t, gl⟩ := h
  refine ⟨ps', hl, h8, own_base ho (Nat.zero_le _), fun g hg => Nat.le_trans hlo (gl g hg).1, fun j f p hf hp => ?_, _, _, rfl, ?_⟩
  · have hjl : j < x.F.length := (List.getElem?_eq_some_iff.1 hf).1
    exact ((hj j f p hf hp).1 (by omega)).mono (fun b _ hb => ⟨by omega, fun e => by have := gl b e; omega⟩)
  · exact (hr.turn t (fun b _ hb e => by have := gl b e; omega)).mono (fun b _ hb => ⟨hb.1, fun e => by have := gl b e; omega⟩)
end Go.Proofs.Ytpagekhgeahmaaa
