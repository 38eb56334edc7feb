/- Elements stored into a row of the call's own; rows and cores in blocks that are allowed. No Go text. -/
import Derived.Test.YtpagekhgeahmaaaCells2
namespace Go.Proofs.Ytpagekhgeahmaaa
open Go.RowKit

theorem set_same {α : Type} {l : List α} {k : Nat} {x : α} (h : l[k]? = some x) : l.set k x = l := by
  apply List.ext_getElem?
  intro j
  rw [List.getElem?_set]
  split
  · rename_i e; subst e
    split
    · exact h.symm
    · rename_i hn; rw [List.getElem?_eq_none (by omega)]
  · rfl

/-- The values vs laid into l from place o on. -/
def setL : List Value → Nat → List Value → List Value
  | l, _, [] => l
  | l, o, v :: vs => setL (l.set o v) (o + 1) vs

theorem setL_end : ∀ (vs c : List Value) (r : Nat), r + vs.length = c.length → setL c r vs = c.take r ++ vs
  | [], c, r, h => by
    simp at h
    simp [setL, h]
  | v :: vs, c, r, h => by
    simp only [List.length_cons] at h
    rw [setL, setL_end vs (c.set r v) (r + 1) (by simp; omega)]
    have hr : r < c.length := by omega
    rw [List.take_add_one, List.take_set_of_le (Nat.le_refl _)]
    simp [hr]

theorem flat_setL {k : Nat} : ∀ (vs : List Value) {css : List (List Value)} {i r : Nat} {c : List Value}, Each k css → css[i]? = some c → r + vs.length ≤ k → setL css.flatten (i * k + r) vs = (css.set i (setL c r vs)).flatten
  | [], css, i, r, c, h, hc, hr => by
    have : css.set i c = css := by
      apply List.ext_getElem?
      intro j
      rw [List.getElem?_set]
      split
      · rename_i e; subst e
        split
        · exact hc.symm
        · rename_i hn; rw [List.getElem?_eq_none (by omega)]
      · rfl
    simp only [setL, this]
  | v :: vs, css, i, r, c, h, hc, hr => by
    simp only [List.length_cons] at hr
    have hcl : c.length = k := h c (List.mem_of_getElem? hc)
    rw [setL, flat_set h hc (by omega)]
    have hi : i < css.length := (List.getElem?_eq_some_iff.1 hc).1
    have := flat_setL (k := k) vs (css := css.set i (c.set r v)) (i := i) (r := r + 1) (c := c.set r v) (h.set i (by simpa using hcl)) (by rw [List.getElem?_set_self hi]) (by omega)
    rw [show i * k + r + 1 = i * k + (r + 1) by omega, this, List.set_set, setL]

theorem flat_put {k : Nat} {css : List (List Value)} {i : Nat} {vs : List Value} (h : Each k css) (hi : i < css.length) (hv : vs.length = k) : setL css.flatten (i * k) vs = (css.set i vs).flatten := by
  have hc : css[i]? = some css[i] := List.getElem?_eq_getElem hi
  have := flat_setL vs (r := 0) h hc (by omega)
  rw [Nat.add_zero] at this
  rw [this, setL_end _ _ _ (by rw [h _ (List.getElem_mem hi)]; omega)]
  simp

theorem grow_trans {a b c : World} {row : Option Nat} (h : a.grownBy b row) (k : b.grownBy c row) : a.grownBy c row :=
  ⟨k.os.trans h.os, k.tape.trans h.tape, k.output.trans h.output, Nat.le_trans h.size k.size, fun i hi hr => (k.block i (Nat.lt_of_lt_of_le hi h.size) hr).trans (h.block i hi hr)⟩
theorem grow_below {a b : World} (row : Option Nat) (h : Below a.heap.size a b) : a.grownBy b row := ⟨h.os, h.tape, h.output, h.size, fun k hk _ => h.block k hk⟩
theorem below_grow {B : Nat} {a b : World} {row : Option Nat} (h : a.grownBy b row) (hB : B ≤ a.heap.size) (hr : ∀ k, row = some k → B ≤ k) : Below B a b := (Below.refl B a).grown h hB hr
theorem grow_set (w : World) (g j : Nat) (u : Value) : w.grownBy (w.setCell ⟨g, j, none⟩ u) (some g) :=
  ⟨rfl, rfl, rfl, by simp [World.setCell], fun k _ hk => heap_setCell_other w ⟨g, j, none⟩ k u (fun e => hk (by rw [e]))⟩

theorem own_put7 {w : World} {base T g n cap i : Nat} {css : List (List Value)} (h : w.ownsRow base T 7 (.slice (some ⟨g, 0, none⟩) n cap) n css.flatten) (he : Each 7 css) (hi : i < css.length) (v0 v1 v2 v3 v4 v5 v6 : Value) :
    (((((((w.setCell ⟨g, i * 7, none⟩ v0).setCell ⟨g, i * 7 + 1, none⟩ v1).setCell ⟨g, i * 7 + 2, none⟩ v2).setCell ⟨g, i * 7 + 3, none⟩ v3).setCell ⟨g, i * 7 + 4, none⟩ v4).setCell ⟨g, i * 7 + 5, none⟩ v5).setCell ⟨g, i * 7 + 6, none⟩ v6).ownsRow base T 7 (.slice (some ⟨g, 0, none⟩) n cap) n (css.set i [v0, v1, v2, v3, v4, v5, v6]).flatten ∧
    w.grownBy (((((((w.setCell ⟨g, i * 7, none⟩ v0).setCell ⟨g, i * 7 + 1, none⟩ v1).setCell ⟨g, i * 7 + 2, none⟩ v2).setCell ⟨g, i * 7 + 3, none⟩ v3).setCell ⟨g, i * 7 + 4, none⟩ v4).setCell ⟨g, i * 7 + 5, none⟩ v5).setCell ⟨g, i * 7 + 6, none⟩ v6) (some g) := by
  refine ⟨?_, ?_⟩
  · rw [← flat_put he hi (vs := [v0, v1, v2, v3, v4, v5, v6]) rfl]
    exact ((((((h.stored _ v0).1.stored _ v1).1.stored _ v2).1.stored _ v3).1.stored _ v4).1.stored _ v5).1.stored _ v6 |>.1
  · exact grow_trans (grow_trans (grow_trans (grow_trans (grow_trans (grow_trans (grow_set _ _ _ _) (grow_set _ _ _ _)) (grow_set _ _ _ _)) (grow_set _ _ _ _)) (grow_set _ _ _ _)) (grow_set _ _ _ _)) (grow_set _ _ _ _)

theorem own_put11 {w : World} {base T g n cap i : Nat} {css : List (List Value)} (h : w.ownsRow base T 11 (.slice (some ⟨g, 0, none⟩) n cap) n css.flatten) (he : Each 11 css) (hi : i < css.length) (v0 v1 v2 v3 v4 v5 v6 v7 v8 v9 v10 : Value) :
    (((((((((((w.setCell ⟨g, i * 11, none⟩ v0).setCell ⟨g, i * 11 + 1, none⟩ v1).setCell ⟨g, i * 11 + 2, none⟩ v2).setCell ⟨g, i * 11 + 3, none⟩ v3).setCell ⟨g, i * 11 + 4, none⟩ v4).setCell ⟨g, i * 11 + 5, none⟩ v5).setCell ⟨g, i * 11 + 6, none⟩ v6).setCell ⟨g, i * 11 + 7, none⟩ v7).setCell ⟨g, i * 11 + 8, none⟩ v8).setCell ⟨g, i * 11 + 9, none⟩ v9).setCell ⟨g, i * 11 + 10, none⟩ v10).ownsRow base T 11 (.slice (some ⟨g, 0, none⟩) n cap) n (css.set i [v0, v1, v2, v3, v4, v5, v6, v7, v8, v9, v10]).flatten ∧
    w.grownBy (((((((((((w.setCell ⟨g, i * 11, none⟩ v0).setCell ⟨g, i * 11 + 1, none⟩ v1).setCell ⟨g, i * 11 + 2, none⟩ v2).setCell ⟨g, i * 11 + 3, none⟩ v3).setCell ⟨g, i * 11 + 4, none⟩ v4).setCell ⟨g, i * 11 + 5, none⟩ v5).setCell ⟨g, i * 11 + 6, none⟩ v6).setCell ⟨g, i * 11 + 7, none⟩ v7).setCell ⟨g, i * 11 + 8, none⟩ v8).setCell ⟨g, i * 11 + 9, none⟩ v9).setCell ⟨g, i * 11 + 10, none⟩ v10) (some g) := by
  refine ⟨?_, ?_⟩
  · rw [← flat_put he hi (vs := [v0, v1, v2, v3, v4, v5, v6, v7, v8, v9, v10]) rfl]
    exact ((((((((((h.stored _ v0).1.stored _ v1).1.stored _ v2).1.stored _ v3).1.stored _ v4).1.stored _ v5).1.stored _ v6).1.stored _ v7).1.stored _ v8).1.stored _ v9).1.stored _ v10 |>.1
  · exact grow_trans (grow_trans (grow_trans (grow_trans (grow_trans (grow_trans (grow_trans (grow_trans (grow_trans (grow_trans (grow_set _ _ _ _) (grow_set _ _ _ _)) (grow_set _ _ _ _)) (grow_set _ _ _ _)) (grow_set _ _ _ _)) (grow_set _ _ _ _)) (grow_set _ _ _ _)) (grow_set _ _ _ _)) (grow_set _ _ _ _)) (grow_set _ _ _ _)) (grow_set _ _ _ _)

/-- A row in a block that is allowed. -/
def RowI (ok : Nat → Prop) (w : World) (A : Option Addr) (xs : List Int) : Prop :=
  0 < xs.length → ∃ b o, A = some ⟨b, o, none⟩ ∧ ok b ∧ b < w.heap.size ∧ ∀ j x, xs[j]? = some x → w.cell? ⟨b, o + j, none⟩ = some (.int .i64 x)
theorem RowI.row {ok : Nat → Prop} {w : World} {A : Option Addr} {xs : List Int} (h : RowI ok w A xs) : Row w A xs := fun hn => by
  obtain ⟨b, o, e, _, hl, hc⟩ := h hn
  exact ⟨b, o, e, hl, hc⟩
theorem RowI.keep {ok : Nat → Prop} {w w' : World} {A : Option Addr} {xs : List Int} (h : RowI ok w A xs) (hs : w.heap.size ≤ w'.heap.size) (hb : ∀ b, b < w.heap.size → ok b → w'.heap[b]? = w.heap[b]?) : RowI ok w' A xs := fun hn => by
  obtain ⟨b, o, e, hok, hl, hc⟩ := h hn
  exact ⟨b, o, e, hok, Nat.lt_of_lt_of_le hl hs, fun j x hx => (World.cell?_of_block (hb b hl hok)).trans (hc j x hx)⟩
theorem RowI.mono {ok ok' : Nat → Prop} {w : World} {A : Option Addr} {xs : List Int} (h : RowI ok w A xs) (hk : ∀ b, b < w.heap.size → ok b → ok' b) : RowI ok' w A xs := fun hn => by
  obtain ⟨b, o, e, hok, hl, hc⟩ := h hn
  exact ⟨b, o, e, hk b hl hok, hl, hc⟩
theorem own_rowI {w : World} {base T n : Nat} {v : Value} {xs : List Int} (h : w.ownsRow base T 1 v n (xs.map inCells).flatten) (hn : xs.length = n) : ∃ A c, v = .slice A n c ∧ RowI (fun b => base ≤ b) w A xs := by
  obtain ⟨A, c, rfl, hs⟩ := own_src h (fun c hc => by obtain ⟨x, _, rfl⟩ := List.mem_map.1 hc; rfl) (by simpa using hn) (fun c hc v hv => by
    obtain ⟨x, _, rfl⟩ := List.mem_map.1 hc
    simp [inCells] at hv; subst hv; rfl)
  refine ⟨A, c, rfl, fun hp => ?_⟩
  obtain ⟨b, o, rfl, hl, hc⟩ := hs.row hp
  exact ⟨b, o, rfl, (h.lt b rfl).1, hl, hc⟩

/-- A core of the call's own: its frames lie in a block of their own, and all of it in blocks that are allowed. -/
structure CoI (T : Nat) (ok : Nat → Prop) (w : World) (x : Co) (ps : List (Option Addr × Nat)) (vF vR : Value) : Prop where
  pl : ps.length = x.F.length
  r8 : ∀ f ∈ x.F, f.R.length = 8
  fr : w.ownsRow 0 T 11 vF x.F.length (fsCells x.F ps).flatten
  okF : ∀ g, vF.ownBlock = some g → ok g
  sr : ∀ (j : Nat) (f : Fr) (p : Option Addr × Nat), x.F[j]? = some f → ps[j]? = some p → RowI (fun b => ok b ∧ vF.ownBlock ≠ some b) w p.1 f.S
  rr : ∃ A c, vR = .slice A x.ret.length c ∧ RowI (fun b => ok b ∧ vF.ownBlock ≠ some b) w A x.ret

theorem own_keep {w w' : World} {base T k n : Nat} {v : Value} {xs : List Value} (h : w.ownsRow base T k v n xs) (hb : ∀ g, v.ownBlock = some g → w'.heap[g]? = w.heap[g]?) : w'.ownsRow base T k v n xs := by
  refine ⟨h.1, ?_⟩
  rcases h.2 with hn | ⟨g, cap, cur, rfl, hb', hg, rest⟩
  · exact .inl hn
  · exact .inr ⟨g, cap, cur, rfl, hb', (hb g rfl).trans hg, rest⟩

theorem CoI.keep {T : Nat} {ok : Nat → Prop} {w w' : World} {x : Co} {ps : List (Option Addr × Nat)} {vF vR : Value} (h : CoI T ok w x ps vF vR) (hs : w.heap.size ≤ w'.heap.size) (hb : ∀ b, b < w.heap.size → ok b → w'.heap[b]? = w.heap[b]?) : CoI T ok w' x ps vF vR := by
  obtain ⟨A, c, e, hr⟩ := h.rr
  exact ⟨h.pl, h.r8, own_keep h.fr (fun g hg => hb g (h.fr.lt g hg).2 (h.okF g hg)), h.okF, fun j f p hf hp => (h.sr j f p hf hp).keep hs (fun b hl hk => hb b hl hk.1), A, c, e, hr.keep hs (fun b hl hk => hb b hl hk.1)⟩
theorem CoI.mono {T : Nat} {ok ok' : Nat → Prop} {w : World} {x : Co} {ps : List (Option Addr × Nat)} {vF vR : Value} (h : CoI T ok w x ps vF vR) (hk : ∀ b, b < w.heap.size → ok b → ok' b) : CoI T ok' w x ps vF vR := by
  obtain ⟨A, c, e, hr⟩ := h.rr
  exact ⟨h.pl, h.r8, h.fr, fun g hg => hk g (h.fr.lt g hg).2 (h.okF g hg), fun j f p hf hp => (h.sr j f p hf hp).mono (fun b hl ⟨h1, h2⟩ => ⟨hk b hl h1, h2⟩), A, c, e, hr.mono (fun b hl ⟨h1, h2⟩ => ⟨hk b hl h1, h2⟩)⟩
theorem own_cap {w : World} {base T k n c : Nat} {A : Option Addr} {xs : List Value} (h : w.ownsRow base T k (.slice A n c) n xs) : n ≤ c := by
  rcases h.2 with ⟨e, h0⟩ | ⟨_, cap, _, e, _, _, h1, _⟩
  · subst h0; exact Nat.zero_le _
  · injection e with _ _ e; omega
/-- As it is told to others. -/
theorem CoI.told {T : Nat} {ok : Nat → Prop} {w : World} {x : Co} {ps : List (Option Addr × Nat)} {vF vR : Value} (h : CoI T ok w x ps vF vR) : ∃ AF cF AR cR, vF = .slice AF x.F.length cF ∧ vR = .slice AR x.ret.length cR ∧ RowF w AF x.F ∧ Row w AR x.ret ∧ x.F.length ≤ cF := by
  obtain ⟨A, c, e, hr⟩ := h.rr
  obtain ⟨AF, cF, e1, hs⟩ := own_src h.fr (fsCells_each h.r8) (fsCells_len h.pl) (fsCells_one _ _)
  have hfr := h.fr
  rw [e1] at hfr
  exact ⟨AF, cF, A, c, e1, e, Src.rowF h.pl h.r8 hs (fun j f p hf hp => (h.sr j f p hf hp).row), hr.row, own_cap hfr⟩
/-- Of the blocks that there were only such as p have turned. -/
structure Turn (p : Nat → Prop) (w w' : World) : Prop where
  os : w'.os = w.os
  tape : w'.tape = w.tape
  output : w'.output = w.output
  size : w.heap.size ≤ w'.heap.size
  block : ∀ b, b < w.heap.size → ¬ p b → w'.heap[b]? = w.heap[b]?
theorem Turn.refl (p : Nat → Prop) (w : World) : Turn p w w := ⟨rfl, rfl, rfl, Nat.le_refl _, fun _ _ _ => rfl⟩
theorem Turn.trans {p : Nat → Prop} {a b c : World} (h : Turn p a b) (k : Turn p b c) : Turn p a c :=
  ⟨k.os.trans h.os, k.tape.trans h.tape, k.output.trans h.output, Nat.le_trans h.size k.size, fun i hi hp => (k.block i (Nat.lt_of_lt_of_le hi h.size) hp).trans (h.block i hi hp)⟩
theorem Turn.set {p : Nat → Prop} {a w : World} (h : Turn p a w) {g : Nat} (hp : p g) (j : Nat) (u : Value) : Turn p a (w.setCell ⟨g, j, none⟩ u) :=
  h.trans ⟨rfl, rfl, rfl, by simp [World.setCell], fun b _ hb => Below.heap_setCell w _ u b (fun e => hb (by rw [e]; exact hp))⟩
theorem Turn.alloc {p : Nat → Prop} {a w : World} (h : Turn p a w) (o : Obj) : Turn p a (w.alloc o) :=
  h.trans ⟨rfl, rfl, rfl, by simp, fun b hb _ => Below.heap_alloc w o b hb⟩
theorem Turn.drew {p : Nat → Prop} {a w : World} (h : Turn p a w) : Turn p a w.drew := ⟨h.os, h.tape, h.output, h.size, h.block⟩
theorem Turn.drewN {p : Nat → Prop} {a w : World} (h : Turn p a w) (n : Nat) : Turn p a (w.drewN n) := ⟨h.os, h.tape, h.output, h.size, h.block⟩
theorem Turn.below {p : Nat → Prop} {a b c : World} (h : Turn p a b) (k : Below b.heap.size b c) : Turn p a c := h.trans ⟨k.os, k.tape, k.output, k.size, fun i hi _ => k.block i hi⟩
theorem Turn.grown {p : Nat → Prop} {a b c : World} {row : Option Nat} (h : Turn p a b) (k : b.grownBy c row) (hr : ∀ g, row = some g → p g) : Turn p a c :=
  h.trans ⟨k.os, k.tape, k.output, k.size, fun i hi hp => k.block i hi (fun e => hp (hr i e.symm))⟩
theorem Turn.mono {p q : Nat → Prop} {a b : World} (h : Turn p a b) (hpq : ∀ g, g < a.heap.size → p g → q g) : Turn q a b := ⟨h.os, h.tape, h.output, h.size, fun i hi hq => h.block i hi (fun hp => hq (hpq i hi hp))⟩
theorem Turn.to_below {p : Nat → Prop} {a b : World} {B : Nat} (h : Turn p a b) (hB : B ≤ a.heap.size) (hp : ∀ g, p g → B ≤ g) : Below B a b :=
  ⟨h.os, h.tape, h.output, h.size, fun i hi => h.block i (by omega) (fun q => by have := hp i q; omega)⟩
theorem Turn.cell {p : Nat → Prop} {a b : World} (h : Turn p a b) {g o : Nat} (hl : g < a.heap.size) (hg : ¬ p g) : b.cell? ⟨g, o, none⟩ = a.cell? ⟨g, o, none⟩ := World.cell?_of_block (h.block g hl hg)
theorem Turn.frozen {p : Nat → Prop} {a b : World} (h : Turn p a b) {g o : Nat} (hl : g < a.heap.size) (hg : ¬ p g) : b.frozen? ⟨g, o, none⟩ = a.frozen? ⟨g, o, none⟩ := World.frozen?_of_block (h.block g hl hg)
theorem RowI.turn {ok p : Nat → Prop} {w w' : World} {A : Option Addr} {xs : List Int} (h : RowI ok w A xs) (t : Turn p w w') (hk : ∀ b, b < w.heap.size → ok b → ¬ p b) : RowI ok w' A xs :=
  h.keep t.size (fun b hl ho => t.block b hl (hk b hl ho))
theorem CoI.turn {T : Nat} {ok p : Nat → Prop} {w w' : World} {x : Co} {ps : List (Option Addr × Nat)} {vF vR : Value} (h : CoI T ok w x ps vF vR) (t : Turn p w w') (hk : ∀ b, b < w.heap.size → ok b → ¬ p b) : CoI T ok w' x ps vF vR :=
  h.keep t.size (fun b hl ho => t.block b hl (hk b hl ho))
theorem own_turn {p : Nat → Prop} {w w' : World} {base T k n : Nat} {v : Value} {xs : List Value} (h : w.ownsRow base T k v n xs) (t : Turn p w w') (hk : ∀ g, v.ownBlock = some g → ¬ p g) : w'.ownsRow base T k v n xs :=
  own_keep h (fun g hg => t.block g (h.lt g hg).2 (hk g hg))
end Go.Proofs.Ytpagekhgeahmaaa
