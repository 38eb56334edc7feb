/- Frames, cores and events as rows of cells. No Go text. -/
import Derived.Test.YtpagekhgeahmaaaCells
namespace Go.Proofs.Ytpagekhgeahmaaa
open Go.RowKit
set_option linter.unusedSimpArgs false

theorem zip_at {α β γ : Type} {f : α → β → γ} {us : List α} {ys : List β} {i : Nat} {a : α} {b : β} (ha : us[i]? = some a) (hb : ys[i]? = some b) : (List.zipWith f us ys)[i]? = some (f a b) := by
  rw [List.getElem?_zipWith, ha, hb]
theorem zip_inv {α β γ : Type} {f : α → β → γ} {us : List α} {ys : List β} {i : Nat} {c : γ} (h : (List.zipWith f us ys)[i]? = some c) : ∃ a b, us[i]? = some a ∧ ys[i]? = some b ∧ f a b = c := by
  rw [List.getElem?_zipWith] at h
  cases ha : us[i]? with
  | none => rw [ha] at h; simp at h
  | some a =>
    cases hb : ys[i]? with
    | none => rw [ha, hb] at h; simp at h
    | some b => rw [ha, hb] at h; exact ⟨a, b, rfl, rfl, by simpa using h⟩
theorem zip_set {α β γ : Type} {f : α → β → γ} : ∀ {us : List α} {ys : List β} {i : Nat} {a : α} {b : β}, (List.zipWith f us ys).set i (f a b) = List.zipWith f (us.set i a) (ys.set i b)
  | [], _, _, _, _ => by simp
  | _ :: _, [], _, _, _ => by simp
  | _ :: _, _ :: _, 0, _, _ => by simp
  | _ :: us, _ :: ys, i + 1, _, _ => by simp [zip_set (us := us) (ys := ys)]
theorem some_of {α β : Type} {us : List α} {ys : List β} (hl : ys.length = us.length) {i : Nat} {a : α} (ha : us[i]? = some a) : ∃ b, ys[i]? = some b :=
  ⟨_, List.getElem?_eq_getElem (by have := (List.getElem?_eq_some_iff.1 ha).1; omega)⟩

/-- A frame's eleven cells; p: where its S lies, and how much room there is. -/
def frCells (f : Fr) (p : Option Addr × Nat) : List Value := .int .i64 f.op :: .int .i64 f.pc :: (f.R.map (Value.int .i64) ++ [.slice p.1 f.S.length p.2])
/-- A core's seven cells. -/
def coCells (x : Co) (F R : Value) : List Value := [F, .int .i64 x.v, .int .i64 x.e, .int .i64 x.x0, .int .i64 x.x1, .int .i64 x.x2, R]
def evCells (e : Evt) : List Value := [.int .i64 e.core, .int .i64 e.kind, .int .i64 e.a, .int .i64 e.b, .int .i64 e.v]

theorem frCells_len {f : Fr} (p : Option Addr × Nat) (h : f.R.length = 8) : (frCells f p).length = 11 := by simp [frCells, h]
theorem frCells_one (f : Fr) (p : Option Addr × Nat) : ∀ v ∈ frCells f p, v.oneCell' = true := by
  intro v hv
  simp only [frCells, List.mem_cons, List.mem_append, List.mem_map, List.mem_singleton, List.not_mem_nil, or_false] at hv
  rcases hv with rfl | rfl | ⟨x, _, rfl⟩ | rfl <;> rfl
theorem coCells_one (x : Co) (A B : Option Addr) (n m c d : Nat) : ∀ v ∈ coCells x (.slice A n c) (.slice B m d), v.oneCell' = true := by
  intro v hv
  simp only [coCells, List.mem_cons, List.not_mem_nil, or_false] at hv
  rcases hv with rfl | rfl | rfl | rfl | rfl | rfl | rfl <;> rfl
theorem evCells_one (e : Evt) : ∀ v ∈ evCells e, v.oneCell' = true := by
  intro v hv
  simp only [evCells, List.mem_cons, List.not_mem_nil, or_false] at hv
  rcases hv with rfl | rfl | rfl | rfl | rfl <;> rfl

theorem fr8 {l : List Int} (h : l.length = 8) : ∃ r0 r1 r2 r3 r4 r5 r6 r7 : Int, l = [r0, r1, r2, r3, r4, r5, r6, r7] := by
  match l, h with
  | [r0, r1, r2, r3, r4, r5, r6, r7], _ => exact ⟨r0, r1, r2, r3, r4, r5, r6, r7, rfl⟩

theorem FrAt.cs {w : World} {b o : Nat} {f : Fr} (h : FrAt w b o f) : ∃ p : Option Addr × Nat, f.R.length = 8 ∧ Cs w b o (frCells f p) ∧ Row w p.1 f.S := by
  obtain ⟨op, pc, R, S⟩ := f
  obtain ⟨h0, h1, h2, h3, A, c, h4, h5⟩ := h
  dsimp only at *
  refine ⟨(A, c), h0, ?_, h5⟩
  obtain ⟨r0, r1, r2, r3, r4, r5, r6, r7, rfl⟩ := fr8 h0
  intro r v hv
  have g0 := h3 0 (by omega); have g1 := h3 1 (by omega); have g2 := h3 2 (by omega); have g3 := h3 3 (by omega)
  have g4 := h3 4 (by omega); have g5 := h3 5 (by omega); have g6 := h3 6 (by omega); have g7 := h3 7 (by omega)
  have hr : r < 11 := by have := (List.getElem?_eq_some_iff.1 hv).1; simpa [frCells] using this
  match r, hr with
  | 0, _ => simp [frCells] at hv; subst hv; exact h1
  | 1, _ => simp [frCells] at hv; subst hv; exact h2
  | 2, _ => simp [frCells] at hv; subst hv; exact g0
  | 3, _ => simp [frCells] at hv; subst hv; exact g1
  | 4, _ => simp [frCells] at hv; subst hv; exact g2
  | 5, _ => simp [frCells] at hv; subst hv; exact g3
  | 6, _ => simp [frCells] at hv; subst hv; exact g4
  | 7, _ => simp [frCells] at hv; subst hv; exact g5
  | 8, _ => simp [frCells] at hv; subst hv; exact g6
  | 9, _ => simp [frCells] at hv; subst hv; exact g7
  | 10, _ => simp [frCells] at hv; subst hv; exact h4

theorem FrAt.mk {w : World} {b o : Nat} {f : Fr} {p : Option Addr × Nat} (h8 : f.R.length = 8) (h : Cs w b o (frCells f p)) (hr : Row w p.1 f.S) : FrAt w b o f := by
  obtain ⟨op, pc, R, S⟩ := f
  dsimp only at *
  obtain ⟨r0, r1, r2, r3, r4, r5, r6, r7, rfl⟩ := fr8 h8
  refine ⟨rfl, h 0 _ rfl, h 1 _ rfl, fun k hk => ?_, p.1, p.2, h 10 _ rfl, hr⟩
  match k, hk with
  | 0, _ => exact h 2 _ rfl
  | 1, _ => exact h 3 _ rfl
  | 2, _ => exact h 4 _ rfl
  | 3, _ => exact h 5 _ rfl
  | 4, _ => exact h 6 _ rfl
  | 5, _ => exact h 7 _ rfl
  | 6, _ => exact h 8 _ rfl
  | 7, _ => exact h 9 _ rfl

theorem CoAt.cs4 {w : World} {b o : Nat} {x : Co} (h : CoAt w b o x) : ∃ (AF AR : Option Addr) (cF cR : Nat), Cs w b o (coCells x (.slice AF x.F.length cF) (.slice AR x.ret.length cR)) ∧ RowF w AF x.F ∧ Row w AR x.ret ∧ x.F.length ≤ cF := by
  obtain ⟨⟨A, c, h0, h1, hq⟩, h2, h3, h4, h5, h6, A', c', h7, h8⟩ := h
  refine ⟨A, A', c, c', ?_, h1, h8, hq⟩
  intro r v hv
  have hr : r < 7 := by have := (List.getElem?_eq_some_iff.1 hv).1; simpa [coCells] using this
  match r, hr with
  | 0, _ => simp [coCells] at hv; subst hv; exact h0
  | 1, _ => simp [coCells] at hv; subst hv; exact h2
  | 2, _ => simp [coCells] at hv; subst hv; exact h3
  | 3, _ => simp [coCells] at hv; subst hv; exact h4
  | 4, _ => simp [coCells] at hv; subst hv; exact h5
  | 5, _ => simp [coCells] at hv; subst hv; exact h6
  | 6, _ => simp [coCells] at hv; subst hv; exact h7
theorem CoAt.cs {w : World} {b o : Nat} {x : Co} (h : CoAt w b o x) : ∃ (AF AR : Option Addr) (cF cR : Nat), Cs w b o (coCells x (.slice AF x.F.length cF) (.slice AR x.ret.length cR)) ∧ RowF w AF x.F ∧ Row w AR x.ret := by
  obtain ⟨AF, AR, cF, cR, h1, h2, h3, _⟩ := h.cs4
  exact ⟨AF, AR, cF, cR, h1, h2, h3⟩
theorem CoAt.mk {w : World} {b o : Nat} {x : Co} {AF AR : Option Addr} {cF cR : Nat} (h : Cs w b o (coCells x (.slice AF x.F.length cF) (.slice AR x.ret.length cR))) (h1 : RowF w AF x.F) (h2 : Row w AR x.ret) (h3 : x.F.length ≤ cF) : CoAt w b o x :=
  ⟨⟨AF, cF, h 0 _ rfl, h1, h3⟩, h 1 _ rfl, h 2 _ rfl, h 3 _ rfl, h 4 _ rfl, h 5 _ rfl, AR, cR, h 6 _ rfl, h2⟩
theorem EvAt.cs {w : World} {b o : Nat} {e : Evt} (h : EvAt w b o e) : Cs w b o (evCells e) := by
  obtain ⟨h0, h1, h2, h3, h4⟩ := h
  intro r v hv
  have hr : r < 5 := by have := (List.getElem?_eq_some_iff.1 hv).1; simpa [evCells] using this
  match r, hr with
  | 0, _ => simp [evCells] at hv; subst hv; exact h0
  | 1, _ => simp [evCells] at hv; subst hv; exact h1
  | 2, _ => simp [evCells] at hv; subst hv; exact h2
  | 3, _ => simp [evCells] at hv; subst hv; exact h3
  | 4, _ => simp [evCells] at hv; subst hv; exact h4
theorem EvAt.mk {w : World} {b o : Nat} {e : Evt} (h : Cs w b o (evCells e)) : EvAt w b o e := ⟨h 0 _ rfl, h 1 _ rfl, h 2 _ rfl, h 3 _ rfl, h 4 _ rfl⟩

/-- Rows of integers as rows of one cell each. -/
def inCells (x : Int) : List Value := [.int .i64 x]
theorem Row.src {w : World} {A : Option Addr} {xs : List Int} (h : Row w A xs) : Src w A 1 (xs.map inCells) := by
  refine ⟨fun c hc => ?_, fun c hc v hv => ?_, fun hn => ?_⟩
  · obtain ⟨x, _, rfl⟩ := List.mem_map.1 hc; rfl
  · obtain ⟨x, _, rfl⟩ := List.mem_map.1 hc
    simp [inCells] at hv; subst hv; rfl
  · obtain ⟨b, o, e, hl, hc⟩ := h (by simpa using hn)
    refine ⟨b, o, e, hl, fun i c hi r v hv => ?_⟩
    rw [List.getElem?_map, Option.map_eq_some_iff] at hi
    obtain ⟨x, hx, rfl⟩ := hi
    have hr : r < 1 := by have := (List.getElem?_eq_some_iff.1 hv).1; simpa [inCells] using this
    obtain rfl : r = 0 := by omega
    simp [inCells] at hv; subst hv
    simpa using hc i x hx
theorem Src.row {w : World} {A : Option Addr} {xs : List Int} (h : Src w A 1 (xs.map inCells)) : Row w A xs := fun hn => by
  obtain ⟨b, o, e, hl, hc⟩ := h.at_ (by simpa using hn)
  refine ⟨b, o, e, hl, fun j x hx => ?_⟩
  have := hc j (inCells x) (by rw [List.getElem?_map, hx]; rfl) 0 _ rfl
  simpa using this
theorem RowE.src {w : World} {A : Option Addr} {es : List Evt} (h : RowE w A es) : Src w A 5 (es.map evCells) := by
  refine ⟨fun c hc => ?_, fun c hc v hv => ?_, fun hn => ?_⟩
  · obtain ⟨x, _, rfl⟩ := List.mem_map.1 hc; rfl
  · obtain ⟨x, _, rfl⟩ := List.mem_map.1 hc
    exact evCells_one x v hv
  · obtain ⟨b, o, e, hl, hc⟩ := h (by simpa using hn)
    refine ⟨b, o, e, hl, fun i c hi => ?_⟩
    rw [List.getElem?_map, Option.map_eq_some_iff] at hi
    obtain ⟨x, hx, rfl⟩ := hi
    exact (hc i x hx).cs
theorem Src.rowE {w : World} {A : Option Addr} {es : List Evt} (h : Src w A 5 (es.map evCells)) : RowE w A es := fun hn => by
  obtain ⟨b, o, e, hl, hc⟩ := h.at_ (by simpa using hn)
  exact ⟨b, o, e, hl, fun j x hx => EvAt.mk (hc j (evCells x) (by rw [List.getElem?_map, hx]; rfl))⟩

def fsCells (fs : List Fr) (ps : List (Option Addr × Nat)) : List (List Value) := List.zipWith frCells fs ps
theorem fsCells_len {fs : List Fr} {ps : List (Option Addr × Nat)} (h : ps.length = fs.length) : (fsCells fs ps).length = fs.length := by simp [fsCells, h]
theorem fsCells_each {fs : List Fr} {ps : List (Option Addr × Nat)} (h8 : ∀ f ∈ fs, f.R.length = 8) : Each 11 (fsCells fs ps) := fun c hc => by
  obtain ⟨i, hi⟩ := List.mem_iff_getElem?.1 hc
  obtain ⟨f, p, hf, _, rfl⟩ := zip_inv hi
  exact frCells_len p (h8 f (List.mem_of_getElem? hf))
theorem fsCells_one (fs : List Fr) (ps : List (Option Addr × Nat)) : ∀ c ∈ fsCells fs ps, ∀ v ∈ c, v.oneCell' = true := fun c hc => by
  obtain ⟨i, hi⟩ := List.mem_iff_getElem?.1 hc
  obtain ⟨f, p, _, _, rfl⟩ := zip_inv hi
  exact frCells_one f p
theorem RowF.src {w : World} {A : Option Addr} {fs : List Fr} (h : RowF w A fs) : ∃ ps : List (Option Addr × Nat), ps.length = fs.length ∧ Src w A 11 (fsCells fs ps) ∧ (∀ f ∈ fs, f.R.length = 8) ∧ ∀ (j : Nat) (f : Fr) (p : Option Addr × Nat), fs[j]? = some f → ps[j]? = some p → Row w p.1 f.S := by
  by_cases hn : 0 < fs.length
  · obtain ⟨b, o, e, hl, hc⟩ := h hn
    obtain ⟨ps, hp, hps⟩ := list_of (n := fs.length) (p := fun j p => ∀ f, fs[j]? = some f → f.R.length = 8 ∧ Cs w b (o + j * 11) (frCells f p) ∧ Row w p.1 f.S) (fun j hj => by
      obtain ⟨p, h8, hcs, hr⟩ := (hc j _ (List.getElem?_eq_getElem hj)).cs
      exact ⟨p, fun f hf => by rw [List.getElem?_eq_getElem hj] at hf; injection hf with hf; subst hf; exact ⟨h8, hcs, hr⟩⟩)
    have h8 : ∀ f ∈ fs, f.R.length = 8 := fun f hf => by
      obtain ⟨j, hj⟩ := List.mem_iff_getElem?.1 hf
      obtain ⟨p, hpj⟩ := some_of hp hj
      exact (hps j p hpj f hj).1
    refine ⟨ps, hp, ⟨fsCells_each h8, fsCells_one _ _, fun _ => ⟨b, o, e, hl, fun i c hi => ?_⟩⟩, h8, fun j f p hf hpj => (hps j p hpj f hf).2.2⟩
    obtain ⟨f, p, hf, hpj, rfl⟩ := zip_inv hi
    exact (hps i p hpj f hf).2.1
  · obtain rfl : fs = [] := List.eq_nil_of_length_eq_zero (by omega)
    exact ⟨[], rfl, ⟨fun c hc => by simp [fsCells] at hc, fun c hc => by simp [fsCells] at hc, fun hn => by simp [fsCells] at hn⟩, fun f hf => by simp at hf, fun j f p hf => by simp at hf⟩
theorem Src.rowF {w : World} {A : Option Addr} {fs : List Fr} {ps : List (Option Addr × Nat)} (hp : ps.length = fs.length) (h8 : ∀ f ∈ fs, f.R.length = 8) (h : Src w A 11 (fsCells fs ps)) (hr : ∀ (j : Nat) (f : Fr) (p : Option Addr × Nat), fs[j]? = some f → ps[j]? = some p → Row w p.1 f.S) : RowF w A fs := fun hn => by
  obtain ⟨b, o, e, hl, hc⟩ := h.at_ (by rw [fsCells_len hp]; exact hn)
  refine ⟨b, o, e, hl, fun j f hf => ?_⟩
  obtain ⟨p, hpj⟩ := some_of hp hf
  exact FrAt.mk (h8 f (List.mem_of_getElem? hf)) (hc j _ (zip_at hf hpj)) (hr j f p hf hpj)

/-- Where a core's F and Ret lie. -/
structure Pq where
  AF : Option Addr
  cF : Nat
  AR : Option Addr
  cR : Nat
def coC (x : Co) (q : Pq) : List Value := coCells x (.slice q.AF x.F.length q.cF) (.slice q.AR x.ret.length q.cR)
def csCells (cs : List Co) (qs : List Pq) : List (List Value) := List.zipWith coC cs qs
theorem csCells_len {cs : List Co} {qs : List Pq} (h : qs.length = cs.length) : (csCells cs qs).length = cs.length := by simp [csCells, h]
theorem csCells_each {cs : List Co} {qs : List Pq} : Each 7 (csCells cs qs) := fun c hc => by
  obtain ⟨i, hi⟩ := List.mem_iff_getElem?.1 hc
  obtain ⟨f, p, hf, _, rfl⟩ := zip_inv hi
  rfl
theorem csCells_one (cs : List Co) (qs : List Pq) : ∀ c ∈ csCells cs qs, ∀ v ∈ c, v.oneCell' = true := fun c hc => by
  obtain ⟨i, hi⟩ := List.mem_iff_getElem?.1 hc
  obtain ⟨f, p, _, _, rfl⟩ := zip_inv hi
  exact coCells_one _ _ _ _ _ _ _
theorem RowC.src4 {w : World} {A : Option Addr} {cs : List Co} (h : RowC w A cs) : ∃ qs : List Pq, qs.length = cs.length ∧ Src w A 7 (csCells cs qs) ∧ ∀ (j : Nat) (x : Co) (q : Pq), cs[j]? = some x → qs[j]? = some q → RowF w q.AF x.F ∧ Row w q.AR x.ret ∧ x.F.length ≤ q.cF := by
  by_cases hn : 0 < cs.length
  · obtain ⟨b, o, e, hl, hc⟩ := h hn
    obtain ⟨qs, hp, hps⟩ := list_of (n := cs.length) (p := fun j q => ∀ x, cs[j]? = some x → Cs w b (o + j * 7) (coC x q) ∧ RowF w q.AF x.F ∧ Row w q.AR x.ret ∧ x.F.length ≤ q.cF) (fun j hj => by
      obtain ⟨AF, AR, cF, cR, hcs, hr1, hr2⟩ := (hc j _ (List.getElem?_eq_getElem hj)).cs4
      exact ⟨⟨AF, cF, AR, cR⟩, fun x hx => by rw [List.getElem?_eq_getElem hj] at hx; injection hx with hx; subst hx; exact ⟨hcs, hr1, hr2⟩⟩)
    refine ⟨qs, hp, ⟨csCells_each, csCells_one _ _, fun _ => ⟨b, o, e, hl, fun i c hi => ?_⟩⟩, fun j x q hx hq => (hps j q hq x hx).2⟩
    obtain ⟨f, p, hf, hpj, rfl⟩ := zip_inv hi
    exact (hps i p hpj f hf).1
  · obtain rfl : cs = [] := List.eq_nil_of_length_eq_zero (by omega)
    exact ⟨[], rfl, ⟨fun c hc => by simp [csCells] at hc, fun c hc => by simp [csCells] at hc, fun hn => by simp [csCells] at hn⟩, fun j f p hf => by simp at hf⟩
theorem RowC.src {w : World} {A : Option Addr} {cs : List Co} (h : RowC w A cs) : ∃ qs : List Pq, qs.length = cs.length ∧ Src w A 7 (csCells cs qs) ∧ ∀ (j : Nat) (x : Co) (q : Pq), cs[j]? = some x → qs[j]? = some q → RowF w q.AF x.F ∧ Row w q.AR x.ret := by
  obtain ⟨qs, h1, h2, h3⟩ := h.src4
  exact ⟨qs, h1, h2, fun j x q hx hq => ⟨(h3 j x q hx hq).1, (h3 j x q hx hq).2.1⟩⟩
theorem Src.rowC {w : World} {A : Option Addr} {cs : List Co} {qs : List Pq} (hp : qs.length = cs.length) (h : Src w A 7 (csCells cs qs)) (hr : ∀ (j : Nat) (x : Co) (q : Pq), cs[j]? = some x → qs[j]? = some q → RowF w q.AF x.F ∧ Row w q.AR x.ret ∧ x.F.length ≤ q.cF) : RowC w A cs := fun hn => by
  obtain ⟨b, o, e, hl, hc⟩ := h.at_ (by rw [csCells_len hp]; exact hn)
  refine ⟨b, o, e, hl, fun j x hx => ?_⟩
  obtain ⟨q, hqj⟩ := some_of hp hx
  obtain ⟨r1, r2, r3⟩ := hr j x q hx hqj
  exact CoAt.mk (hc j _ (zip_at hx hqj)) r1 r2 r3
end Go.Proofs.Ytpagekhgeahmaaa
