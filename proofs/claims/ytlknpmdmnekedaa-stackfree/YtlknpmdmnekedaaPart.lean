/- Parts of blocks of integers, one for each core, each in a block of its own: read, cut at the head, appended to. No Go text but types. -/
import Derived.Test.YtlknpmdmnekedaaKBas
import Derived.Deep.AppendSrc
import Derived.Laws.MakeOwn
namespace Go.Proofs.Ytlknpmdmnekedaa
open Go.RowKit
set_option linter.unusedVariables false

/-- A slice of address A, of capacity c, holds xs in a block of integers that is there. -/
def PartAt (w : World) (A : Option Addr) (c : Nat) (xs : List Int) : Prop :=
  xs.length ≤ c ∧ (0 < c → ∃ (b o : Nat) (cur : Array Value), A = some ⟨b, o, none⟩ ∧ w.heap[b]? = some (.cells cur 3 (0, 0)) ∧ o + c ≤ cur.size ∧ ∀ j x, xs[j]? = some x → cur[o + j]? = some (.int .i64 x))
/-- Its block. -/
def pBlk (A : Option Addr) (c : Nat) : Option Nat := if c = 0 then none else A.map (·.block)
theorem heap_lt {w : World} {b : Nat} {o : Obj} (h : w.heap[b]? = some o) : b < w.heap.size := (Array.getElem?_eq_some_iff.1 h).1
theorem PartAt.nil (w : World) : PartAt w none 0 [] := ⟨by simp, fun h => by omega⟩
theorem PartAt.blk {w : World} {A : Option Addr} {c : Nat} {xs : List Int} (h : PartAt w A c xs) {b : Nat} (hb : pBlk A c = some b) : ∃ (o : Nat) (cur : Array Value), A = some ⟨b, o, none⟩ ∧ w.heap[b]? = some (.cells cur 3 (0, 0)) := by
  unfold pBlk at hb
  split at hb
  · cases hb
  · obtain ⟨b', o, cur, rfl, hh, _⟩ := h.2 (by omega)
    simp at hb
    subst hb
    exact ⟨o, cur, rfl, hh⟩
theorem PartAt.keep {w w' : World} {A : Option Addr} {c : Nat} {xs : List Int} (h : PartAt w A c xs) (hk : ∀ b, pBlk A c = some b → b < w.heap.size → w'.heap[b]? = w.heap[b]?) : PartAt w' A c xs := by
  refine ⟨h.1, fun hc => ?_⟩
  obtain ⟨b, o, cur, rfl, hh, r⟩ := h.2 hc
  exact ⟨b, o, cur, rfl, (hk b (by unfold pBlk; rw [if_neg (by omega)]; rfl) (heap_lt hh)).trans hh, r⟩
theorem PartAt.cell {w : World} {A : Option Addr} {c : Nat} {xs : List Int} (h : PartAt w A c xs) (hx : 0 < xs.length) : ∃ b o, A = some ⟨b, o, none⟩ ∧ ∀ j x, xs[j]? = some x → w.cell? ⟨b, o + j, none⟩ = some (.int .i64 x) := by
  obtain ⟨b, o, cur, rfl, hh, _, hc⟩ := h.2 (by have := h.1; omega)
  exact ⟨b, o, rfl, fun j x hj => by rw [cell_of_row w b (o + j) _ _ _ hh]; exact hc j x hj⟩
theorem PartAt.tail {w : World} {b o c : Nat} {x : Int} {xs : List Int} (h : PartAt w (some ⟨b, o, none⟩) c (x :: xs)) (hc : c ≠ 1) : PartAt w (some ⟨b, o + 1, none⟩) (c - 1) xs := by
  have h1 := h.1
  simp only [List.length_cons] at h1
  refine ⟨by omega, fun hp => ?_⟩
  obtain ⟨b', o', cur, e, hh, hs, hx⟩ := h.2 (by omega)
  simp only [Option.some.injEq, Addr.mk.injEq, and_true] at e
  obtain ⟨rfl, rfl⟩ := e
  exact ⟨b, o + 1, cur, rfl, hh, by omega, fun j y hj => by rw [show o + 1 + j = o + (j + 1) by omega]; exact hx (j + 1) y (by simpa using hj)⟩
theorem PartAt.last {w : World} {A A' : Option Addr} {x : Int} {xs : List Int} (h : PartAt w A 1 (x :: xs)) : xs = [] ∧ PartAt w A' 0 xs := by
  have h1 := h.1
  simp only [List.length_cons] at h1
  have e : xs = [] := List.eq_nil_of_length_eq_zero (by omega)
  exact ⟨e, by rw [e]; simp, fun h => by omega⟩

/-- The row of the parts. -/
def partV (os : List (List Int)) (qs : List (Option Addr × Nat)) : List Value := List.zipWith (fun o q => Value.slice q.1 o.length q.2) os qs
structure OwnsAt (w : World) (g : Nat) (os : List (List Int)) (qs : List (Option Addr × Nat)) : Prop where
  len : qs.length = os.length
  row : w.heap[g]? = some (.cells (partV os qs).toArray 24 (0, 0))
  part : ∀ (j : Nat) (o : List Int) (q : Option Addr × Nat), os[j]? = some o → qs[j]? = some q → PartAt w q.1 q.2 o
  apart : ∀ (j k : Nat) (q r : Option Addr × Nat) (b : Nat), j ≠ k → qs[j]? = some q → qs[k]? = some r → pBlk q.1 q.2 = some b → pBlk r.1 r.2 ≠ some b

theorem int_ne_parts : (3 : Nat) ≠ 24 := by decide
theorem OwnsAt.keep {w w' : World} {g : Nat} {os : List (List Int)} {qs : List (Option Addr × Nat)} (h : OwnsAt w g os qs) (hg : w'.heap[g]? = w.heap[g]?) (hk : ∀ (j : Nat) (q : Option Addr × Nat) (b : Nat), qs[j]? = some q → pBlk q.1 q.2 = some b → b < w.heap.size → w'.heap[b]? = w.heap[b]?) : OwnsAt w' g os qs :=
  ⟨h.len, hg.trans h.row, fun j o q ho hq => (h.part j o q ho hq).keep (fun b hb hl => hk j q b hq hb hl), h.apart⟩
theorem OwnsAt.step {w w' : World} {g : Nat} {os : List (List Int)} {qs : List (Option Addr × Nat)} (h : OwnsAt w g os qs) (hb : Below w.heap.size w w') : OwnsAt w' g os qs :=
  h.keep (hb.block g (heap_lt h.row)) (fun _ _ b _ _ hl => hb.block b hl)
/-- A block of another type may turn. -/
theorem OwnsAt.turn {w w' : World} {g v : Nat} {os : List (List Int)} {qs : List (Option Addr × Nat)} {cs : Array Value} {T : TypeId} (h : OwnsAt w g os qs) (t : Turn (fun x => x = v) w w') (hv : w.heap[v]? = some (.cells cs T (0, 0))) (h1 : T ≠ 3) (h2 : T ≠ 24) : OwnsAt w' g os qs := by
  refine h.keep (t.block g (heap_lt h.row) (fun e => ?_)) (fun j q b hq hb hl => t.block b hl (fun e => ?_))
  · subst e
    have := h.row.symm.trans hv
    injection this with this
    injection this with _ e2
    exact h2 e2.symm
  · subst e
    have hj : j < os.length := by have := (List.getElem?_eq_some_iff.1 hq).1; have := h.len; omega
    obtain ⟨o, cur, _, hh⟩ := (h.part j _ q (List.getElem?_eq_getElem hj) hq).blk hb
    have := hh.symm.trans hv
    injection this with this
    injection this with _ e2
    exact h1 e2.symm
theorem OwnsAt.at_ {w : World} {g : Nat} {os : List (List Int)} {qs : List (Option Addr × Nat)} (h : OwnsAt w g os qs) {k : Nat} {o : List Int} (ho : os[k]? = some o) : ∃ q, qs[k]? = some q ∧ PartAt w q.1 q.2 o ∧ w.cell? ⟨g, k, none⟩ = some (.slice q.1 o.length q.2) ∧ w.frozen? ⟨g, k, none⟩ = false := by
  have hk := (List.getElem?_eq_some_iff.1 ho).1
  have hkq : k < qs.length := by have := h.len; omega
  have hq : qs[k]? = some qs[k] := List.getElem?_eq_getElem hkq
  refine ⟨_, hq, h.part k o _ ho hq, ?_, frozen_of_row w g k _ _ h.row⟩
  rw [cell_of_row w g k _ _ _ h.row]
  simp only [List.getElem?_toArray, partV]
  exact zip_at ho hq
theorem partV_set {os : List (List Int)} {qs : List (Option Addr × Nat)} (k : Nat) (o : List Int) (q : Option Addr × Nat) : (partV os qs).set k (.slice q.1 o.length q.2) = partV (os.set k o) (qs.set k q) :=
  zip_set (f := fun (o : List Int) (q : Option Addr × Nat) => Value.slice q.1 o.length q.2) (us := os) (ys := qs) (i := k) (a := o) (b := q)
/-- A part is laid anew: in the same block, or in none, or in one that is nobody's. -/
theorem OwnsAt.put {w : World} {g : Nat} {os : List (List Int)} {qs : List (Option Addr × Nat)} (h : OwnsAt w g os qs) {k : Nat} {o o' : List Int} {q : Option Addr × Nat} (ho : os[k]? = some o) (A : Option Addr) (c : Nat) (hP : PartAt w A c o') (hf : ∀ b, pBlk A c = some b → ∀ (j : Nat) (r : Option Addr × Nat), j ≠ k → qs[j]? = some r → pBlk r.1 r.2 ≠ some b) : OwnsAt (w.setCell ⟨g, k, none⟩ (.slice A o'.length c)) g (os.set k o') (qs.set k (A, c)) := by
  have hk := (List.getElem?_eq_some_iff.1 ho).1
  have hne : ∀ (A' : Option Addr) (c' : Nat) (o'' : List Int) (b : Nat), PartAt w A' c' o'' → pBlk A' c' = some b → (w.setCell ⟨g, k, none⟩ (.slice A o'.length c)).heap[b]? = w.heap[b]? := by
    intro A' c' o'' b hp hb
    obtain ⟨o3, cur, _, hh⟩ := hp.blk hb
    refine Below.heap_setCell w ⟨g, k, none⟩ _ b (fun e => ?_)
    subst e
    have := hh.symm.trans h.row
    injection this with this
    injection this with _ e2
    exact int_ne_parts e2
  refine ⟨by simp [h.len], ?_, fun j p r hp hr => ?_, fun i j q r b hij hq hr hb => ?_⟩
  · rw [heap_setCell_same w g k _ _ _ h.row]
    rw [← partV_set]
    simp
  · by_cases e : j = k
    · subst e
      rw [List.getElem?_set_self hk] at hp
      rw [List.getElem?_set_self (by have := h.len; omega)] at hr
      injection hp with hp
      injection hr with hr
      subst hp hr
      exact hP.keep (fun b hb _ => hne _ _ _ b hP hb)
    · rw [List.getElem?_set_ne (fun h => e h.symm)] at hp hr
      exact (h.part j p r hp hr).keep (fun b hb _ => hne _ _ _ b (h.part j p r hp hr) hb)
  · by_cases e1 : i = k
    · subst e1
      rw [List.getElem?_set_self (by have := (List.getElem?_eq_some_iff.1 hq).1; simpa using this)] at hq
      rw [List.getElem?_set_ne hij] at hr
      injection hq with hq
      subst hq
      exact hf b hb j r (fun e => hij e.symm) hr
    · rw [List.getElem?_set_ne (fun h => e1 h.symm)] at hq
      by_cases e2 : j = k
      · subst e2
        rw [List.getElem?_set_self (by have := (List.getElem?_eq_some_iff.1 hr).1; simpa using this)] at hr
        injection hr with hr
        subst hr
        exact fun hb2 => hf b hb2 i q e1 hq hb
      · rw [List.getElem?_set_ne (fun h => e2 h.symm)] at hr
        exact h.apart i j q r b hij hq hr hb
/-- The parts that one part's block is none of. -/
theorem OwnsAt.alone {w : World} {g : Nat} {os : List (List Int)} {qs : List (Option Addr × Nat)} (h : OwnsAt w g os qs) {k : Nat} {q : Option Addr × Nat} (hq : qs[k]? = some q) {b : Nat} (hb : pBlk q.1 q.2 = some b) : ∀ (j : Nat) (r : Option Addr × Nat), j ≠ k → qs[j]? = some r → pBlk r.1 r.2 ≠ some b :=
  fun j r hj hr => h.apart k j q r b (fun e => hj e.symm) hq hr hb
/-- The head of a part is taken. -/
theorem OwnsAt.tail {w : World} {g : Nat} {os : List (List Int)} {qs : List (Option Addr × Nat)} (h : OwnsAt w g os qs) {k b o c : Nat} {x : Int} {xs : List Int} (ho : os[k]? = some (x :: xs)) (hq : qs[k]? = some (some ⟨b, o, none⟩, c)) (hc : c ≠ 1) : OwnsAt (w.setCell ⟨g, k, none⟩ (.slice (some ⟨b, o + 1, none⟩) xs.length (c - 1))) g (os.set k xs) (qs.set k (some ⟨b, o + 1, none⟩, c - 1)) := by
  refine h.put ho (q := (some ⟨b, o, none⟩, c)) _ _ ((h.part k _ _ ho hq).tail hc) (fun b' hb' => ?_)
  have h1 := (h.part k _ _ ho hq).1
  simp only [List.length_cons] at h1
  refine h.alone hq ?_
  unfold pBlk at hb' ⊢
  rw [if_neg (by omega)] at hb' ⊢
  exact hb'
theorem OwnsAt.last {w : World} {g : Nat} {os : List (List Int)} {qs : List (Option Addr × Nat)} (h : OwnsAt w g os qs) {k : Nat} {A A' : Option Addr} {x : Int} {xs : List Int} (ho : os[k]? = some (x :: xs)) (hq : qs[k]? = some (A, 1)) : OwnsAt (w.setCell ⟨g, k, none⟩ (.slice A' xs.length 0)) g (os.set k xs) (qs.set k (A', 0)) :=
  h.put ho (q := (A, 1)) _ _ (h.part k _ _ ho hq).last.2 (fun b hb => by simp [pBlk] at hb)

/-- append(part, x): in its block, or in a new one. -/
theorem run_append_part {P : Program} {w : World} (t ty : TypeId)
    (hinfo : (P.info? 3).map (fun i => (i.zero, i.size, i.bytes)) = some (some (.int .i64 0), 1, 8)) (ht : P.underlying t = some (.slice 3))
    (A : Option Addr) (c : Nat) (xs : List Int) (hp : PartAt w A c xs) (hlen : xs.length ≤ 1000000)
    (v : Addr) (c2 : Nat) (z : Int) (hz : w.cell? v = some (.int .i64 z)) :
    ∃ A' c' w', (Builtin.append_ #[t, t] ty #[.slice A xs.length c, .slice (some v) 1 c2]).run P w = .ok (.slice A' (xs ++ [z]).length c') w' ∧ PartAt w' A' c' (xs ++ [z]) ∧ Turn (fun b => pBlk A c = some b) w w' ∧ (∀ b, pBlk A' c' = some b → pBlk A c = some b ∨ b = w.heap.size) := by
  obtain ⟨i, hi, hz0, hz1, hz2⟩ := info_parts hinfo
  have hsrc : Go.Src P i.size t (.slice (some v) 1 c2) 1 [.int .i64 z] w := Go.Src.ofSlice w ht v 1 c2 _ (by rw [hz1]; rfl) (fun j u hj => by
    match j, hj with
    | 0, hj => simp only [List.getElem?_cons_zero, Option.some.injEq] at hj; subst hj; (first | exact hz | (simp [Addr.add]; exact hz) | (obtain ⟨vb, vo, vs⟩ := v; simpa [Addr.add] using hz))
    | j + 1, hj => simp at hj) (fun u hu => by simp at hu; subst hu; rfl)
  have key : ∀ A' c' w', (Builtin.append_ #[t, t] ty #[.slice A xs.length c, .slice (some v) 1 c2]).run P w = .ok (.slice A' (xs ++ [z]).length c') w' → PartAt w' A' c' (xs ++ [z]) → Turn (fun b => pBlk A c = some b) w w' → (∀ b, pBlk A' c' = some b → pBlk A c = some b ∨ b = w.heap.size) → _ := fun A' c' w' h1 h2 h3 h4 => (⟨A', c', w', h1, h2, h3, h4⟩ : ∃ A' c' w', (Builtin.append_ #[t, t] ty #[.slice A xs.length c, .slice (some v) 1 c2]).run P w = .ok (.slice A' (xs ++ [z]).length c') w' ∧ PartAt w' A' c' (xs ++ [z]) ∧ Turn (fun b => pBlk A c = some b) w w' ∧ (∀ b, pBlk A' c' = some b → pBlk A c = some b ∨ b = w.heap.size))
  have hl := hp.1
  by_cases hroom : xs.length + 1 ≤ c
  · obtain ⟨b, of, cur, rfl, hh, hsz, hcur⟩ := hp.2 (by omega)
    have hcell : ∀ k, k < c → (w.cell? ⟨b, of + k, none⟩).isSome = true := fun k hk => by
      rw [cell_of_row w b (of + k) _ _ _ hh, Array.getElem?_eq_getElem (by omega)]; rfl
    have hr := run_append_room_src (P := P) w t t ty 3 i ht hi b of xs.length c (.slice (some v) 1 c2) 1 [.int .i64 z] hsrc hroom (fun j hj => by
      simp only [List.length_cons, List.length_nil] at hj
      rw [hz1, show of + xs.length * 1 + j = of + xs.length by omega]; exact hcell _ (by omega)) (fun j hj => frozen_of_row w b _ _ _ hh)
    rw [hz1, Nat.mul_one] at hr
    have e : w.setCells b (of + xs.length) [.int .i64 z] = w.setCell ⟨b, of + xs.length, none⟩ (.int .i64 z) := rfl
    rw [e] at hr
    have hb : pBlk (some ⟨b, of, none⟩) c = some b := by unfold pBlk; rw [if_neg (by omega)]; rfl
    refine key (some ⟨b, of, none⟩) c (w.setCell ⟨b, of + xs.length, none⟩ (.int .i64 z)) (by simpa using hr) ⟨by simp; omega, fun _ => ⟨b, of, cur.setIfInBounds (of + xs.length) (.int .i64 z), rfl, heap_setCell_same w b _ _ _ _ hh, by simpa using hsz, fun j y hj => ?_⟩⟩ ((Turn.refl _ _).set hb _ _) (fun b' hb' => .inl hb')
    · rw [Array.getElem?_setIfInBounds]
      by_cases ej : j = xs.length
      · subst ej
        simp at hj
        subst hj
        simp
        omega
      · have hjl : j < xs.length := by
          have := (List.getElem?_eq_some_iff.1 hj).1
          simp at this; omega
        rw [if_neg (by omega)]
        rw [List.getElem?_append_left hjl] at hj
        exact hcur j y hj
  · have hce : c = xs.length := by omega
    have hold : (Builtin.firstCells i.size xs.length (.slice A xs.length c)).run P w.drew = .ok (xs.map (Value.int .i64)).toArray w.drew := by
      rcases Nat.eq_zero_or_pos xs.length with h0 | h0
      · have e : xs = [] := List.eq_nil_of_length_eq_zero h0
        subst e
        cases A with
        | none => exact run_firstCells_none w.drew i.size 0 0 c
        | some ad => exact run_firstCells_some w.drew i.size 0 ad 0 c [] (by simp) (fun j v hj => by simp at hj)
      · obtain ⟨b, of, rfl, hcell⟩ := hp.cell h0
        refine run_firstCells_some w.drew i.size xs.length ⟨b, of, none⟩ xs.length c _ (by rw [hz1]; simp) (fun j u hj => ?_)
        simp only [List.getElem?_map, Option.map_eq_some_iff] at hj
        obtain ⟨y, hy, rfl⟩ := hj
        rw [Addr.add_lit]
        simpa using hcell j y hy
    have hr := run_append_grow_src (P := P) w t t ty 3 i (.int .i64 0) ht hi hz0 A xs.length c (xs.map (Value.int .i64)) hold (.slice (some v) 1 c2) 1 [.int .i64 z] hsrc (by omega) (by omega) (by
      rw [hz2]
      have := nextslicecap_le (need := xs.length + 1) (old := c) (by omega)
      omega)
    obtain ⟨g, hg⟩ : ∃ g, g = grownCap w (xs.length + 1) c 3 := ⟨_, rfl⟩
    have hgl : xs.length + 1 ≤ g := by rw [hg]; exact grownCap_ge _ _ _ _
    rw [← hg] at hr
    refine key (some ⟨w.heap.size, 0, none⟩) g (w.drew.alloc (.cells (((xs.map (Value.int .i64)) ++ [Value.int .i64 z]).toArray ++ Builtin.zeroCells (Value.cells (Value.int .i64 0)) (g - (xs.length + 1))) 3)) (by simpa using hr) ⟨by simp; omega, fun _ => ⟨w.heap.size, 0, _, rfl, heap_alloc_new w.drew _, ?_, fun j y hj => ?_⟩⟩ (((Turn.refl _ _).drew).alloc _) (fun b' hb' => ?_)
    · simp [Builtin.zeroCells]
      first | omega | (simp [Value.cells]; omega)
    · rw [Nat.zero_add]
      have hjl : j < xs.length + 1 := by
        have := (List.getElem?_eq_some_iff.1 hj).1
        simpa using this
      rw [Array.getElem?_append_left (by simpa using hjl)]
      have : ((xs ++ [z]).map (Value.int .i64))[j]? = some (.int .i64 y) := by rw [List.getElem?_map, hj]; rfl
      simpa using this
    · right
      unfold pBlk at hb'
      split at hb'
      · cases hb'
      · simpa using hb'.symm
theorem wpList_append_part {P : Program} {w : World} {ops : Array Oper} {rest : List Oper} {o : Oper} {a : Act} {Q : Exit → Act → World → Prop} (hgd : o.guard = none) (s x : Operand) (t : TypeId)
    (ho : o.op = .call { callee := .builtin .append, args := #[s, x], argTypes := #[t, t] })
    (hinfo : (P.info? 3).map (fun i => (i.zero, i.size, i.bytes)) = some (some (.int .i64 0), 1, 8)) (ht : P.underlying t = some (.slice 3))
    (A : Option Addr) (c : Nat) (xs : List Int) (hs : a.eval s = .slice A xs.length c) (hp : PartAt w A c xs) (hlen : xs.length ≤ 1000000)
    (v : Addr) (c2 : Nat) (z : Int) (hx : a.eval x = .slice (some v) 1 c2) (hz : w.cell? v = some (.int .i64 z))
    (h : ∀ A' c' w', PartAt w' A' c' (xs ++ [z]) → Turn (fun b => pBlk A c = some b) w w' → (∀ b, pBlk A' c' = some b → pBlk A c = some b ∨ b = w.heap.size) → wpList P ops Q rest (a.put o.dst (.slice A' (xs ++ [z]).length c')) w') : wpList P ops Q (o :: rest) a w := by
  obtain ⟨A', c', w', hr, h1, h2, h3⟩ := run_append_part (P := P) t o.type hinfo ht A c xs hp hlen v c2 z hz
  refine wpList_plain hgd fun K hK => ?_
  unfold Oper.wp execOp
  simp only [ho, resolve, invoke, builtin, Sem.run_bind, Sem.run_pure, Result.andThen_ok, List.map_toArray, List.map_cons, List.map_nil, hs, hx, hr]
  exact hK _ _ (h A' c' w' h1 h2 h3)
/-- The same, as a step of a region that draws its order. -/
theorem step_append_part {P : Program} {w : World} {ops : Array Oper} {o : Oper} {a : Act} {K : Act → World → Prop} {Q : Exit → Act → World → Prop} {E : Prop} (hgd : o.guard = none) (s x : Operand) (t : TypeId)
    (ho : o.op = .call { callee := .builtin .append, args := #[s, x], argTypes := #[t, t] })
    (hinfo : (P.info? 3).map (fun i => (i.zero, i.size, i.bytes)) = some (some (.int .i64 0), 1, 8)) (ht : P.underlying t = some (.slice 3))
    (A : Option Addr) (c : Nat) (xs : List Int) (hs : a.eval s = .slice A xs.length c) (hp : PartAt w A c xs) (hlen : xs.length ≤ 1000000)
    (v : Addr) (c2 : Nat) (z : Int) (hx : a.eval x = .slice (some v) 1 c2) (hz : w.cell? v = some (.int .i64 z))
    (h : ∀ A' c' w', PartAt w' A' c' (xs ++ [z]) → Turn (fun b => pBlk A c = some b) w w' → (∀ b, pBlk A' c' = some b → pBlk A c = some b ∨ b = w.heap.size) → K (a.put o.dst (.slice A' (xs ++ [z]).length c')) w') :
    if Region.wanted o (yielded ops a.tmps) = true then Oper.wp P o a w K Q else E := by
  have hw : Region.wanted o (yielded ops a.tmps) = true := by simp [Region.wanted, hgd]
  rw [if_pos hw]
  obtain ⟨A', c', w', hr, h1, h2, h3⟩ := run_append_part (P := P) t o.type hinfo ht A c xs hp hlen v c2 z hz
  unfold Oper.wp execOp
  simp only [ho, resolve, invoke, builtin, Sem.run_bind, Sem.run_pure, Result.andThen_ok, List.map_toArray, List.map_cons, List.map_nil, hs, hx, hr]
  exact h A' c' w' h1 h2 h3
end Go.Proofs.Ytlknpmdmnekedaa
