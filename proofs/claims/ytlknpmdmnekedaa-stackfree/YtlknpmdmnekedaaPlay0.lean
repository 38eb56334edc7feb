/- The played run: what holds behind each pick, in mathematics and in memory. No Go text but types. -/
import Derived.Test.YtlknpmdmnekedaaStkV
import Derived.Test.YtlknpmdmnekedaaPart
import Derived.Test.YtlknpmdmnekedaaKSho
import Derived.Test.YtlknpmdmnekedaaNew4
namespace Go.Proofs.Ytlknpmdmnekedaa
open Go.RowKit
set_option linter.unusedVariables false
set_option linter.unusedSimpArgs false

/-- Behind k picks. -/
structure PInv (c n k : Nat) (y : PS) : Prop where
  ti : TInv c n k y.s y.own
  ok : Ok4 k y.s
  ol : ∀ o ∈ y.own, o.length ≤ k
theorem PInv.start {c n : Nat} (h1 : 1 ≤ n) (h2 : n ≤ 200) (c1 : 1 ≤ c) (c2 : c ≤ 8) : PInv c n 0 ⟨syFill c n, List.replicate c []⟩ := by
  refine ⟨TInv.start h1 h2, ⟨few_mem (few_new c n c2 h2) ?_ ?_, ?_, ?_⟩, fun o ho => by simp at ho; rw [ho.2]; simp⟩
  · exact (Tri.start h1 h2).ia.w.trans (by simp [syNew, mNew])
  · exact (Tri.start h1 h2).ia.g.trans (by simp [syNew, mNew]; omega)
  · have := (Tri.start h1 h2).ia.g
    show 2 ≤ (pFill (mNew n)).G.length
    omega
  · simp [syFill, syMem, syNew]
theorem own_beg {m k : Nat} {y : PS} (h : ∀ o ∈ y.own, o.length ≤ m) (u : Nat) : ∀ o ∈ (pBegin y k u).own, o.length ≤ m := by
  unfold pBegin
  split
  · exact h
  · split
    · rename_i p r e
      split
      · intro o ho
        rcases List.mem_or_eq_of_mem_set ho with q | q
        · exact h o q
        · subst q
          have hk : k < y.own.length := by
            rcases Nat.lt_or_ge k y.own.length with q | q
            · exact q
            · rw [List.getD_eq_getElem?_getD, List.getElem?_eq_none q] at e; cases e
          have hm : y.own.getD k [] ∈ y.own := by rw [List.getD_eq_getElem?_getD, List.getElem?_eq_getElem hk]; exact List.getElem_mem hk
          have := h _ hm
          rw [e] at this
          simp at this; omega
      · exact h
    · exact h
theorem own_kept {m k : Nat} {f : Fr} {t : Sy} {own : List (List Int)} (h : ∀ o ∈ own, o.length ≤ m) : ∀ o ∈ pKeep k f t own, o.length ≤ m + 1 := by
  have h' : ∀ o ∈ own, o.length ≤ m + 1 := fun o ho => Nat.le_succ_of_le (h o ho)
  unfold pKeep
  split
  · split
    · intro o ho
      rcases List.mem_or_eq_of_mem_set ho with q | q
      · exact h' o q
      · subst q
        simp only [List.length_append, List.length_cons, List.length_nil]
        rcases Nat.lt_or_ge k own.length with q | q
        · have hm : own.getD k [] ∈ own := by rw [List.getD_eq_getElem?_getD, List.getElem?_eq_getElem q]; exact List.getElem_mem q
          have := h _ hm
          omega
        · rw [List.getD_eq_getElem?_getD, List.getElem?_eq_none q]; simp
    · exact h'
  · exact h'
theorem ok_begin {b k : Nat} {y : PS} (h : Ok4 b y.s) (u : Nat) : Ok4 b (pBegin y k u).s := by
  unfold pBegin
  split
  · exact h
  · split
    · split
      · exact h.call (by simp [fr1]) _
      · exact h.call (by simp [fr1]) _
    · exact h.call (by simp [fr1]) _
theorem PInv.begin {c n k : Nat} {y : PS} (h : PInv c n k y) {j : Nat} (hj : j < c) (u : Nat) : PInv c n k (pBegin y j u) := ⟨(h.ti.begins hj u).1, ok_begin h.ok u, own_beg h.ol u⟩
theorem PInv.pick {c n k : Nat} {y : PS} (h : PInv c n k y) (hn : n ≤ 200) (hk : k ≤ 800) (c1 : 1 ≤ c) (u : Nat) : PInv c n (k + 1) (pPick c y u) :=
  ⟨h.ti.pick hn (by omega) c1 u, (ok_begin h.ok u).step (by omega) _, own_kept (own_beg h.ol u)⟩
theorem play_succ (c n : Nat) (us : List Nat) {k u : Nat} (hu : us[k]? = some u) : pPlay c n (us.take (k + 1)) = pPick c (pPlay c n (us.take k)) u := by
  have e : us.take (k + 1) = us.take k ++ [u] := by rw [List.take_add_one, hu]; rfl
  unfold pPlay
  rw [e, List.foldl_append]
  rfl
theorem PInv.play {c n : Nat} (h1 : 1 ≤ n) (h2 : n ≤ 200) (c1 : 1 ≤ c) (c2 : c ≤ 8) (us : List Nat) : ∀ k, k ≤ us.length → k ≤ 800 → PInv c n k (pPlay c n (us.take k)) := by
  intro k
  induction k with
  | zero => intro _ _; exact PInv.start h1 h2 c1 c2
  | succ k ih =>
    intro hk hk2
    have hu : us[k]? = some us[k] := List.getElem?_eq_getElem (by omega)
    rw [play_succ c n us hu]
    exact (ih (by omega) (by omega)).pick h2 (by omega) c1 _

/-- What a call has returned: its rows stand whatever becomes of older blocks. -/
theorem RetSysN.open {wj wk : World} {t : Sy} {e : Ending} (h : RetSysN wj t e wk) : ∃ (A B C L : Option Addr) (a b c d : Nat), e = .returned (.agg #[.slice A t.M.W.length a, .slice B t.M.G.length b, .bool t.M.bad, .slice C t.C.length c, .slice L t.L.length d]) ∧ RS wk t A B C L ∧ (∀ w'', Turn (fun x => x < wj.heap.size) wk w'' → RS w'' t A B C L) ∧ Below wj.heap.size wj wk := by
  obtain ⟨A, B, C, L, a, b, c, d, e1, r1, r2, r3, r4, _⟩ := h.1 wk (Turn.refl _ _)
  refine ⟨A, B, C, L, a, b, c, d, e1, ⟨r1, r2, r3, r4⟩, fun w'' t2 => ?_, h.2⟩
  obtain ⟨A', B', C', L', a', b', c', d', e2, q1, q2, q3, q4, _⟩ := h.1 w'' t2
  rw [e1] at e2
  simp only [Ending.returned.injEq, Value.agg.injEq, Array.mk.injEq, List.cons.injEq, Value.slice.injEq, Value.bool.injEq, and_true, true_and] at e2
  obtain ⟨⟨rfl, _⟩, ⟨rfl, _⟩, ⟨rfl, _⟩, rfl, _⟩ := e2
  exact ⟨q1, q2, q3, q4⟩

theorem OwnsAt.lt {w : World} {g : Nat} {os : List (List Int)} {qs : List (Option Addr × Nat)} (h : OwnsAt w g os qs) {j b : Nat} {q : Option Addr × Nat} (hq : qs[j]? = some q) (hb : pBlk q.1 q.2 = some b) : b < w.heap.size := by
  have hj : j < os.length := by have := (List.getElem?_eq_some_iff.1 hq).1; have := h.len; omega
  obtain ⟨o, cur, _, hh⟩ := (h.part j _ q (List.getElem?_eq_getElem hj) hq).blk hb
  exact heap_lt hh
theorem OwnsAt.noInt {w : World} {g : Nat} {os : List (List Int)} {qs : List (Option Addr × Nat)} (h : OwnsAt w g os qs) : NoInt w g := fun o n hc => by
  rw [cell_of_row w g o _ _ _ h.row] at hc
  simp only [List.getElem?_toArray, partV] at hc
  rw [List.getElem?_zipWith] at hc
  split at hc <;> first | cases hc | (simp at hc)

/-- In memory: the system lies in the variable at block v, the parts in the row at block g. -/
structure PHolds (w0 : World) (v g r : Nat) (RV : Array Value) (y : PS) (qs : List (Option Addr × Nat)) (A B C L : Option Addr) (a b c d : Nat) (wr : World) : Prop where
  sv : wr.heap[v]? = some (.cells #[.slice A y.s.M.W.length a, .slice B y.s.M.G.length b, .bool y.s.M.bad, .slice C y.s.C.length c, .slice L y.s.L.length d] 30 (0, 0))
  rs : RS wr y.s A B C L
  ow : OwnsAt wr g y.own qs
  nw : ∀ (j : Nat) (q : Option Addr × Nat) (b : Nat), qs[j]? = some q → pBlk q.1 q.2 = some b → w0.heap.size ≤ b
  be : Below w0.heap.size w0 wr
  rv : wr.heap[r]? = some (.cells RV 30 (0, 0))
  rn : r ≠ v
def PHas (w0 : World) (v g r : Nat) (RV : Array Value) (y : PS) (wr : World) : Prop := ∃ qs A B C L a b c d, PHolds w0 v g r RV y qs A B C L a b c d wr

section
variable {w0 wr : World} {v g r : Nat} {RV : Array Value} {y : PS} {qs : List (Option Addr × Nat)} {A B C L : Option Addr} {a b c d : Nat}
theorem PHolds.lv (h : PHolds w0 v g r RV y qs A B C L a b c d wr) : v < wr.heap.size := heap_lt h.sv
theorem PHolds.lg (h : PHolds w0 v g r RV y qs A B C L a b c d wr) : g < wr.heap.size := heap_lt h.ow.row
theorem sys_ne : (30 : Nat) ≠ 3 ∧ (30 : Nat) ≠ 24 := by decide
theorem PHolds.ne (h : PHolds w0 v g r RV y qs A B C L a b c d wr) : g ≠ v := fun e => by
  have h1 := h.sv
  have h2 := h.ow.row
  rw [e] at h2
  rw [h2] at h1
  injection h1 with h1
  injection h1 with _ e2
  exact sys_ne.2 e2.symm
theorem PHolds.neb (h : PHolds w0 v g r RV y qs A B C L a b c d wr) {j k : Nat} {q : Option Addr × Nat} (hq : qs[j]? = some q) (hb : pBlk q.1 q.2 = some k) : k ≠ v := fun e => by
  have hj : j < y.own.length := by have := (List.getElem?_eq_some_iff.1 hq).1; have := h.ow.len; omega
  obtain ⟨o, cur, _, hh⟩ := (h.ow.part j _ q (List.getElem?_eq_getElem hj) hq).blk hb
  have h1 := h.sv
  rw [e] at hh
  rw [hh] at h1
  injection h1 with h1
  injection h1 with _ e2
  exact sys_ne.1 e2.symm
theorem PHolds.lr (h : PHolds w0 v g r RV y qs A B C L a b c d wr) : r < wr.heap.size := heap_lt h.rv
theorem PHolds.rg (h : PHolds w0 v g r RV y qs A B C L a b c d wr) : r ≠ g := fun e => by
  have h1 := h.rv
  have h2 := h.ow.row
  rw [e] at h1
  rw [h2] at h1
  injection h1 with h1
  injection h1 with _ e2
  exact sys_ne.2 e2.symm
theorem PHolds.rb (h : PHolds w0 v g r RV y qs A B C L a b c d wr) {j k : Nat} {q : Option Addr × Nat} (hq : qs[j]? = some q) (hb : pBlk q.1 q.2 = some k) : r ≠ k := fun e => by
  have hj : j < y.own.length := by have := (List.getElem?_eq_some_iff.1 hq).1; have := h.ow.len; omega
  obtain ⟨o, cur, _, hh⟩ := (h.ow.part j _ q (List.getElem?_eq_getElem hj) hq).blk hb
  have h1 := h.rv
  rw [← e] at hh
  rw [hh] at h1
  injection h1 with h1
  injection h1 with _ e2
  exact sys_ne.1 e2.symm
theorem PHolds.step (h : PHolds w0 v g r RV y qs A B C L a b c d wr) {w' : World} (hb : Below wr.heap.size wr w') : PHolds w0 v g r RV y qs A B C L a b c d w' :=
  ⟨(hb.block v h.lv).trans h.sv, h.rs.step hb, h.ow.step hb, h.nw, bstep h.be hb, (hb.block r h.lr).trans h.rv, h.rn⟩
/-- Another system is stored. -/
theorem PHolds.put (h : PHolds w0 v g r RV y qs A B C L a b c d wr) (hv : w0.heap.size ≤ v) {wk : World} {t : Sy} {A9 B9 C9 L9 : Option Addr} (a9 b9 c9 d9 : Nat) (hk : Below wr.heap.size wr wk) (rW : Row wk A9 t.M.W) (rG : Row wk B9 t.M.G) (rC : RowC wk C9 t.C) (rL : RowE wk L9 t.L) :
    PHolds w0 v g r RV ⟨t, y.own⟩ qs A9 B9 C9 L9 a9 b9 c9 d9 (((((wk.setCell ⟨v, 0, none⟩ (.slice A9 t.M.W.length a9)).setCell ⟨v, 1, none⟩ (.slice B9 t.M.G.length b9)).setCell ⟨v, 2, none⟩ (.bool t.M.bad)).setCell ⟨v, 3, none⟩ (.slice C9 t.C.length c9)).setCell ⟨v, 4, none⟩ (.slice L9 t.L.length d9)) := by
  have h2 := h.step hk
  exact ⟨blk5 h2.sv _ _ _ _ _, (RS.mk rW rG rC rL).turnN (turn5 _ _ _ _ _ _ _) (noInt_sys h2.sv), h2.ow.turn (turn5 _ _ _ _ _ _ _) h2.sv sys_ne.1 sys_ne.2, h.nw, h2.be.trans ((turn5 _ _ _ _ _ _ _).to_below h2.be.size (fun g hg => by rw [hg]; exact hv)), ((turn5 _ _ _ _ _ _ _).block r h2.lr h.rn).trans h2.rv, h.rn⟩
/-- A part is laid anew in the row. -/
theorem PHolds.row (h : PHolds w0 v g r RV y qs A B C L a b c d wr) (hg : w0.heap.size ≤ g) {k : Nat} {o' : List Int} {A' : Option Addr} {c' : Nat} (ho : OwnsAt (wr.setCell ⟨g, k, none⟩ (.slice A' o'.length c')) g (y.own.set k o') (qs.set k (A', c'))) (hn : ∀ b, pBlk A' c' = some b → w0.heap.size ≤ b) :
    PHolds w0 v g r RV ⟨y.s, y.own.set k o'⟩ (qs.set k (A', c')) A B C L a b c d (wr.setCell ⟨g, k, none⟩ (.slice A' o'.length c')) := by
  have t : Turn (fun x => x = g) wr (wr.setCell ⟨g, k, none⟩ (.slice A' o'.length c')) := (Turn.refl (fun x => x = g) wr).set (p := fun x => x = g) rfl _ _
  refine ⟨(t.block v h.lv (fun e => h.ne e.symm)).trans h.sv, h.rs.turnN t h.ow.noInt, ho, fun j q b hq hb => ?_, h.be.trans (t.to_below h.be.size (fun x hx => by rw [hx]; exact hg)), (t.block r h.lr h.rg).trans h.rv, h.rn⟩
  by_cases e : j = k
  · subst e
    rw [List.getElem?_set_self (by have := (List.getElem?_eq_some_iff.1 hq).1; simpa using this)] at hq
    injection hq with hq
    subst hq
    exact hn b hb
  · rw [List.getElem?_set_ne (fun h => e h.symm)] at hq
    exact h.nw j q b hq hb
/-- The head of a part is taken. -/
theorem PHolds.tail (h : PHolds w0 v g r RV y qs A B C L a b c d wr) (hg : w0.heap.size ≤ g) {k b' o c' : Nat} {x : Int} {xs : List Int} (ho : y.own[k]? = some (x :: xs)) (hq : qs[k]? = some (some ⟨b', o, none⟩, c')) (hc : c' ≠ 1) :
    PHolds w0 v g r RV ⟨y.s, y.own.set k xs⟩ (qs.set k (some ⟨b', o + 1, none⟩, c' - 1)) A B C L a b c d (wr.setCell ⟨g, k, none⟩ (.slice (some ⟨b', o + 1, none⟩) xs.length (c' - 1))) := by
  refine h.row hg (h.ow.tail ho hq hc) (fun b2 hb2 => h.nw k _ b2 hq ?_)
  have h1 := (h.ow.part k _ _ ho hq).1
  simp only [List.length_cons] at h1
  unfold pBlk at hb2 ⊢
  rw [if_neg (by omega)] at hb2 ⊢
  exact hb2
theorem PHolds.last (h : PHolds w0 v g r RV y qs A B C L a b c d wr) (hg : w0.heap.size ≤ g) {k : Nat} {A1 A' : Option Addr} {x : Int} {xs : List Int} (ho : y.own[k]? = some (x :: xs)) (hq : qs[k]? = some (A1, 1)) :
    PHolds w0 v g r RV ⟨y.s, y.own.set k xs⟩ (qs.set k (A', 0)) A B C L a b c d (wr.setCell ⟨g, k, none⟩ (.slice A' xs.length 0)) :=
  h.row hg (h.ow.last ho hq) (fun b hb => by simp [pBlk] at hb)

theorem set_twice (w : World) (g k : Nat) (u u' : Value) (cs : Array Value) (T : TypeId) (h : w.heap[g]? = some (.cells cs T (0, 0))) : (w.setCell ⟨g, k, none⟩ u).setCell ⟨g, k, none⟩ u' = w.setCell ⟨g, k, none⟩ u' := by
  have hg := heap_lt h
  have e : w.heap[g] = .cells cs T (0, 0) := by
    have := Array.getElem?_eq_getElem hg
    rw [this] at h
    injection h
  have m : ∀ (f f' : Obj → Obj), (∀ o, f' (f o) = f' o) → (w.heap.modify g f).modify g f' = w.heap.modify g f' := fun f f' hf => by
    apply Array.ext
    · simp
    · intro i h1 h2
      simp only [Array.getElem_modify]
      split
      · exact hf _
      · rfl
  unfold World.setCell
  simp only [World.mk.injEq, and_true]
  refine m _ _ (fun o => ?_)
  cases o <;> simp
/-- What a step has returned, stored: the rows stand whatever becomes of blocks below lo. -/
structure PStands (w0 : World) (v g r : Nat) (RV : Array Value) (lo : Nat) (y : PS) (qs : List (Option Addr × Nat)) (A B C L : Option Addr) (a b c d : Nat) (wr : World) : Prop where
  ph : PHolds w0 v g r RV y qs A B C L a b c d wr
  st : ∀ w'', Turn (fun x => x < lo) wr w'' → RS w'' y.s A B C L
  gl : g < lo
  pl : ∀ (j : Nat) (q : Option Addr × Nat) (b : Nat), qs[j]? = some q → pBlk q.1 q.2 = some b → b < lo
  ll : lo ≤ wr.heap.size
theorem PHolds.stands (h : PHolds w0 v g r RV y qs A B C L a b c d wr) (hv : w0.heap.size ≤ v) {wk : World} {t : Sy} {A9 B9 C9 L9 : Option Addr} (a9 b9 c9 d9 : Nat) (hk : Below wr.heap.size wr wk) (hR : RS wk t A9 B9 C9 L9) (hS : ∀ w'', Turn (fun x => x < wr.heap.size) wk w'' → RS w'' t A9 B9 C9 L9) :
    PStands w0 v g r RV wr.heap.size ⟨t, y.own⟩ qs A9 B9 C9 L9 a9 b9 c9 d9 (((((wk.setCell ⟨v, 0, none⟩ (.slice A9 t.M.W.length a9)).setCell ⟨v, 1, none⟩ (.slice B9 t.M.G.length b9)).setCell ⟨v, 2, none⟩ (.bool t.M.bad)).setCell ⟨v, 3, none⟩ (.slice C9 t.C.length c9)).setCell ⟨v, 4, none⟩ (.slice L9 t.L.length d9)) := by
  have t5 := turn5 wk v (.slice A9 t.M.W.length a9) (.slice B9 t.M.G.length b9) (.bool t.M.bad) (.slice C9 t.C.length c9) (.slice L9 t.L.length d9)
  refine ⟨h.put hv a9 b9 c9 d9 hk hR.W hR.G hR.C hR.L, fun w'' t2 => hS w'' ((t5.mono (fun x _ hx => by have := h.lv; omega)).trans t2), h.lg, fun j q b hq hb => h.ow.lt hq hb, ?_⟩
  have := t5.size
  have := hk.size
  omega
theorem PStands.step {lo : Nat} (h : PStands w0 v g r RV lo y qs A B C L a b c d wr) {w' : World} (hb : Below wr.heap.size wr w') : PStands w0 v g r RV lo y qs A B C L a b c d w' :=
  ⟨h.ph.step hb, fun w'' t => h.st w'' ((Turn.below (Turn.refl _ _) hb).trans t), h.gl, h.pl, Nat.le_trans h.ll hb.size⟩
theorem PStands.rowCell {lo : Nat} (h : PStands w0 v g r RV lo y qs A B C L a b c d wr) {k : Nat} {o : List Int} {q : Option Addr × Nat} (ho : y.own[k]? = some o) (hq : qs[k]? = some q) {w' : World} (ht : Turn (fun b => pBlk q.1 q.2 = some b) wr w') : w'.cell? ⟨g, k, none⟩ = some (.slice q.1 o.length q.2) ∧ w'.frozen? ⟨g, k, none⟩ = false := by
  have hgne : pBlk q.1 q.2 ≠ some g := fun e => by
    obtain ⟨o3, cur, _, hh⟩ := (h.ph.ow.part k _ _ ho hq).blk e
    have := hh.symm.trans h.ph.ow.row
    injection this with this
    injection this with _ e2
    exact int_ne_parts e2
  obtain ⟨q', hq', _, h1, h2⟩ := h.ph.ow.at_ ho
  rw [hq] at hq'
  injection hq' with hq'
  subst hq'
  exact ⟨(ht.cell h.ph.lg hgne).trans h1, (ht.frozen h.ph.lg hgne).trans h2⟩
/-- A number is appended to a part. -/
theorem PStands.push {lo : Nat} (h : PStands w0 v g r RV lo y qs A B C L a b c d wr) (hg : w0.heap.size ≤ g) {k : Nat} {o : List Int} {q : Option Addr × Nat} (ho : y.own[k]? = some o) (hq : qs[k]? = some q) {z : Int} {A' : Option Addr} {c' : Nat} {w' : World} (hP : PartAt w' A' c' (o ++ [z])) (ht : Turn (fun b => pBlk q.1 q.2 = some b) wr w') (hn : ∀ b, pBlk A' c' = some b → pBlk q.1 q.2 = some b ∨ wr.heap.size ≤ b) :
    PHolds w0 v g r RV ⟨y.s, y.own.set k (o ++ [z])⟩ (qs.set k (A', c')) A B C L a b c d (w'.setCell ⟨g, k, none⟩ (.slice A' (o ++ [z]).length c')) := by
  have hgne : pBlk q.1 q.2 ≠ some g := fun e => by
    obtain ⟨o3, cur, _, hh⟩ := (h.ph.ow.part k _ _ ho hq).blk e
    have := hh.symm.trans h.ph.ow.row
    injection this with this
    injection this with _ e2
    exact int_ne_parts e2
  have k1 : w'.heap[g]? = wr.heap[g]? := ht.block g h.ph.lg hgne
  -- the other parts stand
  have ow : ∀ (j : Nat) (p : List Int) (r : Option Addr × Nat), y.own[j]? = some p → qs[j]? = some r → j ≠ k → PartAt w' r.1 r.2 p := fun j p r hp hr hj =>
    (h.ph.ow.part j p r hp hr).keep (fun b hb hl => ht.block b hl (fun e => h.ph.ow.apart j k r q b hj hr hq hb e))
  have hk : k < y.own.length := (List.getElem?_eq_some_iff.1 ho).1
  -- as if the part were empty
  have h0 : OwnsAt (w'.setCell ⟨g, k, none⟩ (.slice none ([] : List Int).length 0)) g (y.own.set k []) (qs.set k (none, 0)) := by
    have hrow := k1.trans h.ph.ow.row
    refine ⟨by simp [h.ph.ow.len], ?_, fun j p r hp hr => ?_, fun i j q' r b hij hq' hr hb => ?_⟩
    · rw [heap_setCell_same w' g k _ _ _ hrow, ← partV_set]
      simp
    · by_cases e : j = k
      · subst e
        rw [List.getElem?_set_self hk] at hp
        rw [List.getElem?_set_self (by have := h.ph.ow.len; omega)] at hr
        injection hp with hp
        injection hr with hr
        subst hp hr
        exact PartAt.nil _
      · rw [List.getElem?_set_ne (fun h => e h.symm)] at hp hr
        refine (ow j p r hp hr e).keep (fun b hb _ => Below.heap_setCell w' ⟨g, k, none⟩ _ b (fun e2 => ?_))
        subst e2
        obtain ⟨o3, cur, _, hh⟩ := (ow j p r hp hr e).blk hb
        have := hh.symm.trans hrow
        injection this with this
        injection this with _ e2
        exact int_ne_parts e2
    · by_cases e1 : i = k
      · subst e1
        rw [List.getElem?_set_self (by have := (List.getElem?_eq_some_iff.1 hq').1; simpa using this)] at hq'
        injection hq' with hq'
        subst hq'
        simp [pBlk] at hb
      · by_cases e2 : j = k
        · subst e2
          rw [List.getElem?_set_self (by have := (List.getElem?_eq_some_iff.1 hr).1; simpa using this)] at hr
          injection hr with hr
          subst hr
          simp [pBlk]
        · rw [List.getElem?_set_ne (fun h => e1 h.symm)] at hq'
          rw [List.getElem?_set_ne (fun h => e2 h.symm)] at hr
          exact h.ph.ow.apart i j q' r b hij hq' hr hb
  have hP0 : PartAt (w'.setCell ⟨g, k, none⟩ (.slice none ([] : List Int).length 0)) A' c' (o ++ [z]) := hP.keep (fun b hb hl => Below.heap_setCell w' ⟨g, k, none⟩ _ b (fun e2 => by
    subst e2
    obtain ⟨o3, cur, _, hh⟩ := hP.blk hb
    have := hh.symm.trans (k1.trans h.ph.ow.row)
    injection this with this
    injection this with _ e2
    exact int_ne_parts e2))
  have h1 := h0.put (k := k) (o := []) (o' := o ++ [z]) (q := (none, 0)) (List.getElem?_set_self hk) A' c' hP0 (fun b hb j r hj hr hbr => by
    rw [List.getElem?_set_ne (fun h => hj h.symm)] at hr
    rcases hn b hb with e | e
    · exact h.ph.ow.apart j k r q b hj hr hq hbr e
    · have := h.ph.ow.lt hr hbr; omega)
  have e2 : (w'.setCell ⟨g, k, none⟩ (.slice none ([] : List Int).length 0)).setCell ⟨g, k, none⟩ (.slice A' (o ++ [z]).length c') = w'.setCell ⟨g, k, none⟩ (.slice A' (o ++ [z]).length c') := by
    have hrow := k1.trans h.ph.ow.row
    exact set_twice w' g k _ _ _ _ hrow
  rw [e2, List.set_set, List.set_set] at h1
  have tg : Turn (fun x => x < lo ∨ wr.heap.size ≤ x) wr (w'.setCell ⟨g, k, none⟩ (.slice A' (o ++ [z]).length c')) := (ht.mono (fun x _ hx => .inl (h.pl k q x hq hx))).set (.inl h.gl) _ _
  have tl : Turn (fun x => x < lo) wr (w'.setCell ⟨g, k, none⟩ (.slice A' (o ++ [z]).length c')) := (ht.mono (fun x _ hx => h.pl k q x hq hx)).set h.gl _ _
  have tv : Turn (fun x => pBlk q.1 q.2 = some x ∨ x = g) wr (w'.setCell ⟨g, k, none⟩ (.slice A' (o ++ [z]).length c')) := (ht.mono (fun x _ hx => .inl hx)).set (.inr rfl) _ _
  refine ⟨(tv.block v h.ph.lv (fun e => ?_)).trans h.ph.sv, h.st _ tl, h1, fun j r2 b hr hb => ?_, h.ph.be.trans (tv.to_below h.ph.be.size (fun x hx => ?_)), (tv.block r h.ph.lr (fun e => ?_)).trans h.ph.rv, h.ph.rn⟩
  · rcases e with e | e
    · exact h.ph.neb hq e rfl
    · exact h.ph.ne e.symm
  · by_cases e : j = k
    · subst e
      rw [List.getElem?_set_self (by have := (List.getElem?_eq_some_iff.1 hr).1; simpa using this)] at hr
      injection hr with hr
      subst hr
      rcases hn b hb with e | e
      · exact h.ph.nw j q b hq e
      · exact Nat.le_trans h.ph.be.size e
    · rw [List.getElem?_set_ne (fun h => e h.symm)] at hr
      exact h.ph.nw j r2 b hr hb
  · rcases hx with e | e
    · exact h.ph.nw k q x hq e
    · rw [e]; exact hg
  · rcases e with e | e
    · exact h.ph.rb hq e rfl
    · exact h.ph.rg e
end
theorem PHolds.fresh {w0 w3 : World} {v r c n : Nat} {RV : Array Value} {A B C L : Option Addr} {a b e d : Nat} (S : RS w3 (syFill c n) A B C L) (Bk : w3.heap[v]? = some (.cells #[.slice A (syFill c n).M.W.length a, .slice B (syFill c n).M.G.length b, .bool (syFill c n).M.bad, .slice C (syFill c n).C.length e, .slice L (syFill c n).L.length d] 30 (0, 0))) (hb : Below w0.heap.size w0 w3) (hr : w3.heap[r]? = some (.cells RV 30 (0, 0))) (hrn : r ≠ v) :
    PHolds w0 v w3.heap.size r RV ⟨syFill c n, List.replicate c []⟩ (List.replicate c (none, 0)) A B C L a b e d (w3.alloc (.cells (madeCells #[.slice none 0 0] c) 24)) := by
  have hk : Below w3.heap.size w3 (w3.alloc (.cells (madeCells #[.slice none 0 0] c) 24)) := boxed _ _
  have none_ : ∀ (j : Nat) (q : Option Addr × Nat), (List.replicate c ((none : Option Addr), 0))[j]? = some q → q = (none, 0) := fun j q hq => by
    have := List.mem_of_getElem? hq
    simp at this
    exact this.2
  refine ⟨(hk.block v (heap_lt Bk)).trans Bk, S.step hk, ⟨by simp, ?_, fun j o q ho hq => ?_, fun j k q r b _ hq _ hb => ?_⟩, fun j q b hq hb => ?_, bstep hb hk, (hk.block r (heap_lt hr)).trans hr, hrn⟩
  · rw [heap_alloc_new]
    congr 2
    apply Array.ext
    · simp [madeCells, partV]
    · intro i h1 h2
      simp [madeCells, partV, Nat.mod_one]
  · have e1 := none_ j q hq
    have e2 : o = [] := by
      have := List.mem_of_getElem? ho
      simp at this
      exact this.2
    subst e1 e2
    exact PartAt.nil _
  · rw [none_ j q hq] at hb; simp [pBlk] at hb
  · rw [none_ j q hq] at hb; simp [pBlk] at hb
end Go.Proofs.Ytlknpmdmnekedaa
