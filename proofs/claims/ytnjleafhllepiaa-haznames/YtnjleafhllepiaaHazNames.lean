/- For every system, the law HazNames (just what a slot of a core tells is named; a core more names what its slots tell, too; nothing else is named) returns true, and the arguments read afterwards as before. No conditions. -/
import Derived.Test.YtnjleafhllepiaaRows
import Derived.Test.YtnjleafhllepiaaShown5
import Derived.Test.YtnjleafhllepiaaHaz9
import Derived.Test.YtnjleafhllepiaaHaz11
import Derived.Test.YtnjleafhllepiaaOpen7
import Derived.Test.YtnjleafhllepiaaKCoD
import Derived.Test.YtnjleafhllepiaaKCpy
import Derived.Test.YtnjleafhllepiaaKCoB
import Derived.Test.YtnjleafhllepiaaKBas
namespace Go.Proofs.Ytnjleafhllepiaa
namespace HazNames
open Go.ChangeShapes Go.WideShapes Go.ChangeAt Go.RowKit
set_option linter.unusedVariables false
set_option linter.unusedSimpArgs false

theorem own : ownKnob Try.prog.godebug = none := by kernel_rfl

theorem lastOf_suc7 (m : Ar) (p : Int) (n k : Nat) : lastOf m p n (k + 1) = (lastOf m p n k || (m.W.getD (8 + (n + k)) 0 == p)) := by
  rw [lastOf]
  congr 1
def BRow (w : World) (g : Nat) (l : List Bool) : Prop := w.heap[g]? = some (.cells (l.map Value.bool).toArray 4 (0, 0))
theorem BRow.step {w w' : World} {g : Nat} {l : List Bool} (h : BRow w g l) (hb : Below w.heap.size w w') : BRow w' g l := (hb.block g (Array.getElem?_eq_some_iff.1 h).1).trans h
theorem alloc_at {w : World} {o : Obj} {g : Nat} (h : g = w.heap.size) : (w.alloc o).heap[g]? = some o := by rw [h]; exact heap_alloc_new w o
theorem alloc_keep {w : World} {o o' : Obj} {g : Nat} (h : w.heap[g]? = some o) : (w.alloc o').heap[g]? = some o := ((boxed w o').block g (Array.getElem?_eq_some_iff.1 h).1).trans h
/-- Rows that are not empty stand. -/
theorem kept7 {w w' : World} {g0 : Nat} {T : TypeId} (hg0 : w.heap[g0]? = some (.cells #[] T (0, 0))) (hg : w.grownBy w' (some g0)) {b : Nat} {cs : Array Value} {T' : TypeId} (hc : cs.size ≠ 0) (h : w.heap[b]? = some (.cells cs T' (0, 0))) : w'.heap[b]? = some (.cells cs T' (0, 0)) := by
  refine (hg.block b (Array.getElem?_eq_some_iff.1 h).1 (fun e => ?_)).trans h
  injection e with e
  rw [e, hg0] at h
  injection h with h
  injection h with h1 h2
  rw [← h1] at hc
  exact hc rfl
/-- What is no row of cores stands. -/
theorem kept8 {w w' : World} {base n : Nat} {v : Value} {xs : List Value} (ho : w.ownsRow base 37 7 v n xs) (hg : w.grownBy w' v.ownBlock) {b : Nat} {cs : Array Value} (h : w.heap[b]? = some (.cells cs 28 (0, 0))) : w'.heap[b]? = some (.cells cs 28 (0, 0)) := by
  refine (hg.block b (Array.getElem?_eq_some_iff.1 h).1 (fun e => ?_)).trans h
  rcases ho.2 with ⟨rfl, _⟩ | ⟨g, cap, cur, rfl, _, hh, _⟩
  · exact absurd e (by simp [Value.ownBlock])
  · injection e with e
    rw [e] at h
    rw [h] at hh
    injection hh with hh
    injection hh with h1 h2
    exact absurd h2 (by decide)
theorem step_app7 {P : Program} {w : World} {ops : Array Oper} {o : Oper} {a : Act} {K : Act → World → Prop} {Q : Exit → Act → World → Prop} {E : Prop} (hgd : o.guard = none) (s x : Operand) (t : TypeId)
    (ho : o.op = .call { callee := .builtin .append, args := #[s, x], argTypes := #[t, t] })
    (e : TypeId) (z : Value) (size bytes : Nat) (ht : P.underlying t = some (.slice e)) (hinfo : (P.info? e).map (fun i => (i.zero, i.size, i.bytes)) = some (some z, size, bytes)) (hzs : z.cells.size = size) (hsz : 0 < size)
    (g0 : Nat) (hs : a.eval s = .slice (some ⟨g0, 0, none⟩) 0 0) (hg0 : w.heap[g0]? = some (.cells #[] e (0, 0)))
    (A : Option Addr) (c : Nat) (css : List (List Value)) (m : Nat) (hm : css.length = m) (hx : a.eval x = .slice A m c) (hsrc : Src w A size css)
    (hlen : m ≤ 1000000) (hby : bytes ≤ 1000)
    (h : ∀ v' w', w'.ownsRow g0 e size v' m css.flatten → w.grownBy w' (some g0) → Hid (∀ (b : Nat) (cs : Array Value) (T' : TypeId), cs.size ≠ 0 → w.heap[b]? = some (.cells cs T' (0, 0)) → w'.heap[b]? = some (.cells cs T' (0, 0))) → K (a.put o.dst v') w') :
    if Region.wanted o (yielded ops a.tmps) = true then Oper.wp P o a w K Q else E :=
  step_append_any hgd s x t ho e z size bytes ht hinfo hzs hsz g0 hs hg0 A c css m hm hx hsrc hlen hby (fun v' w' h1 h2 => h v' w' h1 h2 (fun b cs T' hc hh => kept7 hg0 h2 hc hh))
theorem step_app8 {P : Program} {w : World} {ops : Array Oper} {o : Oper} {a : Act} {K : Act → World → Prop} {Q : Exit → Act → World → Prop} {E : Prop} (hgd : o.guard = none) (s x : Operand) (t : TypeId)
    (ho : o.op = .call { callee := .builtin .append, args := #[s, x], argTypes := #[t, t] })
    (base : Nat) (z : Value) (bytes : Nat) (ht : P.underlying t = some (.slice 37)) (hinfo : (P.info? 37).map (fun i => (i.zero, i.size, i.bytes)) = some (some z, 7, bytes)) (hzs : z.cells.size = 7)
    (v : Value) (n : Nat) (xs : List Value) (hs : a.eval s = v) (hown : w.ownsRow base 37 7 v n xs)
    (ad : Addr) (m c : Nat) (news : List Value) (hx : a.eval x = .slice (some ad) m c) (hl : news.length = m * 7) (hnews : ∀ j u, news[j]? = some u → w.cell? (ad.add j) = some u) (h1 : ∀ u ∈ news, u.oneCell' = true)
    (hlen : n + m ≤ 1000000) (hby : bytes ≤ 1000) (hbase : base ≤ w.heap.size)
    (h : ∀ v' w', w'.ownsRow base 37 7 v' (n + m) (xs ++ news) → w.grownBy w' v.ownBlock → Hid (∀ (b : Nat) (cs : Array Value), a.eval (.tmp 5) = .pointer (some ⟨b, 0, none⟩) → w.heap[b]? = some (.cells cs 28 (0, 0)) → w'.heap[b]? = some (.cells cs 28 (0, 0))) → K (a.put o.dst v') w') :
    if Region.wanted o (yielded ops a.tmps) = true then Oper.wp P o a w K Q else E :=
  step_append_onto hgd s x t ho base 37 z 7 bytes ht hinfo hzs (by omega) v n xs hs hown ad m c news hx hl hnews h1 hlen hby hbase (fun v' w' h1 h2 _ => h v' w' h1 h2 (fun b cs _ hh => kept8 hown h2 hh))
theorem zco_one : ∀ u ∈ [(.slice none 0 0 : Value), .int .i64 0, .int .i64 0, .int .i64 0, .int .i64 0, .int .i64 0, .slice none 0 0], u.oneCell' = true := by
  intro u hu
  simp only [List.mem_cons, List.not_mem_nil, or_false] at hu
  rcases hu with rfl | rfl | rfl | rfl | rfl | rfl | rfl <;> rfl
set_option maxRecDepth 100000 in
set_option maxHeartbeats 8000000 in
theorem walk_not (A0 B0 C0 L0 : Option Addr) (a0 b0 c0 d0 : Nat) (s0 : Sy) (w0 : World)
    (rW : Row w0 A0 s0.M.W) (rG : Row w0 B0 s0.M.G) (rC : RowC w0 C0 s0.C) (rL : RowE w0 L0 s0.L) (g0 : s0.M.W.length ≤ maxLen) (g1 : s0.M.G.length ≤ maxLen) (g2 : s0.C.length ≤ maxLen) (g3 : s0.L.length ≤ maxLen) (q0 : syMays s0 = false) :
    Calls Try.prog 3 #[.agg #[.slice A0 s0.M.W.length a0, .slice B0 s0.M.G.length b0, .bool s0.M.bad, .slice C0 s0.C.length c0, .slice L0 s0.L.length d0]] w0 fun e w' => e = .returned (.bool true) ∧ Below w0.heap.size w0 w' := by
  have S0 : RS w0 s0 A0 B0 C0 L0 := ⟨rW, rG, rC, rL⟩
  have hb : Below w0.heap.size w0 w0 := Below.refl _ _
  have HC := rmay3_any A0 B0 C0 L0 a0 b0 c0 d0 s0
  rw [q0] at HC
  replace HC := hid (show ∀ w, RS w s0 A0 B0 C0 L0 → Calls Try.prog 10 #[.agg #[.slice A0 s0.M.W.length a0, .slice B0 s0.M.G.length b0, .bool s0.M.bad, .slice C0 s0.C.length c0, .slice L0 s0.L.length d0], .int .i64 60] w fun e w' => e = .returned (.bool false) ∧ Below w.heap.size w w' from fun w h => HC w h.G h.C g1 g0 g2 g3)
  clear rW rG rC rL g0 g1 g2 g3
  go_enter Try.func3, Try.ntmps3
  go_upto_region 1 with (fail)
  have Bk0 := heap_alloc_new w0 (.cells #[.slice A0 s0.M.W.length a0, .slice B0 s0.M.G.length b0, .bool s0.M.bad, .slice C0 s0.C.length c0, .slice L0 s0.L.length d0] 28)
  have lt0 : w0.heap.size < (w0.alloc (.cells #[.slice A0 s0.M.W.length a0, .slice B0 s0.M.G.length b0, .bool s0.M.bad, .slice C0 s0.C.length c0, .slice L0 s0.L.length d0] 28)).heap.size := by simp
  have hk : Below w0.heap.size w0 (w0.alloc (.cells #[.slice A0 s0.M.W.length a0, .slice B0 s0.M.G.length b0, .bool s0.M.bad, .slice C0 s0.C.length c0, .slice L0 s0.L.length d0] 28)) := boxed _ _
  replace S0 := S0.step hk
  replace hb := bstep hb hk
  clear hk
  obtain ⟨v0, hv⟩ : ∃ v, w0.heap.size = v := ⟨_, rfl⟩
  rw [hv] at Bk0 lt0 ⊢
  clear hv
  generalize (w0.alloc (.cells #[.slice A0 s0.M.W.length a0, .slice B0 s0.M.G.length b0, .bool s0.M.bad, .slice C0 s0.C.length c0, .slice L0 s0.L.length d0] 28)) = w1 at *
  go_wp2_with fail
  refine (shown5_any _).mono ?_
  rintro e w2 ⟨rfl, hk⟩
  replace Bk0 := (hk.block v0 lt0).trans Bk0
  replace lt0 := Nat.lt_of_lt_of_le lt0 hk.size
  replace S0 := S0.step hk
  replace hb := bstep hb hk
  clear hk
  go_upto_region 2 with (fail)
  have m0_0 : w2.cell? ⟨v0, 0, none⟩ = some (.slice A0 s0.M.W.length a0) := cell_of_row w2 _ 0 _ _ _ Bk0
  have m0_1 : w2.cell? ⟨v0, 1, none⟩ = some (.slice B0 s0.M.G.length b0) := cell_of_row w2 _ 1 _ _ _ Bk0
  have m0_2 : w2.cell? ⟨v0, 2, none⟩ = some (.bool s0.M.bad) := cell_of_row w2 _ 2 _ _ _ Bk0
  have m0_3 : w2.cell? ⟨v0, 3, none⟩ = some (.slice C0 s0.C.length c0) := cell_of_row w2 _ 3 _ _ _ Bk0
  have m0_4 : w2.cell? ⟨v0, 4, none⟩ = some (.slice L0 s0.L.length d0) := cell_of_row w2 _ 4 _ _ _ Bk0
  go_wp2_with (go_at_call 10; refine (HC.out _ S0).mono ?_; rintro e wm ⟨rfl, hk⟩)
  go_ret
  exact ⟨rfl, bstep hb hk⟩

set_option maxRecDepth 100000 in
set_option maxHeartbeats 8000000 in
theorem walk_many (A0 B0 C0 L0 : Option Addr) (a0 b0 c0 d0 : Nat) (s0 : Sy) (w0 : World)
    (rW : Row w0 A0 s0.M.W) (rG : Row w0 B0 s0.M.G) (rC : RowC w0 C0 s0.C) (rL : RowE w0 L0 s0.L) (g0 : s0.M.W.length ≤ maxLen) (g1 : s0.M.G.length ≤ maxLen) (g2 : s0.C.length ≤ maxLen) (g3 : s0.L.length ≤ maxLen) (q0 : syMays s0 = true) (qc : 7 < s0.C.length) :
    Calls Try.prog 3 #[.agg #[.slice A0 s0.M.W.length a0, .slice B0 s0.M.G.length b0, .bool s0.M.bad, .slice C0 s0.C.length c0, .slice L0 s0.L.length d0]] w0 fun e w' => e = .returned (.bool true) ∧ Below w0.heap.size w0 w' := by
  have S0 : RS w0 s0 A0 B0 C0 L0 := ⟨rW, rG, rC, rL⟩
  have hb : Below w0.heap.size w0 w0 := Below.refl _ _
  have HC := rmay3_any A0 B0 C0 L0 a0 b0 c0 d0 s0
  rw [q0] at HC
  replace HC := hid (show ∀ w, RS w s0 A0 B0 C0 L0 → Calls Try.prog 10 #[.agg #[.slice A0 s0.M.W.length a0, .slice B0 s0.M.G.length b0, .bool s0.M.bad, .slice C0 s0.C.length c0, .slice L0 s0.L.length d0], .int .i64 60] w fun e w' => e = .returned (.bool true) ∧ Below w.heap.size w w' from fun w h => HC w h.G h.C g1 g0 g2 g3)
  clear rW rG rC rL g0 g1 g2 g3
  go_enter Try.func3, Try.ntmps3
  go_upto_region 1 with (fail)
  have Bk0 := heap_alloc_new w0 (.cells #[.slice A0 s0.M.W.length a0, .slice B0 s0.M.G.length b0, .bool s0.M.bad, .slice C0 s0.C.length c0, .slice L0 s0.L.length d0] 28)
  have lt0 : w0.heap.size < (w0.alloc (.cells #[.slice A0 s0.M.W.length a0, .slice B0 s0.M.G.length b0, .bool s0.M.bad, .slice C0 s0.C.length c0, .slice L0 s0.L.length d0] 28)).heap.size := by simp
  have hk : Below w0.heap.size w0 (w0.alloc (.cells #[.slice A0 s0.M.W.length a0, .slice B0 s0.M.G.length b0, .bool s0.M.bad, .slice C0 s0.C.length c0, .slice L0 s0.L.length d0] 28)) := boxed _ _
  replace S0 := S0.step hk
  replace hb := bstep hb hk
  clear hk
  obtain ⟨v0, hv⟩ : ∃ v, w0.heap.size = v := ⟨_, rfl⟩
  rw [hv] at Bk0 lt0 ⊢
  clear hv
  generalize (w0.alloc (.cells #[.slice A0 s0.M.W.length a0, .slice B0 s0.M.G.length b0, .bool s0.M.bad, .slice C0 s0.C.length c0, .slice L0 s0.L.length d0] 28)) = w1 at *
  go_wp2_with fail
  refine (shown5_any _).mono ?_
  rintro e w2 ⟨rfl, hk⟩
  replace Bk0 := (hk.block v0 lt0).trans Bk0
  replace lt0 := Nat.lt_of_lt_of_le lt0 hk.size
  replace S0 := S0.step hk
  replace hb := bstep hb hk
  clear hk
  go_upto_region 2 with (fail)
  have m0_0 : w2.cell? ⟨v0, 0, none⟩ = some (.slice A0 s0.M.W.length a0) := cell_of_row w2 _ 0 _ _ _ Bk0
  have m0_1 : w2.cell? ⟨v0, 1, none⟩ = some (.slice B0 s0.M.G.length b0) := cell_of_row w2 _ 1 _ _ _ Bk0
  have m0_2 : w2.cell? ⟨v0, 2, none⟩ = some (.bool s0.M.bad) := cell_of_row w2 _ 2 _ _ _ Bk0
  have m0_3 : w2.cell? ⟨v0, 3, none⟩ = some (.slice C0 s0.C.length c0) := cell_of_row w2 _ 3 _ _ _ Bk0
  have m0_4 : w2.cell? ⟨v0, 4, none⟩ = some (.slice L0 s0.L.length d0) := cell_of_row w2 _ 4 _ _ _ Bk0
  have hq : decide ((7 : Int) < (s0.C.length : Int)) = true := by simp; omega
  go_wp2_with (go_at_call 10; refine (HC.out _ S0).mono ?_; rintro e wm ⟨rfl, hk⟩; have K0 := (hk.block v0 lt0).trans Bk0; have x3 : wm.cell? ⟨v0, 3, none⟩ = some (.slice C0 s0.C.length c0) := cell_of_row wm _ 3 _ _ _ K0)
  go_ret
  exact ⟨rfl, bstep hb hk⟩

set_option maxRecDepth 100000 in
set_option maxHeartbeats 100000000 in
theorem walk_yes (A0 B0 C0 L0 : Option Addr) (a0 b0 c0 d0 : Nat) (s0 : Sy) (w0 : World)
    (rW : Row w0 A0 s0.M.W) (rG : Row w0 B0 s0.M.G) (rC : RowC w0 C0 s0.C) (rL : RowE w0 L0 s0.L) (g0 : s0.M.W.length ≤ maxLen) (g1 : s0.M.G.length ≤ maxLen) (g2 : s0.C.length ≤ maxLen) (g3 : s0.L.length ≤ maxLen) (q0 : syMays s0 = true) (qc : s0.C.length ≤ 7) :
    Calls Try.prog 3 #[.agg #[.slice A0 s0.M.W.length a0, .slice B0 s0.M.G.length b0, .bool s0.M.bad, .slice C0 s0.C.length c0, .slice L0 s0.L.length d0]] w0 fun e w' => e = .returned (.bool true) ∧ Below w0.heap.size w0 w' := by
  have S0 : RS w0 s0 A0 B0 C0 L0 := ⟨rW, rG, rC, rL⟩
  have hb : Below w0.heap.size w0 w0 := Below.refl _ _
  have HC := rmay3_any A0 B0 C0 L0 a0 b0 c0 d0 s0
  rw [q0] at HC
  replace HC := hid (show ∀ w, RS w s0 A0 B0 C0 L0 → Calls Try.prog 10 #[.agg #[.slice A0 s0.M.W.length a0, .slice B0 s0.M.G.length b0, .bool s0.M.bad, .slice C0 s0.C.length c0, .slice L0 s0.L.length d0], .int .i64 60] w fun e w' => e = .returned (.bool true) ∧ Below w.heap.size w w' from fun w h => HC w h.G h.C g1 g0 g2 g3)
  clear rW rG rC rL g0 g1 g2 g3
  go_enter Try.func3, Try.ntmps3
  go_upto_region 1 with (fail)
  have Bk0 := heap_alloc_new w0 (.cells #[.slice A0 s0.M.W.length a0, .slice B0 s0.M.G.length b0, .bool s0.M.bad, .slice C0 s0.C.length c0, .slice L0 s0.L.length d0] 28)
  have lt0 : w0.heap.size < (w0.alloc (.cells #[.slice A0 s0.M.W.length a0, .slice B0 s0.M.G.length b0, .bool s0.M.bad, .slice C0 s0.C.length c0, .slice L0 s0.L.length d0] 28)).heap.size := by simp
  have hk : Below w0.heap.size w0 (w0.alloc (.cells #[.slice A0 s0.M.W.length a0, .slice B0 s0.M.G.length b0, .bool s0.M.bad, .slice C0 s0.C.length c0, .slice L0 s0.L.length d0] 28)) := boxed _ _
  replace S0 := S0.step hk
  replace hb := bstep hb hk
  clear hk
  obtain ⟨v0, hv⟩ : ∃ v, w0.heap.size = v := ⟨_, rfl⟩
  rw [hv] at Bk0 lt0 ⊢
  clear hv
  generalize (w0.alloc (.cells #[.slice A0 s0.M.W.length a0, .slice B0 s0.M.G.length b0, .bool s0.M.bad, .slice C0 s0.C.length c0, .slice L0 s0.L.length d0] 28)) = w1 at *
  go_wp2_with fail
  refine (shown5_any _).mono ?_
  rintro e w2 ⟨rfl, hk⟩
  replace Bk0 := (hk.block v0 lt0).trans Bk0
  replace lt0 := Nat.lt_of_lt_of_le lt0 hk.size
  replace S0 := S0.step hk
  replace hb := bstep hb hk
  clear hk
  go_upto_region 2 with (fail)
  have m0_0 : w2.cell? ⟨v0, 0, none⟩ = some (.slice A0 s0.M.W.length a0) := cell_of_row w2 _ 0 _ _ _ Bk0
  have m0_1 : w2.cell? ⟨v0, 1, none⟩ = some (.slice B0 s0.M.G.length b0) := cell_of_row w2 _ 1 _ _ _ Bk0
  have m0_2 : w2.cell? ⟨v0, 2, none⟩ = some (.bool s0.M.bad) := cell_of_row w2 _ 2 _ _ _ Bk0
  have m0_3 : w2.cell? ⟨v0, 3, none⟩ = some (.slice C0 s0.C.length c0) := cell_of_row w2 _ 3 _ _ _ Bk0
  have m0_4 : w2.cell? ⟨v0, 4, none⟩ = some (.slice L0 s0.L.length d0) := cell_of_row w2 _ 4 _ _ _ Bk0
  have hq : decide ((7 : Int) < (s0.C.length : Int)) = false := by simp; omega
  go_upto_region 4 with (go_at_call 10; refine (HC.out _ S0).mono ?_; rintro e w3 ⟨rfl, hk⟩; have K0 := (hk.block v0 lt0).trans Bk0; have x3 : w3.cell? ⟨v0, 3, none⟩ = some (.slice C0 s0.C.length c0) := cell_of_row w3 _ 3 _ _ _ K0)
  clear m0_0 m0_1 m0_2 m0_3 m0_4
  clear K0 x3
  replace Bk0 := (hk.block v0 lt0).trans Bk0
  replace lt0 := Nat.lt_of_lt_of_le lt0 hk.size
  replace S0 := S0.step hk
  replace hb := bstep hb hk
  clear hk
  clear HC
  have hmay : sySmall s0 = true ∧ syRight s0 = true := by simpa [syMays] using q0
  have hf := few_of_small hmay.1
  have hr := hmay.2
  simp only [syRight, Bool.and_eq_true, decide_eq_true_eq] at hr
  have hR := Rt.of hr.1.1.1
  have hc1 : 1 ≤ s0.C.length := hr.1.1.2
  clear hmay q0 hr hq
  have g2 := hR.g2
  have hw1 : 128 ≤ s0.M.W.length := by have := hR.w; omega
  have hgl : s0.M.G.length ≤ 1000000 := hf.2.1
  have HWL := hid (show s0.M.W.length ≤ 1000000 from hf.1)
  clear hR
  obtain ⟨nl, hnl⟩ : ∃ l, l = pNamedTo s0.M (3 * s0.C.length) := ⟨_, rfl⟩
  obtain ⟨ml, hml⟩ : ∃ l, l = pNamedTo s0.M (3 * (s0.C.length + 1)) := ⟨_, rfl⟩
  have HN1 := hid (show ∀ (w : World), RS w s0 A0 B0 C0 L0 → Calls Try.prog 11 #[.agg #[.slice A0 s0.M.W.length a0, .slice B0 s0.M.G.length b0, .bool s0.M.bad, .slice C0 s0.C.length c0, .slice L0 s0.L.length d0]] w fun e w' => ∃ g, e = .returned (.slice (some ⟨g, 0, none⟩) s0.M.G.length s0.M.G.length) ∧ BRow w' g nl ∧ Below w.heap.size w w' from fun w k => by have h9 := named_any A0 B0 C0 L0 a0 b0 c0 d0 s0 w hf g2 k; rw [pNameds_to hw1 _ (by omega), ← hnl] at h9; exact h9.mono (fun e w' ⟨g, e1, e2, _, e3⟩ => ⟨g, e1, e2, e3⟩))
  have HN2 := hid (show ∀ (A8 : Option Addr) (c8 : Nat) (w : World), RS w s0 A0 B0 C0 L0 → Calls Try.prog 11 #[.agg #[.slice A0 s0.M.W.length a0, .slice B0 s0.M.G.length b0, .bool s0.M.bad, .slice A8 (s0.C.length + 1) c8, .slice L0 s0.L.length d0]] w fun e w' => ∃ g, e = .returned (.slice (some ⟨g, 0, none⟩) s0.M.G.length s0.M.G.length) ∧ BRow w' g ml ∧ Below w.heap.size w w' from fun A8 c8 w k => by have h9 := named_wg A0 B0 A8 L0 a0 b0 c8 d0 (⟨s0.M, s0.C ++ [⟨[], 0, 0, 0, 0, 0, []⟩], s0.L⟩ : Sy) w ⟨hf.1, hf.2.1, by simp only [List.length_append, List.length_cons, List.length_nil]; omega, hf.2.2.2.1, by intro y hy; rcases List.mem_append.1 hy with h | h; exact hf.2.2.2.2 y h; simp only [List.mem_singleton] at h; subst h; simp⟩ g2 k.W k.G; simp only [List.length_append, List.length_cons, List.length_nil, Nat.zero_add] at h9; rw [pNameds_to (m := s0.M) hw1 _ (by omega), ← hml] at h9; exact h9.mono (fun e w' ⟨g, e1, e2, _, e3⟩ => ⟨g, e1, e2, e3⟩))
  have HL1 := hid (show nl.length = s0.M.G.length by rw [hnl]; exact pNamedTo_len _ _)
  have HL2 := hid (show ml.length = s0.M.G.length by rw [hml]; exact pNamedTo_len _ _)
  have HZ := hid (show nl.getD 0 false = false by rw [hnl]; exact named_zero _ (by omega) _)
  have HP1 := hid (show ∀ p : Nat, 1 ≤ p → p < s0.M.G.length → nl.getD p false = decide (0 < cnt s0.M p (3 * s0.C.length)) from fun p h1 h2 => by rw [hnl]; exact named_cnt _ h1 h2 _)
  have HP2 := hid (show ∀ p : Nat, 1 ≤ p → p < s0.M.G.length → ml.getD p false = (decide (0 < cnt s0.M p (3 * s0.C.length)) || lastOf s0.M p (3 * s0.C.length) 3) from fun p h1 h2 => by rw [hml, named_cnt _ h1 h2, show 3 * (s0.C.length + 1) = 3 * s0.C.length + 3 by omega]; exact cnt_last _ _ _ 3)
  clear hnl hml hf
  have m0_0 : w3.cell? ⟨v0, 0, none⟩ = some (.slice A0 s0.M.W.length a0) := cell_of_row w3 _ 0 _ _ _ Bk0
  have m0_1 : w3.cell? ⟨v0, 1, none⟩ = some (.slice B0 s0.M.G.length b0) := cell_of_row w3 _ 1 _ _ _ Bk0
  have m0_2 : w3.cell? ⟨v0, 2, none⟩ = some (.bool s0.M.bad) := cell_of_row w3 _ 2 _ _ _ Bk0
  have m0_3 : w3.cell? ⟨v0, 3, none⟩ = some (.slice C0 s0.C.length c0) := cell_of_row w3 _ 3 _ _ _ Bk0
  have m0_4 : w3.cell? ⟨v0, 4, none⟩ = some (.slice L0 s0.L.length d0) := cell_of_row w3 _ 4 _ _ _ Bk0
  go_upto_region 5 with (go_at_call 11; (with_reducible refine (HN1.out _ S0).mono ?_); rintro e w4 ⟨g1, rfl, y1, hk⟩)
  clear m0_0 m0_1 m0_2 m0_3 m0_4
  replace Bk0 := (hk.block v0 lt0).trans Bk0
  replace lt0 := Nat.lt_of_lt_of_le lt0 hk.size
  replace S0 := S0.step hk
  replace hb := bstep hb hk
  clear hk
  obtain ⟨qs, hqs, hsrc, _⟩ := S0.C.src
  have HSR := hid hsrc
  have hql := csCells_len hqs
  clear hsrc
  have m0_0 : w4.cell? ⟨v0, 0, none⟩ = some (.slice A0 s0.M.W.length a0) := cell_of_row w4 _ 0 _ _ _ Bk0
  have m0_1 : w4.cell? ⟨v0, 1, none⟩ = some (.slice B0 s0.M.G.length b0) := cell_of_row w4 _ 1 _ _ _ Bk0
  have m0_2 : w4.cell? ⟨v0, 2, none⟩ = some (.bool s0.M.bad) := cell_of_row w4 _ 2 _ _ _ Bk0
  have m0_3 : w4.cell? ⟨v0, 3, none⟩ = some (.slice C0 s0.C.length c0) := cell_of_row w4 _ 3 _ _ _ Bk0
  have m0_4 : w4.cell? ⟨v0, 4, none⟩ = some (.slice L0 s0.L.length d0) := cell_of_row w4 _ 4 _ _ _ Bk0
  go_cut [5] from 38 (fun y5 wx => ∃ (vM : Nat) (A8 : Option Addr) (c8 : Nat), y5 = .pointer (some ⟨vM, 0, none⟩) ∧ wx.heap[vM]? = some (.cells #[.slice A0 s0.M.W.length a0, .slice B0 s0.M.G.length b0, .bool s0.M.bad, .slice A8 (s0.C.length + 1) c8, .slice L0 s0.L.length d0] 28 (0, 0)) ∧ Below w4.heap.size w4 wx)
  case first =>
    have KS := hid (show ∀ w', Turn (fun b => w4.heap.size ≤ b) w4 w' → (w'.cell? ⟨v0, 0, none⟩ = some (.slice A0 s0.M.W.length a0) ∧ w'.cell? ⟨v0, 1, none⟩ = some (.slice B0 s0.M.G.length b0) ∧ w'.cell? ⟨v0, 2, none⟩ = some (.bool s0.M.bad) ∧ w'.cell? ⟨v0, 3, none⟩ = some (.slice C0 s0.C.length c0) ∧ w'.cell? ⟨v0, 4, none⟩ = some (.slice L0 s0.L.length d0)) from fun w' h => ⟨(h.cell lt0 (by omega)).trans m0_0, (h.cell lt0 (by omega)).trans m0_1, (h.cell lt0 (by omega)).trans m0_2, (h.cell lt0 (by omega)).trans m0_3, (h.cell lt0 (by omega)).trans m0_4⟩)
    refine wp_region_held_drew (S := fun w' => Turn (fun b => w4.heap.size ≤ b) w4 w') (by kernel_rfl) (Turn.drew (Turn.refl _ _)) (fun HT0 => ?_)
    try dsimp only at HT0
    clear m0_0 m0_1 m0_2 m0_3 m0_4 Bk0 S0 y1
    generalize w4.drew = W0 at *
    refine wpAnyH_take (i := 0) (v := ?v1) rfl (by kernel_rfl) (by kernel_rfl) (by kernel_rfl) (fun _ _ _ h => h) (Or.inl ⟨by rfl, ?h1⟩) HT0 ?_
    case h1 => (intro w hSw; obtain ⟨x0, x1, x2, x3, x4⟩ := KS.out w hSw; clear hSw; go_simp; try with_reducible rfl)
    try simp only [Act.put, List.setIfInBounds_toArray, List.set_cons_zero, List.set_cons_succ]
    refine wpAnyH_take (i := 1) (v := ?v2) rfl (by kernel_rfl) (by kernel_rfl) (by kernel_rfl) (fun _ _ _ h => h) (Or.inl ⟨by rfl, ?h2⟩) HT0 ?_
    case h2 => (intro w hSw; obtain ⟨x0, x1, x2, x3, x4⟩ := KS.out w hSw; clear hSw; go_simp; try with_reducible rfl)
    try simp only [Act.put, List.setIfInBounds_toArray, List.set_cons_zero, List.set_cons_succ]
    refine wpAnyH_take (i := 3) (v := ?v3) rfl (by kernel_rfl) (by kernel_rfl) (by kernel_rfl) (fun _ _ _ h => h) (Or.inl ⟨by rfl, ?h3⟩) HT0 ?_
    case h3 => (intro w hSw; obtain ⟨x0, x1, x2, x3, x4⟩ := KS.out w hSw; clear hSw; go_simp; try with_reducible rfl)
    try simp only [Act.put, List.setIfInBounds_toArray, List.set_cons_zero, List.set_cons_succ]
    refine wpAnyH_take (i := 4) (v := ?v4) rfl (by kernel_rfl) (by kernel_rfl) (by kernel_rfl) (fun _ _ _ h => h) (Or.inl ⟨by rfl, ?h4⟩) HT0 ?_
    case h4 => (intro w hSw; obtain ⟨x0, x1, x2, x3, x4⟩ := KS.out w hSw; clear hSw; go_simp; try with_reducible rfl)
    try simp only [Act.put, List.setIfInBounds_toArray, List.set_cons_zero, List.set_cons_succ]
    refine wpAnyH_take (i := 6) (v := ?v5) rfl (by kernel_rfl) (by kernel_rfl) (by kernel_rfl) (fun _ _ _ h => h) (Or.inl ⟨by rfl, ?h5⟩) HT0 ?_
    case h5 => (intro w hSw; obtain ⟨x0, x1, x2, x3, x4⟩ := KS.out w hSw; clear hSw; go_simp; try with_reducible rfl)
    try simp only [Act.put, List.setIfInBounds_toArray, List.set_cons_zero, List.set_cons_succ]
    refine wpAnyH_take (i := 9) (v := ?v6) rfl (by kernel_rfl) (by kernel_rfl) (by kernel_rfl) (fun _ _ _ h => h) (Or.inl ⟨by rfl, ?h6⟩) HT0 ?_
    case h6 => (intro w hSw; obtain ⟨x0, x1, x2, x3, x4⟩ := KS.out w hSw; clear hSw; go_simp; try with_reducible rfl)
    try simp only [Act.put, List.setIfInBounds_toArray, List.set_cons_zero, List.set_cons_succ]
    refine wpAnyH_take (i := 10) (v := ?v7) rfl (by kernel_rfl) (by kernel_rfl) (by kernel_rfl) (fun _ _ _ h => h) (Or.inl ⟨by rfl, ?h7⟩) HT0 ?_
    case h7 => (intro w hSw; obtain ⟨x0, x1, x2, x3, x4⟩ := KS.out w hSw; clear hSw; go_simp; try with_reducible rfl)
    try simp only [Act.put, List.setIfInBounds_toArray, List.set_cons_zero, List.set_cons_succ]
    refine wpAnyH_ready (rs := [2, 7, 12]) (by kernel_rfl) (by simp) ?_
    refine AllReadyH.cons rfl (fun K hK => ?_) ?_
    · go_simp
      refine hK.out _ _ (HT0.alloc _) (fun _ => ?_)
      clear hK K
      have B2 := heap_alloc_new W0 (.cells #[] 37 (0, 0))
      have HT1 := HT0.alloc (.cells #[] 37 (0, 0))
      have l2 := HT0.size
      have L2 : W0.heap.size ≤ (W0.alloc (.cells #[] 37 (0, 0))).heap.size := by simp
      obtain ⟨g2, hg⟩ : ∃ g, W0.heap.size = g := ⟨_, rfl⟩
      rw [hg] at B2 l2 L2 ⊢
      clear hg HT0
      generalize W0.alloc (.cells #[] 37 (0, 0)) = W1 at *
      try simp only [Act.put, List.setIfInBounds_toArray, List.set_cons_zero, List.set_cons_succ]
      refine wpAnyH_ready (rs := [5, 7, 12]) (by kernel_rfl) (by simp) ?_
      refine AllReadyH.cons rfl (fun K hK => ?_) ?_
      · refine step_app7 (by rfl) _ _ _ (by rfl) 37 _ 7 88 Try.underlying25 infoCo rfl (by omega) g2 (by rfl) B2 C0 c0 (csCells s0.C qs) s0.C.length hql (by rfl) (HSR.out.step (HT1.to_below (Nat.le_refl _) (fun _ h => h))) (by omega) (by omega) ?_
        intro v7 W2 ho7 hg7 HK7
        obtain ⟨A7, c7, rfl⟩ := own_val ho7
        have HT2 := HT1.grown hg7 (fun g hg => by injection hg with hg; omega)
        replace L2 : g2 ≤ W2.heap.size := Nat.le_trans L2 hg7.size
        refine hK.out _ _ HT2 (fun _ => ?_)
        clear hK K B2 HK7 hg7 HT1
        try simp only [Act.put, List.setIfInBounds_toArray, List.set_cons_zero, List.set_cons_succ]
        refine wpAnyH_ready (rs := [7, 12]) (by kernel_rfl) (by simp) ?_
        refine AllReadyH.cons rfl (fun K hK => ?_) ?_
        · go_simp
          refine hK.out _ _ (HT2.alloc _) (fun _ => ?_)
          clear hK K
          replace ho7 := own_step ho7 (boxed _ (.cells #[.slice none 0 0, .int .i64 0, .int .i64 0, .int .i64 0, .int .i64 0, .int .i64 0, .slice none 0 0] 37 (0, 0)))
          replace L2 : g2 ≤ (W2.alloc (.cells #[.slice none 0 0, .int .i64 0, .int .i64 0, .int .i64 0, .int .i64 0, .int .i64 0, .slice none 0 0] 37 (0, 0))).heap.size := Nat.le_trans L2 (by simp)
          have B7 := heap_alloc_new W2 (.cells #[.slice none 0 0, .int .i64 0, .int .i64 0, .int .i64 0, .int .i64 0, .int .i64 0, .slice none 0 0] 37 (0, 0))
          have HT3 := HT2.alloc (.cells #[.slice none 0 0, .int .i64 0, .int .i64 0, .int .i64 0, .int .i64 0, .int .i64 0, .slice none 0 0] 37 (0, 0))
          have l7 := HT2.size
          obtain ⟨g7, hg⟩ : ∃ g, W2.heap.size = g := ⟨_, rfl⟩
          rw [hg] at B7 l7 ⊢
          clear hg HT2
          generalize W2.alloc (.cells #[.slice none 0 0, .int .i64 0, .int .i64 0, .int .i64 0, .int .i64 0, .int .i64 0, .slice none 0 0] 37 (0, 0)) = W3 at *
          try simp only [Act.put, List.setIfInBounds_toArray, List.set_cons_zero, List.set_cons_succ]
          refine wpAnyH_ready (rs := [8, 12]) (by kernel_rfl) (by simp) ?_
          refine AllReadyH.cons rfl (fun K hK => ?_) ?_
          · refine step_app8 (by rfl) _ _ _ (by rfl) g2 _ 88 Try.underlying25 infoCo rfl (.slice A7 s0.C.length c7) s0.C.length (csCells s0.C qs).flatten (by rfl) ho7 ⟨g7, 0, none⟩ 1 1 [.slice none 0 0, .int .i64 0, .int .i64 0, .int .i64 0, .int .i64 0, .int .i64 0, .slice none 0 0] (by rfl) (by rfl) (World.news_of_block (cs := #[.slice none 0 0, .int .i64 0, .int .i64 0, .int .i64 0, .int .i64 0, .int .i64 0, .slice none 0 0]) (t := 37) (fr := (0, 0)) B7) zco_one (by omega) (by omega) L2 ?_
            intro v8 W4 ho8 hg8 HK8
            obtain ⟨A8, c8, rfl⟩ := own_val ho8
            have HT4 := HT3.grown hg8 (fun g hg => by have h8 := (ho7.lt g hg).1; omega)
            refine hK.out _ _ HT4 (fun _ => ?_)
            clear hK K B7 HK8 hg8 ho8 ho7 L2 HT3
            try simp only [Act.put, List.setIfInBounds_toArray, List.set_cons_zero, List.set_cons_succ]
            refine wpAnyH_take (i := 11) (v := ?v8) rfl (by kernel_rfl) (by kernel_rfl) (by kernel_rfl) (fun _ _ _ h => h) (Or.inl ⟨by rfl, ?h8⟩) HT4 ?_
            case h8 => (intro w hSw; obtain ⟨x0, x1, x2, x3, x4⟩ := KS.out w hSw; clear hSw; go_simp; try with_reducible rfl)
            try simp only [Act.put, List.setIfInBounds_toArray, List.set_cons_zero, List.set_cons_succ]
            refine wpAnyH_ready (rs := [12]) (by kernel_rfl) (by simp) ?_
            refine AllReadyH.cons rfl (fun K hK => ?_) ?_
            · go_simp
              refine hK.out _ _ (HT4.alloc _) (fun _ => ?_)
              clear hK K
              have B12 := heap_alloc_new W4 (.cells #[.slice none 0 0, .slice none 0 0, .bool false, .slice none 0 0, .slice none 0 0] 28 (0, 0))
              have HT5 := HT4.alloc (.cells #[.slice none 0 0, .slice none 0 0, .bool false, .slice none 0 0, .slice none 0 0] 28 (0, 0))
              have l12 := HT4.size
              obtain ⟨g12, hg⟩ : ∃ g, W4.heap.size = g := ⟨_, rfl⟩
              rw [hg] at B12 l12 ⊢
              clear hg HT4
              generalize W4.alloc (.cells #[.slice none 0 0, .slice none 0 0, .bool false, .slice none 0 0, .slice none 0 0] 28 (0, 0)) = W5 at *
              try simp only [Act.put, List.setIfInBounds_toArray, List.set_cons_zero, List.set_cons_succ]
              refine wpAnyH_ready (rs := [13]) (by kernel_rfl) (by simp) ?_
              refine AllReadyH.cons rfl (fun K hK => ?_) ?_
              · have q0 : W5.cell? ⟨g12, 0, none⟩ = some (.slice none 0 0) := cell_of_row W5 _ 0 _ _ _ B12
                have q1 : W5.cell? ⟨g12, 1, none⟩ = some (.slice none 0 0) := cell_of_row W5 _ 1 _ _ _ B12
                have q2 : W5.cell? ⟨g12, 2, none⟩ = some (.bool false) := cell_of_row W5 _ 2 _ _ _ B12
                have q3 : W5.cell? ⟨g12, 3, none⟩ = some (.slice none 0 0) := cell_of_row W5 _ 3 _ _ _ B12
                have q4 : W5.cell? ⟨g12, 4, none⟩ = some (.slice none 0 0) := cell_of_row W5 _ 4 _ _ _ B12
                have qf0 : W5.frozen? ⟨g12, 0, none⟩ = false := frozen_of_row W5 _ 0 _ _ B12
                have qf1 : W5.frozen? ⟨g12, 1, none⟩ = false := frozen_of_row W5 _ 1 _ _ B12
                have qf2 : W5.frozen? ⟨g12, 2, none⟩ = false := frozen_of_row W5 _ 2 _ _ B12
                have qf3 : W5.frozen? ⟨g12, 3, none⟩ = false := frozen_of_row W5 _ 3 _ _ B12
                have qf4 : W5.frozen? ⟨g12, 4, none⟩ = false := frozen_of_row W5 _ 4 _ _ B12
                go_simp
                have HT6 := ((((HT5.set (g := g12) l12 0 (.slice A0 s0.M.W.length a0)).set (g := g12) l12 1 (.slice B0 s0.M.G.length b0)).set (g := g12) l12 2 (.bool s0.M.bad)).set (g := g12) l12 3 (.slice A8 (s0.C.length + 1) c8)).set (g := g12) l12 4 (.slice L0 s0.L.length d0)
                refine hK.out _ _ HT6 (fun _ => ?_)
                clear hK K
                try simp only [Act.put, List.setIfInBounds_toArray, List.set_cons_zero, List.set_cons_succ]
                refine wpAnyH_done (by kernel_rfl) ?_ _
                go_wp2_with fail
                go_meet
                exact ⟨g12, A8, c8, rfl, blk5 B12 _ _ _ _ _, (HT6).to_below (Nat.le_refl _) (fun g hg => hg)⟩
              exact AllReadyH.nil
            exact AllReadyH.nil
          refine AllReadyH.cons rfl (fun K hK => ?_) ?_
          · go_simp
            refine hK.out _ _ (HT3.alloc _) (fun _ => ?_)
            clear hK K
            replace B7 := alloc_keep (o' := (.cells #[.slice none 0 0, .slice none 0 0, .bool false, .slice none 0 0, .slice none 0 0] 28 (0, 0))) B7
            replace ho7 := own_step ho7 (boxed _ (.cells #[.slice none 0 0, .slice none 0 0, .bool false, .slice none 0 0, .slice none 0 0] 28 (0, 0)))
            replace L2 : g2 ≤ (W3.alloc (.cells #[.slice none 0 0, .slice none 0 0, .bool false, .slice none 0 0, .slice none 0 0] 28 (0, 0))).heap.size := Nat.le_trans L2 (by simp)
            have B12 := heap_alloc_new W3 (.cells #[.slice none 0 0, .slice none 0 0, .bool false, .slice none 0 0, .slice none 0 0] 28 (0, 0))
            have HT4 := HT3.alloc (.cells #[.slice none 0 0, .slice none 0 0, .bool false, .slice none 0 0, .slice none 0 0] 28 (0, 0))
            have l12 := HT3.size
            obtain ⟨g12, hg⟩ : ∃ g, W3.heap.size = g := ⟨_, rfl⟩
            rw [hg] at B12 l12 ⊢
            clear hg HT3
            generalize W3.alloc (.cells #[.slice none 0 0, .slice none 0 0, .bool false, .slice none 0 0, .slice none 0 0] 28 (0, 0)) = W4 at *
            try simp only [Act.put, List.setIfInBounds_toArray, List.set_cons_zero, List.set_cons_succ]
            refine wpAnyH_ready (rs := [8]) (by kernel_rfl) (by simp) ?_
            refine AllReadyH.cons rfl (fun K hK => ?_) ?_
            · refine step_app8 (by rfl) _ _ _ (by rfl) g2 _ 88 Try.underlying25 infoCo rfl (.slice A7 s0.C.length c7) s0.C.length (csCells s0.C qs).flatten (by rfl) ho7 ⟨g7, 0, none⟩ 1 1 [.slice none 0 0, .int .i64 0, .int .i64 0, .int .i64 0, .int .i64 0, .int .i64 0, .slice none 0 0] (by rfl) (by rfl) (World.news_of_block (cs := #[.slice none 0 0, .int .i64 0, .int .i64 0, .int .i64 0, .int .i64 0, .int .i64 0, .slice none 0 0]) (t := 37) (fr := (0, 0)) B7) zco_one (by omega) (by omega) L2 ?_
              intro v8 W5 ho8 hg8 HK8
              obtain ⟨A8, c8, rfl⟩ := own_val ho8
              have HT5 := HT4.grown hg8 (fun g hg => by have h8 := (ho7.lt g hg).1; omega)
              replace B12 := HK8.out _ _ (by rfl) B12
              refine hK.out _ _ HT5 (fun _ => ?_)
              clear hK K B7 HK8 hg8 ho8 ho7 L2 HT4
              try simp only [Act.put, List.setIfInBounds_toArray, List.set_cons_zero, List.set_cons_succ]
              refine wpAnyH_take (i := 11) (v := ?v9) rfl (by kernel_rfl) (by kernel_rfl) (by kernel_rfl) (fun _ _ _ h => h) (Or.inl ⟨by rfl, ?h9⟩) HT5 ?_
              case h9 => (intro w hSw; obtain ⟨x0, x1, x2, x3, x4⟩ := KS.out w hSw; clear hSw; go_simp; try with_reducible rfl)
              try simp only [Act.put, List.setIfInBounds_toArray, List.set_cons_zero, List.set_cons_succ]
              refine wpAnyH_ready (rs := [13]) (by kernel_rfl) (by simp) ?_
              refine AllReadyH.cons rfl (fun K hK => ?_) ?_
              · have q0 : W5.cell? ⟨g12, 0, none⟩ = some (.slice none 0 0) := cell_of_row W5 _ 0 _ _ _ B12
                have q1 : W5.cell? ⟨g12, 1, none⟩ = some (.slice none 0 0) := cell_of_row W5 _ 1 _ _ _ B12
                have q2 : W5.cell? ⟨g12, 2, none⟩ = some (.bool false) := cell_of_row W5 _ 2 _ _ _ B12
                have q3 : W5.cell? ⟨g12, 3, none⟩ = some (.slice none 0 0) := cell_of_row W5 _ 3 _ _ _ B12
                have q4 : W5.cell? ⟨g12, 4, none⟩ = some (.slice none 0 0) := cell_of_row W5 _ 4 _ _ _ B12
                have qf0 : W5.frozen? ⟨g12, 0, none⟩ = false := frozen_of_row W5 _ 0 _ _ B12
                have qf1 : W5.frozen? ⟨g12, 1, none⟩ = false := frozen_of_row W5 _ 1 _ _ B12
                have qf2 : W5.frozen? ⟨g12, 2, none⟩ = false := frozen_of_row W5 _ 2 _ _ B12
                have qf3 : W5.frozen? ⟨g12, 3, none⟩ = false := frozen_of_row W5 _ 3 _ _ B12
                have qf4 : W5.frozen? ⟨g12, 4, none⟩ = false := frozen_of_row W5 _ 4 _ _ B12
                go_simp
                have HT6 := ((((HT5.set (g := g12) l12 0 (.slice A0 s0.M.W.length a0)).set (g := g12) l12 1 (.slice B0 s0.M.G.length b0)).set (g := g12) l12 2 (.bool s0.M.bad)).set (g := g12) l12 3 (.slice A8 (s0.C.length + 1) c8)).set (g := g12) l12 4 (.slice L0 s0.L.length d0)
                refine hK.out _ _ HT6 (fun _ => ?_)
                clear hK K
                try simp only [Act.put, List.setIfInBounds_toArray, List.set_cons_zero, List.set_cons_succ]
                refine wpAnyH_done (by kernel_rfl) ?_ _
                go_wp2_with fail
                go_meet
                exact ⟨g12, A8, c8, rfl, blk5 B12 _ _ _ _ _, (HT6).to_below (Nat.le_refl _) (fun g hg => hg)⟩
              exact AllReadyH.nil
            exact AllReadyH.nil
          exact AllReadyH.nil
        refine AllReadyH.cons rfl (fun K hK => ?_) ?_
        · go_simp
          refine hK.out _ _ (HT2.alloc _) (fun _ => ?_)
          clear hK K
          replace ho7 := own_step ho7 (boxed _ (.cells #[.slice none 0 0, .slice none 0 0, .bool false, .slice none 0 0, .slice none 0 0] 28 (0, 0)))
          replace L2 : g2 ≤ (W2.alloc (.cells #[.slice none 0 0, .slice none 0 0, .bool false, .slice none 0 0, .slice none 0 0] 28 (0, 0))).heap.size := Nat.le_trans L2 (by simp)
          have B12 := heap_alloc_new W2 (.cells #[.slice none 0 0, .slice none 0 0, .bool false, .slice none 0 0, .slice none 0 0] 28 (0, 0))
          have HT3 := HT2.alloc (.cells #[.slice none 0 0, .slice none 0 0, .bool false, .slice none 0 0, .slice none 0 0] 28 (0, 0))
          have l12 := HT2.size
          obtain ⟨g12, hg⟩ : ∃ g, W2.heap.size = g := ⟨_, rfl⟩
          rw [hg] at B12 l12 ⊢
          clear hg HT2
          generalize W2.alloc (.cells #[.slice none 0 0, .slice none 0 0, .bool false, .slice none 0 0, .slice none 0 0] 28 (0, 0)) = W3 at *
          try simp only [Act.put, List.setIfInBounds_toArray, List.set_cons_zero, List.set_cons_succ]
          refine wpAnyH_ready (rs := [7]) (by kernel_rfl) (by simp) ?_
          refine AllReadyH.cons rfl (fun K hK => ?_) ?_
          · go_simp
            refine hK.out _ _ (HT3.alloc _) (fun _ => ?_)
            clear hK K
            replace B12 := alloc_keep (o' := (.cells #[.slice none 0 0, .int .i64 0, .int .i64 0, .int .i64 0, .int .i64 0, .int .i64 0, .slice none 0 0] 37 (0, 0))) B12
            replace ho7 := own_step ho7 (boxed _ (.cells #[.slice none 0 0, .int .i64 0, .int .i64 0, .int .i64 0, .int .i64 0, .int .i64 0, .slice none 0 0] 37 (0, 0)))
            replace L2 : g2 ≤ (W3.alloc (.cells #[.slice none 0 0, .int .i64 0, .int .i64 0, .int .i64 0, .int .i64 0, .int .i64 0, .slice none 0 0] 37 (0, 0))).heap.size := Nat.le_trans L2 (by simp)
            have B7 := heap_alloc_new W3 (.cells #[.slice none 0 0, .int .i64 0, .int .i64 0, .int .i64 0, .int .i64 0, .int .i64 0, .slice none 0 0] 37 (0, 0))
            have HT4 := HT3.alloc (.cells #[.slice none 0 0, .int .i64 0, .int .i64 0, .int .i64 0, .int .i64 0, .int .i64 0, .slice none 0 0] 37 (0, 0))
            have l7 := HT3.size
            obtain ⟨g7, hg⟩ : ∃ g, W3.heap.size = g := ⟨_, rfl⟩
            rw [hg] at B7 l7 ⊢
            clear hg HT3
            generalize W3.alloc (.cells #[.slice none 0 0, .int .i64 0, .int .i64 0, .int .i64 0, .int .i64 0, .int .i64 0, .slice none 0 0] 37 (0, 0)) = W4 at *
            try simp only [Act.put, List.setIfInBounds_toArray, List.set_cons_zero, List.set_cons_succ]
            refine wpAnyH_ready (rs := [8]) (by kernel_rfl) (by simp) ?_
            refine AllReadyH.cons rfl (fun K hK => ?_) ?_
            · refine step_app8 (by rfl) _ _ _ (by rfl) g2 _ 88 Try.underlying25 infoCo rfl (.slice A7 s0.C.length c7) s0.C.length (csCells s0.C qs).flatten (by rfl) ho7 ⟨g7, 0, none⟩ 1 1 [.slice none 0 0, .int .i64 0, .int .i64 0, .int .i64 0, .int .i64 0, .int .i64 0, .slice none 0 0] (by rfl) (by rfl) (World.news_of_block (cs := #[.slice none 0 0, .int .i64 0, .int .i64 0, .int .i64 0, .int .i64 0, .int .i64 0, .slice none 0 0]) (t := 37) (fr := (0, 0)) B7) zco_one (by omega) (by omega) L2 ?_
              intro v8 W5 ho8 hg8 HK8
              obtain ⟨A8, c8, rfl⟩ := own_val ho8
              have HT5 := HT4.grown hg8 (fun g hg => by have h8 := (ho7.lt g hg).1; omega)
              replace B12 := HK8.out _ _ (by rfl) B12
              refine hK.out _ _ HT5 (fun _ => ?_)
              clear hK K B7 HK8 hg8 ho8 ho7 L2 HT4
              try simp only [Act.put, List.setIfInBounds_toArray, List.set_cons_zero, List.set_cons_succ]
              refine wpAnyH_take (i := 11) (v := ?v10) rfl (by kernel_rfl) (by kernel_rfl) (by kernel_rfl) (fun _ _ _ h => h) (Or.inl ⟨by rfl, ?h10⟩) HT5 ?_
              case h10 => (intro w hSw; obtain ⟨x0, x1, x2, x3, x4⟩ := KS.out w hSw; clear hSw; go_simp; try with_reducible rfl)
              try simp only [Act.put, List.setIfInBounds_toArray, List.set_cons_zero, List.set_cons_succ]
              refine wpAnyH_ready (rs := [13]) (by kernel_rfl) (by simp) ?_
              refine AllReadyH.cons rfl (fun K hK => ?_) ?_
              · have q0 : W5.cell? ⟨g12, 0, none⟩ = some (.slice none 0 0) := cell_of_row W5 _ 0 _ _ _ B12
                have q1 : W5.cell? ⟨g12, 1, none⟩ = some (.slice none 0 0) := cell_of_row W5 _ 1 _ _ _ B12
                have q2 : W5.cell? ⟨g12, 2, none⟩ = some (.bool false) := cell_of_row W5 _ 2 _ _ _ B12
                have q3 : W5.cell? ⟨g12, 3, none⟩ = some (.slice none 0 0) := cell_of_row W5 _ 3 _ _ _ B12
                have q4 : W5.cell? ⟨g12, 4, none⟩ = some (.slice none 0 0) := cell_of_row W5 _ 4 _ _ _ B12
                have qf0 : W5.frozen? ⟨g12, 0, none⟩ = false := frozen_of_row W5 _ 0 _ _ B12
                have qf1 : W5.frozen? ⟨g12, 1, none⟩ = false := frozen_of_row W5 _ 1 _ _ B12
                have qf2 : W5.frozen? ⟨g12, 2, none⟩ = false := frozen_of_row W5 _ 2 _ _ B12
                have qf3 : W5.frozen? ⟨g12, 3, none⟩ = false := frozen_of_row W5 _ 3 _ _ B12
                have qf4 : W5.frozen? ⟨g12, 4, none⟩ = false := frozen_of_row W5 _ 4 _ _ B12
                go_simp
                have HT6 := ((((HT5.set (g := g12) l12 0 (.slice A0 s0.M.W.length a0)).set (g := g12) l12 1 (.slice B0 s0.M.G.length b0)).set (g := g12) l12 2 (.bool s0.M.bad)).set (g := g12) l12 3 (.slice A8 (s0.C.length + 1) c8)).set (g := g12) l12 4 (.slice L0 s0.L.length d0)
                refine hK.out _ _ HT6 (fun _ => ?_)
                clear hK K
                try simp only [Act.put, List.setIfInBounds_toArray, List.set_cons_zero, List.set_cons_succ]
                refine wpAnyH_done (by kernel_rfl) ?_ _
                go_wp2_with fail
                go_meet
                exact ⟨g12, A8, c8, rfl, blk5 B12 _ _ _ _ _, (HT6).to_below (Nat.le_refl _) (fun g hg => hg)⟩
              exact AllReadyH.nil
            exact AllReadyH.nil
          exact AllReadyH.nil
        exact AllReadyH.nil
      refine AllReadyH.cons rfl (fun K hK => ?_) ?_
      · go_simp
        refine hK.out _ _ (HT1.alloc _) (fun _ => ?_)
        clear hK K
        replace B2 := alloc_keep (o' := (.cells #[.slice none 0 0, .int .i64 0, .int .i64 0, .int .i64 0, .int .i64 0, .int .i64 0, .slice none 0 0] 37 (0, 0))) B2
        replace L2 : g2 ≤ (W1.alloc (.cells #[.slice none 0 0, .int .i64 0, .int .i64 0, .int .i64 0, .int .i64 0, .int .i64 0, .slice none 0 0] 37 (0, 0))).heap.size := Nat.le_trans L2 (by simp)
        have B7 := heap_alloc_new W1 (.cells #[.slice none 0 0, .int .i64 0, .int .i64 0, .int .i64 0, .int .i64 0, .int .i64 0, .slice none 0 0] 37 (0, 0))
        have HT2 := HT1.alloc (.cells #[.slice none 0 0, .int .i64 0, .int .i64 0, .int .i64 0, .int .i64 0, .int .i64 0, .slice none 0 0] 37 (0, 0))
        have l7 := HT1.size
        obtain ⟨g7, hg⟩ : ∃ g, W1.heap.size = g := ⟨_, rfl⟩
        rw [hg] at B7 l7 ⊢
        clear hg HT1
        generalize W1.alloc (.cells #[.slice none 0 0, .int .i64 0, .int .i64 0, .int .i64 0, .int .i64 0, .int .i64 0, .slice none 0 0] 37 (0, 0)) = W2 at *
        try simp only [Act.put, List.setIfInBounds_toArray, List.set_cons_zero, List.set_cons_succ]
        refine wpAnyH_ready (rs := [5, 12]) (by kernel_rfl) (by simp) ?_
        refine AllReadyH.cons rfl (fun K hK => ?_) ?_
        · refine step_app7 (by rfl) _ _ _ (by rfl) 37 _ 7 88 Try.underlying25 infoCo rfl (by omega) g2 (by rfl) B2 C0 c0 (csCells s0.C qs) s0.C.length hql (by rfl) (HSR.out.step (HT2.to_below (Nat.le_refl _) (fun _ h => h))) (by omega) (by omega) ?_
          intro v7 W3 ho7 hg7 HK7
          obtain ⟨A7, c7, rfl⟩ := own_val ho7
          have HT3 := HT2.grown hg7 (fun g hg => by injection hg with hg; omega)
          replace L2 : g2 ≤ W3.heap.size := Nat.le_trans L2 hg7.size
          replace B7 := HK7.out _ _ _ (by simp) B7
          refine hK.out _ _ HT3 (fun _ => ?_)
          clear hK K B2 HK7 hg7 HT2
          try simp only [Act.put, List.setIfInBounds_toArray, List.set_cons_zero, List.set_cons_succ]
          refine wpAnyH_ready (rs := [8, 12]) (by kernel_rfl) (by simp) ?_
          refine AllReadyH.cons rfl (fun K hK => ?_) ?_
          · refine step_app8 (by rfl) _ _ _ (by rfl) g2 _ 88 Try.underlying25 infoCo rfl (.slice A7 s0.C.length c7) s0.C.length (csCells s0.C qs).flatten (by rfl) ho7 ⟨g7, 0, none⟩ 1 1 [.slice none 0 0, .int .i64 0, .int .i64 0, .int .i64 0, .int .i64 0, .int .i64 0, .slice none 0 0] (by rfl) (by rfl) (World.news_of_block (cs := #[.slice none 0 0, .int .i64 0, .int .i64 0, .int .i64 0, .int .i64 0, .int .i64 0, .slice none 0 0]) (t := 37) (fr := (0, 0)) B7) zco_one (by omega) (by omega) L2 ?_
            intro v8 W4 ho8 hg8 HK8
            obtain ⟨A8, c8, rfl⟩ := own_val ho8
            have HT4 := HT3.grown hg8 (fun g hg => by have h8 := (ho7.lt g hg).1; omega)
            refine hK.out _ _ HT4 (fun _ => ?_)
            clear hK K B7 HK8 hg8 ho8 ho7 L2 HT3
            try simp only [Act.put, List.setIfInBounds_toArray, List.set_cons_zero, List.set_cons_succ]
            refine wpAnyH_take (i := 11) (v := ?v11) rfl (by kernel_rfl) (by kernel_rfl) (by kernel_rfl) (fun _ _ _ h => h) (Or.inl ⟨by rfl, ?h11⟩) HT4 ?_
            case h11 => (intro w hSw; obtain ⟨x0, x1, x2, x3, x4⟩ := KS.out w hSw; clear hSw; go_simp; try with_reducible rfl)
            try simp only [Act.put, List.setIfInBounds_toArray, List.set_cons_zero, List.set_cons_succ]
            refine wpAnyH_ready (rs := [12]) (by kernel_rfl) (by simp) ?_
            refine AllReadyH.cons rfl (fun K hK => ?_) ?_
            · go_simp
              refine hK.out _ _ (HT4.alloc _) (fun _ => ?_)
              clear hK K
              have B12 := heap_alloc_new W4 (.cells #[.slice none 0 0, .slice none 0 0, .bool false, .slice none 0 0, .slice none 0 0] 28 (0, 0))
              have HT5 := HT4.alloc (.cells #[.slice none 0 0, .slice none 0 0, .bool false, .slice none 0 0, .slice none 0 0] 28 (0, 0))
              have l12 := HT4.size
              obtain ⟨g12, hg⟩ : ∃ g, W4.heap.size = g := ⟨_, rfl⟩
              rw [hg] at B12 l12 ⊢
              clear hg HT4
              generalize W4.alloc (.cells #[.slice none 0 0, .slice none 0 0, .bool false, .slice none 0 0, .slice none 0 0] 28 (0, 0)) = W5 at *
              try simp only [Act.put, List.setIfInBounds_toArray, List.set_cons_zero, List.set_cons_succ]
              refine wpAnyH_ready (rs := [13]) (by kernel_rfl) (by simp) ?_
              refine AllReadyH.cons rfl (fun K hK => ?_) ?_
              · have q0 : W5.cell? ⟨g12, 0, none⟩ = some (.slice none 0 0) := cell_of_row W5 _ 0 _ _ _ B12
                have q1 : W5.cell? ⟨g12, 1, none⟩ = some (.slice none 0 0) := cell_of_row W5 _ 1 _ _ _ B12
                have q2 : W5.cell? ⟨g12, 2, none⟩ = some (.bool false) := cell_of_row W5 _ 2 _ _ _ B12
                have q3 : W5.cell? ⟨g12, 3, none⟩ = some (.slice none 0 0) := cell_of_row W5 _ 3 _ _ _ B12
                have q4 : W5.cell? ⟨g12, 4, none⟩ = some (.slice none 0 0) := cell_of_row W5 _ 4 _ _ _ B12
                have qf0 : W5.frozen? ⟨g12, 0, none⟩ = false := frozen_of_row W5 _ 0 _ _ B12
                have qf1 : W5.frozen? ⟨g12, 1, none⟩ = false := frozen_of_row W5 _ 1 _ _ B12
                have qf2 : W5.frozen? ⟨g12, 2, none⟩ = false := frozen_of_row W5 _ 2 _ _ B12
                have qf3 : W5.frozen? ⟨g12, 3, none⟩ = false := frozen_of_row W5 _ 3 _ _ B12
                have qf4 : W5.frozen? ⟨g12, 4, none⟩ = false := frozen_of_row W5 _ 4 _ _ B12
                go_simp
                have HT6 := ((((HT5.set (g := g12) l12 0 (.slice A0 s0.M.W.length a0)).set (g := g12) l12 1 (.slice B0 s0.M.G.length b0)).set (g := g12) l12 2 (.bool s0.M.bad)).set (g := g12) l12 3 (.slice A8 (s0.C.length + 1) c8)).set (g := g12) l12 4 (.slice L0 s0.L.length d0)
                refine hK.out _ _ HT6 (fun _ => ?_)
                clear hK K
                try simp only [Act.put, List.setIfInBounds_toArray, List.set_cons_zero, List.set_cons_succ]
                refine wpAnyH_done (by kernel_rfl) ?_ _
                go_wp2_with fail
                go_meet
                exact ⟨g12, A8, c8, rfl, blk5 B12 _ _ _ _ _, (HT6).to_below (Nat.le_refl _) (fun g hg => hg)⟩
              exact AllReadyH.nil
            exact AllReadyH.nil
          refine AllReadyH.cons rfl (fun K hK => ?_) ?_
          · go_simp
            refine hK.out _ _ (HT3.alloc _) (fun _ => ?_)
            clear hK K
            replace B7 := alloc_keep (o' := (.cells #[.slice none 0 0, .slice none 0 0, .bool false, .slice none 0 0, .slice none 0 0] 28 (0, 0))) B7
            replace ho7 := own_step ho7 (boxed _ (.cells #[.slice none 0 0, .slice none 0 0, .bool false, .slice none 0 0, .slice none 0 0] 28 (0, 0)))
            replace L2 : g2 ≤ (W3.alloc (.cells #[.slice none 0 0, .slice none 0 0, .bool false, .slice none 0 0, .slice none 0 0] 28 (0, 0))).heap.size := Nat.le_trans L2 (by simp)
            have B12 := heap_alloc_new W3 (.cells #[.slice none 0 0, .slice none 0 0, .bool false, .slice none 0 0, .slice none 0 0] 28 (0, 0))
            have HT4 := HT3.alloc (.cells #[.slice none 0 0, .slice none 0 0, .bool false, .slice none 0 0, .slice none 0 0] 28 (0, 0))
            have l12 := HT3.size
            obtain ⟨g12, hg⟩ : ∃ g, W3.heap.size = g := ⟨_, rfl⟩
            rw [hg] at B12 l12 ⊢
            clear hg HT3
            generalize W3.alloc (.cells #[.slice none 0 0, .slice none 0 0, .bool false, .slice none 0 0, .slice none 0 0] 28 (0, 0)) = W4 at *
            try simp only [Act.put, List.setIfInBounds_toArray, List.set_cons_zero, List.set_cons_succ]
            refine wpAnyH_ready (rs := [8]) (by kernel_rfl) (by simp) ?_
            refine AllReadyH.cons rfl (fun K hK => ?_) ?_
            · refine step_app8 (by rfl) _ _ _ (by rfl) g2 _ 88 Try.underlying25 infoCo rfl (.slice A7 s0.C.length c7) s0.C.length (csCells s0.C qs).flatten (by rfl) ho7 ⟨g7, 0, none⟩ 1 1 [.slice none 0 0, .int .i64 0, .int .i64 0, .int .i64 0, .int .i64 0, .int .i64 0, .slice none 0 0] (by rfl) (by rfl) (World.news_of_block (cs := #[.slice none 0 0, .int .i64 0, .int .i64 0, .int .i64 0, .int .i64 0, .int .i64 0, .slice none 0 0]) (t := 37) (fr := (0, 0)) B7) zco_one (by omega) (by omega) L2 ?_
              intro v8 W5 ho8 hg8 HK8
              obtain ⟨A8, c8, rfl⟩ := own_val ho8
              have HT5 := HT4.grown hg8 (fun g hg => by have h8 := (ho7.lt g hg).1; omega)
              replace B12 := HK8.out _ _ (by rfl) B12
              refine hK.out _ _ HT5 (fun _ => ?_)
              clear hK K B7 HK8 hg8 ho8 ho7 L2 HT4
              try simp only [Act.put, List.setIfInBounds_toArray, List.set_cons_zero, List.set_cons_succ]
              refine wpAnyH_take (i := 11) (v := ?v12) rfl (by kernel_rfl) (by kernel_rfl) (by kernel_rfl) (fun _ _ _ h => h) (Or.inl ⟨by rfl, ?h12⟩) HT5 ?_
              case h12 => (intro w hSw; obtain ⟨x0, x1, x2, x3, x4⟩ := KS.out w hSw; clear hSw; go_simp; try with_reducible rfl)
              try simp only [Act.put, List.setIfInBounds_toArray, List.set_cons_zero, List.set_cons_succ]
              refine wpAnyH_ready (rs := [13]) (by kernel_rfl) (by simp) ?_
              refine AllReadyH.cons rfl (fun K hK => ?_) ?_
              · have q0 : W5.cell? ⟨g12, 0, none⟩ = some (.slice none 0 0) := cell_of_row W5 _ 0 _ _ _ B12
                have q1 : W5.cell? ⟨g12, 1, none⟩ = some (.slice none 0 0) := cell_of_row W5 _ 1 _ _ _ B12
                have q2 : W5.cell? ⟨g12, 2, none⟩ = some (.bool false) := cell_of_row W5 _ 2 _ _ _ B12
                have q3 : W5.cell? ⟨g12, 3, none⟩ = some (.slice none 0 0) := cell_of_row W5 _ 3 _ _ _ B12
                have q4 : W5.cell? ⟨g12, 4, none⟩ = some (.slice none 0 0) := cell_of_row W5 _ 4 _ _ _ B12
                have qf0 : W5.frozen? ⟨g12, 0, none⟩ = false := frozen_of_row W5 _ 0 _ _ B12
                have qf1 : W5.frozen? ⟨g12, 1, none⟩ = false := frozen_of_row W5 _ 1 _ _ B12
                have qf2 : W5.frozen? ⟨g12, 2, none⟩ = false := frozen_of_row W5 _ 2 _ _ B12
                have qf3 : W5.frozen? ⟨g12, 3, none⟩ = false := frozen_of_row W5 _ 3 _ _ B12
                have qf4 : W5.frozen? ⟨g12, 4, none⟩ = false := frozen_of_row W5 _ 4 _ _ B12
                go_simp
                have HT6 := ((((HT5.set (g := g12) l12 0 (.slice A0 s0.M.W.length a0)).set (g := g12) l12 1 (.slice B0 s0.M.G.length b0)).set (g := g12) l12 2 (.bool s0.M.bad)).set (g := g12) l12 3 (.slice A8 (s0.C.length + 1) c8)).set (g := g12) l12 4 (.slice L0 s0.L.length d0)
                refine hK.out _ _ HT6 (fun _ => ?_)
                clear hK K
                try simp only [Act.put, List.setIfInBounds_toArray, List.set_cons_zero, List.set_cons_succ]
                refine wpAnyH_done (by kernel_rfl) ?_ _
                go_wp2_with fail
                go_meet
                exact ⟨g12, A8, c8, rfl, blk5 B12 _ _ _ _ _, (HT6).to_below (Nat.le_refl _) (fun g hg => hg)⟩
              exact AllReadyH.nil
            exact AllReadyH.nil
          exact AllReadyH.nil
        refine AllReadyH.cons rfl (fun K hK => ?_) ?_
        · go_simp
          refine hK.out _ _ (HT2.alloc _) (fun _ => ?_)
          clear hK K
          replace B2 := alloc_keep (o' := (.cells #[.slice none 0 0, .slice none 0 0, .bool false, .slice none 0 0, .slice none 0 0] 28 (0, 0))) B2
          replace B7 := alloc_keep (o' := (.cells #[.slice none 0 0, .slice none 0 0, .bool false, .slice none 0 0, .slice none 0 0] 28 (0, 0))) B7
          replace L2 : g2 ≤ (W2.alloc (.cells #[.slice none 0 0, .slice none 0 0, .bool false, .slice none 0 0, .slice none 0 0] 28 (0, 0))).heap.size := Nat.le_trans L2 (by simp)
          have B12 := heap_alloc_new W2 (.cells #[.slice none 0 0, .slice none 0 0, .bool false, .slice none 0 0, .slice none 0 0] 28 (0, 0))
          have HT3 := HT2.alloc (.cells #[.slice none 0 0, .slice none 0 0, .bool false, .slice none 0 0, .slice none 0 0] 28 (0, 0))
          have l12 := HT2.size
          obtain ⟨g12, hg⟩ : ∃ g, W2.heap.size = g := ⟨_, rfl⟩
          rw [hg] at B12 l12 ⊢
          clear hg HT2
          generalize W2.alloc (.cells #[.slice none 0 0, .slice none 0 0, .bool false, .slice none 0 0, .slice none 0 0] 28 (0, 0)) = W3 at *
          try simp only [Act.put, List.setIfInBounds_toArray, List.set_cons_zero, List.set_cons_succ]
          refine wpAnyH_ready (rs := [5]) (by kernel_rfl) (by simp) ?_
          refine AllReadyH.cons rfl (fun K hK => ?_) ?_
          · refine step_app7 (by rfl) _ _ _ (by rfl) 37 _ 7 88 Try.underlying25 infoCo rfl (by omega) g2 (by rfl) B2 C0 c0 (csCells s0.C qs) s0.C.length hql (by rfl) (HSR.out.step (HT3.to_below (Nat.le_refl _) (fun _ h => h))) (by omega) (by omega) ?_
            intro v7 W4 ho7 hg7 HK7
            obtain ⟨A7, c7, rfl⟩ := own_val ho7
            have HT4 := HT3.grown hg7 (fun g hg => by injection hg with hg; omega)
            replace L2 : g2 ≤ W4.heap.size := Nat.le_trans L2 hg7.size
            replace B7 := HK7.out _ _ _ (by simp) B7
            replace B12 := HK7.out _ _ _ (by simp) B12
            refine hK.out _ _ HT4 (fun _ => ?_)
            clear hK K B2 HK7 hg7 HT3
            try simp only [Act.put, List.setIfInBounds_toArray, List.set_cons_zero, List.set_cons_succ]
            refine wpAnyH_ready (rs := [8]) (by kernel_rfl) (by simp) ?_
            refine AllReadyH.cons rfl (fun K hK => ?_) ?_
            · refine step_app8 (by rfl) _ _ _ (by rfl) g2 _ 88 Try.underlying25 infoCo rfl (.slice A7 s0.C.length c7) s0.C.length (csCells s0.C qs).flatten (by rfl) ho7 ⟨g7, 0, none⟩ 1 1 [.slice none 0 0, .int .i64 0, .int .i64 0, .int .i64 0, .int .i64 0, .int .i64 0, .slice none 0 0] (by rfl) (by rfl) (World.news_of_block (cs := #[.slice none 0 0, .int .i64 0, .int .i64 0, .int .i64 0, .int .i64 0, .int .i64 0, .slice none 0 0]) (t := 37) (fr := (0, 0)) B7) zco_one (by omega) (by omega) L2 ?_
              intro v8 W5 ho8 hg8 HK8
              obtain ⟨A8, c8, rfl⟩ := own_val ho8
              have HT5 := HT4.grown hg8 (fun g hg => by have h8 := (ho7.lt g hg).1; omega)
              replace B12 := HK8.out _ _ (by rfl) B12
              refine hK.out _ _ HT5 (fun _ => ?_)
              clear hK K B7 HK8 hg8 ho8 ho7 L2 HT4
              try simp only [Act.put, List.setIfInBounds_toArray, List.set_cons_zero, List.set_cons_succ]
              refine wpAnyH_take (i := 11) (v := ?v13) rfl (by kernel_rfl) (by kernel_rfl) (by kernel_rfl) (fun _ _ _ h => h) (Or.inl ⟨by rfl, ?h13⟩) HT5 ?_
              case h13 => (intro w hSw; obtain ⟨x0, x1, x2, x3, x4⟩ := KS.out w hSw; clear hSw; go_simp; try with_reducible rfl)
              try simp only [Act.put, List.setIfInBounds_toArray, List.set_cons_zero, List.set_cons_succ]
              refine wpAnyH_ready (rs := [13]) (by kernel_rfl) (by simp) ?_
              refine AllReadyH.cons rfl (fun K hK => ?_) ?_
              · have q0 : W5.cell? ⟨g12, 0, none⟩ = some (.slice none 0 0) := cell_of_row W5 _ 0 _ _ _ B12
                have q1 : W5.cell? ⟨g12, 1, none⟩ = some (.slice none 0 0) := cell_of_row W5 _ 1 _ _ _ B12
                have q2 : W5.cell? ⟨g12, 2, none⟩ = some (.bool false) := cell_of_row W5 _ 2 _ _ _ B12
                have q3 : W5.cell? ⟨g12, 3, none⟩ = some (.slice none 0 0) := cell_of_row W5 _ 3 _ _ _ B12
                have q4 : W5.cell? ⟨g12, 4, none⟩ = some (.slice none 0 0) := cell_of_row W5 _ 4 _ _ _ B12
                have qf0 : W5.frozen? ⟨g12, 0, none⟩ = false := frozen_of_row W5 _ 0 _ _ B12
                have qf1 : W5.frozen? ⟨g12, 1, none⟩ = false := frozen_of_row W5 _ 1 _ _ B12
                have qf2 : W5.frozen? ⟨g12, 2, none⟩ = false := frozen_of_row W5 _ 2 _ _ B12
                have qf3 : W5.frozen? ⟨g12, 3, none⟩ = false := frozen_of_row W5 _ 3 _ _ B12
                have qf4 : W5.frozen? ⟨g12, 4, none⟩ = false := frozen_of_row W5 _ 4 _ _ B12
                go_simp
                have HT6 := ((((HT5.set (g := g12) l12 0 (.slice A0 s0.M.W.length a0)).set (g := g12) l12 1 (.slice B0 s0.M.G.length b0)).set (g := g12) l12 2 (.bool s0.M.bad)).set (g := g12) l12 3 (.slice A8 (s0.C.length + 1) c8)).set (g := g12) l12 4 (.slice L0 s0.L.length d0)
                refine hK.out _ _ HT6 (fun _ => ?_)
                clear hK K
                try simp only [Act.put, List.setIfInBounds_toArray, List.set_cons_zero, List.set_cons_succ]
                refine wpAnyH_done (by kernel_rfl) ?_ _
                go_wp2_with fail
                go_meet
                exact ⟨g12, A8, c8, rfl, blk5 B12 _ _ _ _ _, (HT6).to_below (Nat.le_refl _) (fun g hg => hg)⟩
              exact AllReadyH.nil
            exact AllReadyH.nil
          exact AllReadyH.nil
        exact AllReadyH.nil
      refine AllReadyH.cons rfl (fun K hK => ?_) ?_
      · go_simp
        refine hK.out _ _ (HT1.alloc _) (fun _ => ?_)
        clear hK K
        replace B2 := alloc_keep (o' := (.cells #[.slice none 0 0, .slice none 0 0, .bool false, .slice none 0 0, .slice none 0 0] 28 (0, 0))) B2
        replace L2 : g2 ≤ (W1.alloc (.cells #[.slice none 0 0, .slice none 0 0, .bool false, .slice none 0 0, .slice none 0 0] 28 (0, 0))).heap.size := Nat.le_trans L2 (by simp)
        have B12 := heap_alloc_new W1 (.cells #[.slice none 0 0, .slice none 0 0, .bool false, .slice none 0 0, .slice none 0 0] 28 (0, 0))
        have HT2 := HT1.alloc (.cells #[.slice none 0 0, .slice none 0 0, .bool false, .slice none 0 0, .slice none 0 0] 28 (0, 0))
        have l12 := HT1.size
        obtain ⟨g12, hg⟩ : ∃ g, W1.heap.size = g := ⟨_, rfl⟩
        rw [hg] at B12 l12 ⊢
        clear hg HT1
        generalize W1.alloc (.cells #[.slice none 0 0, .slice none 0 0, .bool false, .slice none 0 0, .slice none 0 0] 28 (0, 0)) = W2 at *
        try simp only [Act.put, List.setIfInBounds_toArray, List.set_cons_zero, List.set_cons_succ]
        refine wpAnyH_ready (rs := [5, 7]) (by kernel_rfl) (by simp) ?_
        refine AllReadyH.cons rfl (fun K hK => ?_) ?_
        · refine step_app7 (by rfl) _ _ _ (by rfl) 37 _ 7 88 Try.underlying25 infoCo rfl (by omega) g2 (by rfl) B2 C0 c0 (csCells s0.C qs) s0.C.length hql (by rfl) (HSR.out.step (HT2.to_below (Nat.le_refl _) (fun _ h => h))) (by omega) (by omega) ?_
          intro v7 W3 ho7 hg7 HK7
          obtain ⟨A7, c7, rfl⟩ := own_val ho7
          have HT3 := HT2.grown hg7 (fun g hg => by injection hg with hg; omega)
          replace L2 : g2 ≤ W3.heap.size := Nat.le_trans L2 hg7.size
          replace B12 := HK7.out _ _ _ (by simp) B12
          refine hK.out _ _ HT3 (fun _ => ?_)
          clear hK K B2 HK7 hg7 HT2
          try simp only [Act.put, List.setIfInBounds_toArray, List.set_cons_zero, List.set_cons_succ]
          refine wpAnyH_ready (rs := [7]) (by kernel_rfl) (by simp) ?_
          refine AllReadyH.cons rfl (fun K hK => ?_) ?_
          · go_simp
            refine hK.out _ _ (HT3.alloc _) (fun _ => ?_)
            clear hK K
            replace B12 := alloc_keep (o' := (.cells #[.slice none 0 0, .int .i64 0, .int .i64 0, .int .i64 0, .int .i64 0, .int .i64 0, .slice none 0 0] 37 (0, 0))) B12
            replace ho7 := own_step ho7 (boxed _ (.cells #[.slice none 0 0, .int .i64 0, .int .i64 0, .int .i64 0, .int .i64 0, .int .i64 0, .slice none 0 0] 37 (0, 0)))
            replace L2 : g2 ≤ (W3.alloc (.cells #[.slice none 0 0, .int .i64 0, .int .i64 0, .int .i64 0, .int .i64 0, .int .i64 0, .slice none 0 0] 37 (0, 0))).heap.size := Nat.le_trans L2 (by simp)
            have B7 := heap_alloc_new W3 (.cells #[.slice none 0 0, .int .i64 0, .int .i64 0, .int .i64 0, .int .i64 0, .int .i64 0, .slice none 0 0] 37 (0, 0))
            have HT4 := HT3.alloc (.cells #[.slice none 0 0, .int .i64 0, .int .i64 0, .int .i64 0, .int .i64 0, .int .i64 0, .slice none 0 0] 37 (0, 0))
            have l7 := HT3.size
            obtain ⟨g7, hg⟩ : ∃ g, W3.heap.size = g := ⟨_, rfl⟩
            rw [hg] at B7 l7 ⊢
            clear hg HT3
            generalize W3.alloc (.cells #[.slice none 0 0, .int .i64 0, .int .i64 0, .int .i64 0, .int .i64 0, .int .i64 0, .slice none 0 0] 37 (0, 0)) = W4 at *
            try simp only [Act.put, List.setIfInBounds_toArray, List.set_cons_zero, List.set_cons_succ]
            refine wpAnyH_ready (rs := [8]) (by kernel_rfl) (by simp) ?_
            refine AllReadyH.cons rfl (fun K hK => ?_) ?_
            · refine step_app8 (by rfl) _ _ _ (by rfl) g2 _ 88 Try.underlying25 infoCo rfl (.slice A7 s0.C.length c7) s0.C.length (csCells s0.C qs).flatten (by rfl) ho7 ⟨g7, 0, none⟩ 1 1 [.slice none 0 0, .int .i64 0, .int .i64 0, .int .i64 0, .int .i64 0, .int .i64 0, .slice none 0 0] (by rfl) (by rfl) (World.news_of_block (cs := #[.slice none 0 0, .int .i64 0, .int .i64 0, .int .i64 0, .int .i64 0, .int .i64 0, .slice none 0 0]) (t := 37) (fr := (0, 0)) B7) zco_one (by omega) (by omega) L2 ?_
              intro v8 W5 ho8 hg8 HK8
              obtain ⟨A8, c8, rfl⟩ := own_val ho8
              have HT5 := HT4.grown hg8 (fun g hg => by have h8 := (ho7.lt g hg).1; omega)
              replace B12 := HK8.out _ _ (by rfl) B12
              refine hK.out _ _ HT5 (fun _ => ?_)
              clear hK K B7 HK8 hg8 ho8 ho7 L2 HT4
              try simp only [Act.put, List.setIfInBounds_toArray, List.set_cons_zero, List.set_cons_succ]
              refine wpAnyH_take (i := 11) (v := ?v14) rfl (by kernel_rfl) (by kernel_rfl) (by kernel_rfl) (fun _ _ _ h => h) (Or.inl ⟨by rfl, ?h14⟩) HT5 ?_
              case h14 => (intro w hSw; obtain ⟨x0, x1, x2, x3, x4⟩ := KS.out w hSw; clear hSw; go_simp; try with_reducible rfl)
              try simp only [Act.put, List.setIfInBounds_toArray, List.set_cons_zero, List.set_cons_succ]
              refine wpAnyH_ready (rs := [13]) (by kernel_rfl) (by simp) ?_
              refine AllReadyH.cons rfl (fun K hK => ?_) ?_
              · have q0 : W5.cell? ⟨g12, 0, none⟩ = some (.slice none 0 0) := cell_of_row W5 _ 0 _ _ _ B12
                have q1 : W5.cell? ⟨g12, 1, none⟩ = some (.slice none 0 0) := cell_of_row W5 _ 1 _ _ _ B12
                have q2 : W5.cell? ⟨g12, 2, none⟩ = some (.bool false) := cell_of_row W5 _ 2 _ _ _ B12
                have q3 : W5.cell? ⟨g12, 3, none⟩ = some (.slice none 0 0) := cell_of_row W5 _ 3 _ _ _ B12
                have q4 : W5.cell? ⟨g12, 4, none⟩ = some (.slice none 0 0) := cell_of_row W5 _ 4 _ _ _ B12
                have qf0 : W5.frozen? ⟨g12, 0, none⟩ = false := frozen_of_row W5 _ 0 _ _ B12
                have qf1 : W5.frozen? ⟨g12, 1, none⟩ = false := frozen_of_row W5 _ 1 _ _ B12
                have qf2 : W5.frozen? ⟨g12, 2, none⟩ = false := frozen_of_row W5 _ 2 _ _ B12
                have qf3 : W5.frozen? ⟨g12, 3, none⟩ = false := frozen_of_row W5 _ 3 _ _ B12
                have qf4 : W5.frozen? ⟨g12, 4, none⟩ = false := frozen_of_row W5 _ 4 _ _ B12
                go_simp
                have HT6 := ((((HT5.set (g := g12) l12 0 (.slice A0 s0.M.W.length a0)).set (g := g12) l12 1 (.slice B0 s0.M.G.length b0)).set (g := g12) l12 2 (.bool s0.M.bad)).set (g := g12) l12 3 (.slice A8 (s0.C.length + 1) c8)).set (g := g12) l12 4 (.slice L0 s0.L.length d0)
                refine hK.out _ _ HT6 (fun _ => ?_)
                clear hK K
                try simp only [Act.put, List.setIfInBounds_toArray, List.set_cons_zero, List.set_cons_succ]
                refine wpAnyH_done (by kernel_rfl) ?_ _
                go_wp2_with fail
                go_meet
                exact ⟨g12, A8, c8, rfl, blk5 B12 _ _ _ _ _, (HT6).to_below (Nat.le_refl _) (fun g hg => hg)⟩
              exact AllReadyH.nil
            exact AllReadyH.nil
          exact AllReadyH.nil
        refine AllReadyH.cons rfl (fun K hK => ?_) ?_
        · go_simp
          refine hK.out _ _ (HT2.alloc _) (fun _ => ?_)
          clear hK K
          replace B2 := alloc_keep (o' := (.cells #[.slice none 0 0, .int .i64 0, .int .i64 0, .int .i64 0, .int .i64 0, .int .i64 0, .slice none 0 0] 37 (0, 0))) B2
          replace B12 := alloc_keep (o' := (.cells #[.slice none 0 0, .int .i64 0, .int .i64 0, .int .i64 0, .int .i64 0, .int .i64 0, .slice none 0 0] 37 (0, 0))) B12
          replace L2 : g2 ≤ (W2.alloc (.cells #[.slice none 0 0, .int .i64 0, .int .i64 0, .int .i64 0, .int .i64 0, .int .i64 0, .slice none 0 0] 37 (0, 0))).heap.size := Nat.le_trans L2 (by simp)
          have B7 := heap_alloc_new W2 (.cells #[.slice none 0 0, .int .i64 0, .int .i64 0, .int .i64 0, .int .i64 0, .int .i64 0, .slice none 0 0] 37 (0, 0))
          have HT3 := HT2.alloc (.cells #[.slice none 0 0, .int .i64 0, .int .i64 0, .int .i64 0, .int .i64 0, .int .i64 0, .slice none 0 0] 37 (0, 0))
          have l7 := HT2.size
          obtain ⟨g7, hg⟩ : ∃ g, W2.heap.size = g := ⟨_, rfl⟩
          rw [hg] at B7 l7 ⊢
          clear hg HT2
          generalize W2.alloc (.cells #[.slice none 0 0, .int .i64 0, .int .i64 0, .int .i64 0, .int .i64 0, .int .i64 0, .slice none 0 0] 37 (0, 0)) = W3 at *
          try simp only [Act.put, List.setIfInBounds_toArray, List.set_cons_zero, List.set_cons_succ]
          refine wpAnyH_ready (rs := [5]) (by kernel_rfl) (by simp) ?_
          refine AllReadyH.cons rfl (fun K hK => ?_) ?_
          · refine step_app7 (by rfl) _ _ _ (by rfl) 37 _ 7 88 Try.underlying25 infoCo rfl (by omega) g2 (by rfl) B2 C0 c0 (csCells s0.C qs) s0.C.length hql (by rfl) (HSR.out.step (HT3.to_below (Nat.le_refl _) (fun _ h => h))) (by omega) (by omega) ?_
            intro v7 W4 ho7 hg7 HK7
            obtain ⟨A7, c7, rfl⟩ := own_val ho7
            have HT4 := HT3.grown hg7 (fun g hg => by injection hg with hg; omega)
            replace L2 : g2 ≤ W4.heap.size := Nat.le_trans L2 hg7.size
            replace B7 := HK7.out _ _ _ (by simp) B7
            replace B12 := HK7.out _ _ _ (by simp) B12
            refine hK.out _ _ HT4 (fun _ => ?_)
            clear hK K B2 HK7 hg7 HT3
            try simp only [Act.put, List.setIfInBounds_toArray, List.set_cons_zero, List.set_cons_succ]
            refine wpAnyH_ready (rs := [8]) (by kernel_rfl) (by simp) ?_
            refine AllReadyH.cons rfl (fun K hK => ?_) ?_
            · refine step_app8 (by rfl) _ _ _ (by rfl) g2 _ 88 Try.underlying25 infoCo rfl (.slice A7 s0.C.length c7) s0.C.length (csCells s0.C qs).flatten (by rfl) ho7 ⟨g7, 0, none⟩ 1 1 [.slice none 0 0, .int .i64 0, .int .i64 0, .int .i64 0, .int .i64 0, .int .i64 0, .slice none 0 0] (by rfl) (by rfl) (World.news_of_block (cs := #[.slice none 0 0, .int .i64 0, .int .i64 0, .int .i64 0, .int .i64 0, .int .i64 0, .slice none 0 0]) (t := 37) (fr := (0, 0)) B7) zco_one (by omega) (by omega) L2 ?_
              intro v8 W5 ho8 hg8 HK8
              obtain ⟨A8, c8, rfl⟩ := own_val ho8
              have HT5 := HT4.grown hg8 (fun g hg => by have h8 := (ho7.lt g hg).1; omega)
              replace B12 := HK8.out _ _ (by rfl) B12
              refine hK.out _ _ HT5 (fun _ => ?_)
              clear hK K B7 HK8 hg8 ho8 ho7 L2 HT4
              try simp only [Act.put, List.setIfInBounds_toArray, List.set_cons_zero, List.set_cons_succ]
              refine wpAnyH_take (i := 11) (v := ?v15) rfl (by kernel_rfl) (by kernel_rfl) (by kernel_rfl) (fun _ _ _ h => h) (Or.inl ⟨by rfl, ?h15⟩) HT5 ?_
              case h15 => (intro w hSw; obtain ⟨x0, x1, x2, x3, x4⟩ := KS.out w hSw; clear hSw; go_simp; try with_reducible rfl)
              try simp only [Act.put, List.setIfInBounds_toArray, List.set_cons_zero, List.set_cons_succ]
              refine wpAnyH_ready (rs := [13]) (by kernel_rfl) (by simp) ?_
              refine AllReadyH.cons rfl (fun K hK => ?_) ?_
              · have q0 : W5.cell? ⟨g12, 0, none⟩ = some (.slice none 0 0) := cell_of_row W5 _ 0 _ _ _ B12
                have q1 : W5.cell? ⟨g12, 1, none⟩ = some (.slice none 0 0) := cell_of_row W5 _ 1 _ _ _ B12
                have q2 : W5.cell? ⟨g12, 2, none⟩ = some (.bool false) := cell_of_row W5 _ 2 _ _ _ B12
                have q3 : W5.cell? ⟨g12, 3, none⟩ = some (.slice none 0 0) := cell_of_row W5 _ 3 _ _ _ B12
                have q4 : W5.cell? ⟨g12, 4, none⟩ = some (.slice none 0 0) := cell_of_row W5 _ 4 _ _ _ B12
                have qf0 : W5.frozen? ⟨g12, 0, none⟩ = false := frozen_of_row W5 _ 0 _ _ B12
                have qf1 : W5.frozen? ⟨g12, 1, none⟩ = false := frozen_of_row W5 _ 1 _ _ B12
                have qf2 : W5.frozen? ⟨g12, 2, none⟩ = false := frozen_of_row W5 _ 2 _ _ B12
                have qf3 : W5.frozen? ⟨g12, 3, none⟩ = false := frozen_of_row W5 _ 3 _ _ B12
                have qf4 : W5.frozen? ⟨g12, 4, none⟩ = false := frozen_of_row W5 _ 4 _ _ B12
                go_simp
                have HT6 := ((((HT5.set (g := g12) l12 0 (.slice A0 s0.M.W.length a0)).set (g := g12) l12 1 (.slice B0 s0.M.G.length b0)).set (g := g12) l12 2 (.bool s0.M.bad)).set (g := g12) l12 3 (.slice A8 (s0.C.length + 1) c8)).set (g := g12) l12 4 (.slice L0 s0.L.length d0)
                refine hK.out _ _ HT6 (fun _ => ?_)
                clear hK K
                try simp only [Act.put, List.setIfInBounds_toArray, List.set_cons_zero, List.set_cons_succ]
                refine wpAnyH_done (by kernel_rfl) ?_ _
                go_wp2_with fail
                go_meet
                exact ⟨g12, A8, c8, rfl, blk5 B12 _ _ _ _ _, (HT6).to_below (Nat.le_refl _) (fun g hg => hg)⟩
              exact AllReadyH.nil
            exact AllReadyH.nil
          exact AllReadyH.nil
        exact AllReadyH.nil
      exact AllReadyH.nil
    refine AllReadyH.cons rfl (fun K hK => ?_) ?_
    · go_simp
      refine hK.out _ _ (HT0.alloc _) (fun _ => ?_)
      clear hK K
      have B7 := heap_alloc_new W0 (.cells #[.slice none 0 0, .int .i64 0, .int .i64 0, .int .i64 0, .int .i64 0, .int .i64 0, .slice none 0 0] 37 (0, 0))
      have HT1 := HT0.alloc (.cells #[.slice none 0 0, .int .i64 0, .int .i64 0, .int .i64 0, .int .i64 0, .int .i64 0, .slice none 0 0] 37 (0, 0))
      have l7 := HT0.size
      obtain ⟨g7, hg⟩ : ∃ g, W0.heap.size = g := ⟨_, rfl⟩
      rw [hg] at B7 l7 ⊢
      clear hg HT0
      generalize W0.alloc (.cells #[.slice none 0 0, .int .i64 0, .int .i64 0, .int .i64 0, .int .i64 0, .int .i64 0, .slice none 0 0] 37 (0, 0)) = W1 at *
      try simp only [Act.put, List.setIfInBounds_toArray, List.set_cons_zero, List.set_cons_succ]
      refine wpAnyH_ready (rs := [2, 12]) (by kernel_rfl) (by simp) ?_
      refine AllReadyH.cons rfl (fun K hK => ?_) ?_
      · go_simp
        refine hK.out _ _ (HT1.alloc _) (fun _ => ?_)
        clear hK K
        replace B7 := alloc_keep (o' := (.cells #[] 37 (0, 0))) B7
        have B2 := heap_alloc_new W1 (.cells #[] 37 (0, 0))
        have HT2 := HT1.alloc (.cells #[] 37 (0, 0))
        have l2 := HT1.size
        have L2 : W1.heap.size ≤ (W1.alloc (.cells #[] 37 (0, 0))).heap.size := by simp
        obtain ⟨g2, hg⟩ : ∃ g, W1.heap.size = g := ⟨_, rfl⟩
        rw [hg] at B2 l2 L2 ⊢
        clear hg HT1
        generalize W1.alloc (.cells #[] 37 (0, 0)) = W2 at *
        try simp only [Act.put, List.setIfInBounds_toArray, List.set_cons_zero, List.set_cons_succ]
        refine wpAnyH_ready (rs := [5, 12]) (by kernel_rfl) (by simp) ?_
        refine AllReadyH.cons rfl (fun K hK => ?_) ?_
        · refine step_app7 (by rfl) _ _ _ (by rfl) 37 _ 7 88 Try.underlying25 infoCo rfl (by omega) g2 (by rfl) B2 C0 c0 (csCells s0.C qs) s0.C.length hql (by rfl) (HSR.out.step (HT2.to_below (Nat.le_refl _) (fun _ h => h))) (by omega) (by omega) ?_
          intro v7 W3 ho7 hg7 HK7
          obtain ⟨A7, c7, rfl⟩ := own_val ho7
          have HT3 := HT2.grown hg7 (fun g hg => by injection hg with hg; omega)
          replace L2 : g2 ≤ W3.heap.size := Nat.le_trans L2 hg7.size
          replace B7 := HK7.out _ _ _ (by simp) B7
          refine hK.out _ _ HT3 (fun _ => ?_)
          clear hK K B2 HK7 hg7 HT2
          try simp only [Act.put, List.setIfInBounds_toArray, List.set_cons_zero, List.set_cons_succ]
          refine wpAnyH_ready (rs := [8, 12]) (by kernel_rfl) (by simp) ?_
          refine AllReadyH.cons rfl (fun K hK => ?_) ?_
          · refine step_app8 (by rfl) _ _ _ (by rfl) g2 _ 88 Try.underlying25 infoCo rfl (.slice A7 s0.C.length c7) s0.C.length (csCells s0.C qs).flatten (by rfl) ho7 ⟨g7, 0, none⟩ 1 1 [.slice none 0 0, .int .i64 0, .int .i64 0, .int .i64 0, .int .i64 0, .int .i64 0, .slice none 0 0] (by rfl) (by rfl) (World.news_of_block (cs := #[.slice none 0 0, .int .i64 0, .int .i64 0, .int .i64 0, .int .i64 0, .int .i64 0, .slice none 0 0]) (t := 37) (fr := (0, 0)) B7) zco_one (by omega) (by omega) L2 ?_
            intro v8 W4 ho8 hg8 HK8
            obtain ⟨A8, c8, rfl⟩ := own_val ho8
            have HT4 := HT3.grown hg8 (fun g hg => by have h8 := (ho7.lt g hg).1; omega)
            refine hK.out _ _ HT4 (fun _ => ?_)
            clear hK K B7 HK8 hg8 ho8 ho7 L2 HT3
            try simp only [Act.put, List.setIfInBounds_toArray, List.set_cons_zero, List.set_cons_succ]
            refine wpAnyH_take (i := 11) (v := ?v16) rfl (by kernel_rfl) (by kernel_rfl) (by kernel_rfl) (fun _ _ _ h => h) (Or.inl ⟨by rfl, ?h16⟩) HT4 ?_
            case h16 => (intro w hSw; obtain ⟨x0, x1, x2, x3, x4⟩ := KS.out w hSw; clear hSw; go_simp; try with_reducible rfl)
            try simp only [Act.put, List.setIfInBounds_toArray, List.set_cons_zero, List.set_cons_succ]
            refine wpAnyH_ready (rs := [12]) (by kernel_rfl) (by simp) ?_
            refine AllReadyH.cons rfl (fun K hK => ?_) ?_
            · go_simp
              refine hK.out _ _ (HT4.alloc _) (fun _ => ?_)
              clear hK K
              have B12 := heap_alloc_new W4 (.cells #[.slice none 0 0, .slice none 0 0, .bool false, .slice none 0 0, .slice none 0 0] 28 (0, 0))
              have HT5 := HT4.alloc (.cells #[.slice none 0 0, .slice none 0 0, .bool false, .slice none 0 0, .slice none 0 0] 28 (0, 0))
              have l12 := HT4.size
              obtain ⟨g12, hg⟩ : ∃ g, W4.heap.size = g := ⟨_, rfl⟩
              rw [hg] at B12 l12 ⊢
              clear hg HT4
              generalize W4.alloc (.cells #[.slice none 0 0, .slice none 0 0, .bool false, .slice none 0 0, .slice none 0 0] 28 (0, 0)) = W5 at *
              try simp only [Act.put, List.setIfInBounds_toArray, List.set_cons_zero, List.set_cons_succ]
              refine wpAnyH_ready (rs := [13]) (by kernel_rfl) (by simp) ?_
              refine AllReadyH.cons rfl (fun K hK => ?_) ?_
              · have q0 : W5.cell? ⟨g12, 0, none⟩ = some (.slice none 0 0) := cell_of_row W5 _ 0 _ _ _ B12
                have q1 : W5.cell? ⟨g12, 1, none⟩ = some (.slice none 0 0) := cell_of_row W5 _ 1 _ _ _ B12
                have q2 : W5.cell? ⟨g12, 2, none⟩ = some (.bool false) := cell_of_row W5 _ 2 _ _ _ B12
                have q3 : W5.cell? ⟨g12, 3, none⟩ = some (.slice none 0 0) := cell_of_row W5 _ 3 _ _ _ B12
                have q4 : W5.cell? ⟨g12, 4, none⟩ = some (.slice none 0 0) := cell_of_row W5 _ 4 _ _ _ B12
                have qf0 : W5.frozen? ⟨g12, 0, none⟩ = false := frozen_of_row W5 _ 0 _ _ B12
                have qf1 : W5.frozen? ⟨g12, 1, none⟩ = false := frozen_of_row W5 _ 1 _ _ B12
                have qf2 : W5.frozen? ⟨g12, 2, none⟩ = false := frozen_of_row W5 _ 2 _ _ B12
                have qf3 : W5.frozen? ⟨g12, 3, none⟩ = false := frozen_of_row W5 _ 3 _ _ B12
                have qf4 : W5.frozen? ⟨g12, 4, none⟩ = false := frozen_of_row W5 _ 4 _ _ B12
                go_simp
                have HT6 := ((((HT5.set (g := g12) l12 0 (.slice A0 s0.M.W.length a0)).set (g := g12) l12 1 (.slice B0 s0.M.G.length b0)).set (g := g12) l12 2 (.bool s0.M.bad)).set (g := g12) l12 3 (.slice A8 (s0.C.length + 1) c8)).set (g := g12) l12 4 (.slice L0 s0.L.length d0)
                refine hK.out _ _ HT6 (fun _ => ?_)
                clear hK K
                try simp only [Act.put, List.setIfInBounds_toArray, List.set_cons_zero, List.set_cons_succ]
                refine wpAnyH_done (by kernel_rfl) ?_ _
                go_wp2_with fail
                go_meet
                exact ⟨g12, A8, c8, rfl, blk5 B12 _ _ _ _ _, (HT6).to_below (Nat.le_refl _) (fun g hg => hg)⟩
              exact AllReadyH.nil
            exact AllReadyH.nil
          refine AllReadyH.cons rfl (fun K hK => ?_) ?_
          · go_simp
            refine hK.out _ _ (HT3.alloc _) (fun _ => ?_)
            clear hK K
            replace B7 := alloc_keep (o' := (.cells #[.slice none 0 0, .slice none 0 0, .bool false, .slice none 0 0, .slice none 0 0] 28 (0, 0))) B7
            replace ho7 := own_step ho7 (boxed _ (.cells #[.slice none 0 0, .slice none 0 0, .bool false, .slice none 0 0, .slice none 0 0] 28 (0, 0)))
            replace L2 : g2 ≤ (W3.alloc (.cells #[.slice none 0 0, .slice none 0 0, .bool false, .slice none 0 0, .slice none 0 0] 28 (0, 0))).heap.size := Nat.le_trans L2 (by simp)
            have B12 := heap_alloc_new W3 (.cells #[.slice none 0 0, .slice none 0 0, .bool false, .slice none 0 0, .slice none 0 0] 28 (0, 0))
            have HT4 := HT3.alloc (.cells #[.slice none 0 0, .slice none 0 0, .bool false, .slice none 0 0, .slice none 0 0] 28 (0, 0))
            have l12 := HT3.size
            obtain ⟨g12, hg⟩ : ∃ g, W3.heap.size = g := ⟨_, rfl⟩
            rw [hg] at B12 l12 ⊢
            clear hg HT3
            generalize W3.alloc (.cells #[.slice none 0 0, .slice none 0 0, .bool false, .slice none 0 0, .slice none 0 0] 28 (0, 0)) = W4 at *
            try simp only [Act.put, List.setIfInBounds_toArray, List.set_cons_zero, List.set_cons_succ]
            refine wpAnyH_ready (rs := [8]) (by kernel_rfl) (by simp) ?_
            refine AllReadyH.cons rfl (fun K hK => ?_) ?_
            · refine step_app8 (by rfl) _ _ _ (by rfl) g2 _ 88 Try.underlying25 infoCo rfl (.slice A7 s0.C.length c7) s0.C.length (csCells s0.C qs).flatten (by rfl) ho7 ⟨g7, 0, none⟩ 1 1 [.slice none 0 0, .int .i64 0, .int .i64 0, .int .i64 0, .int .i64 0, .int .i64 0, .slice none 0 0] (by rfl) (by rfl) (World.news_of_block (cs := #[.slice none 0 0, .int .i64 0, .int .i64 0, .int .i64 0, .int .i64 0, .int .i64 0, .slice none 0 0]) (t := 37) (fr := (0, 0)) B7) zco_one (by omega) (by omega) L2 ?_
              intro v8 W5 ho8 hg8 HK8
              obtain ⟨A8, c8, rfl⟩ := own_val ho8
              have HT5 := HT4.grown hg8 (fun g hg => by have h8 := (ho7.lt g hg).1; omega)
              replace B12 := HK8.out _ _ (by rfl) B12
              refine hK.out _ _ HT5 (fun _ => ?_)
              clear hK K B7 HK8 hg8 ho8 ho7 L2 HT4
              try simp only [Act.put, List.setIfInBounds_toArray, List.set_cons_zero, List.set_cons_succ]
              refine wpAnyH_take (i := 11) (v := ?v17) rfl (by kernel_rfl) (by kernel_rfl) (by kernel_rfl) (fun _ _ _ h => h) (Or.inl ⟨by rfl, ?h17⟩) HT5 ?_
              case h17 => (intro w hSw; obtain ⟨x0, x1, x2, x3, x4⟩ := KS.out w hSw; clear hSw; go_simp; try with_reducible rfl)
              try simp only [Act.put, List.setIfInBounds_toArray, List.set_cons_zero, List.set_cons_succ]
              refine wpAnyH_ready (rs := [13]) (by kernel_rfl) (by simp) ?_
              refine AllReadyH.cons rfl (fun K hK => ?_) ?_
              · have q0 : W5.cell? ⟨g12, 0, none⟩ = some (.slice none 0 0) := cell_of_row W5 _ 0 _ _ _ B12
                have q1 : W5.cell? ⟨g12, 1, none⟩ = some (.slice none 0 0) := cell_of_row W5 _ 1 _ _ _ B12
                have q2 : W5.cell? ⟨g12, 2, none⟩ = some (.bool false) := cell_of_row W5 _ 2 _ _ _ B12
                have q3 : W5.cell? ⟨g12, 3, none⟩ = some (.slice none 0 0) := cell_of_row W5 _ 3 _ _ _ B12
                have q4 : W5.cell? ⟨g12, 4, none⟩ = some (.slice none 0 0) := cell_of_row W5 _ 4 _ _ _ B12
                have qf0 : W5.frozen? ⟨g12, 0, none⟩ = false := frozen_of_row W5 _ 0 _ _ B12
                have qf1 : W5.frozen? ⟨g12, 1, none⟩ = false := frozen_of_row W5 _ 1 _ _ B12
                have qf2 : W5.frozen? ⟨g12, 2, none⟩ = false := frozen_of_row W5 _ 2 _ _ B12
                have qf3 : W5.frozen? ⟨g12, 3, none⟩ = false := frozen_of_row W5 _ 3 _ _ B12
                have qf4 : W5.frozen? ⟨g12, 4, none⟩ = false := frozen_of_row W5 _ 4 _ _ B12
                go_simp
                have HT6 := ((((HT5.set (g := g12) l12 0 (.slice A0 s0.M.W.length a0)).set (g := g12) l12 1 (.slice B0 s0.M.G.length b0)).set (g := g12) l12 2 (.bool s0.M.bad)).set (g := g12) l12 3 (.slice A8 (s0.C.length + 1) c8)).set (g := g12) l12 4 (.slice L0 s0.L.length d0)
                refine hK.out _ _ HT6 (fun _ => ?_)
                clear hK K
                try simp only [Act.put, List.setIfInBounds_toArray, List.set_cons_zero, List.set_cons_succ]
                refine wpAnyH_done (by kernel_rfl) ?_ _
                go_wp2_with fail
                go_meet
                exact ⟨g12, A8, c8, rfl, blk5 B12 _ _ _ _ _, (HT6).to_below (Nat.le_refl _) (fun g hg => hg)⟩
              exact AllReadyH.nil
            exact AllReadyH.nil
          exact AllReadyH.nil
        refine AllReadyH.cons rfl (fun K hK => ?_) ?_
        · go_simp
          refine hK.out _ _ (HT2.alloc _) (fun _ => ?_)
          clear hK K
          replace B2 := alloc_keep (o' := (.cells #[.slice none 0 0, .slice none 0 0, .bool false, .slice none 0 0, .slice none 0 0] 28 (0, 0))) B2
          replace B7 := alloc_keep (o' := (.cells #[.slice none 0 0, .slice none 0 0, .bool false, .slice none 0 0, .slice none 0 0] 28 (0, 0))) B7
          replace L2 : g2 ≤ (W2.alloc (.cells #[.slice none 0 0, .slice none 0 0, .bool false, .slice none 0 0, .slice none 0 0] 28 (0, 0))).heap.size := Nat.le_trans L2 (by simp)
          have B12 := heap_alloc_new W2 (.cells #[.slice none 0 0, .slice none 0 0, .bool false, .slice none 0 0, .slice none 0 0] 28 (0, 0))
          have HT3 := HT2.alloc (.cells #[.slice none 0 0, .slice none 0 0, .bool false, .slice none 0 0, .slice none 0 0] 28 (0, 0))
          have l12 := HT2.size
          obtain ⟨g12, hg⟩ : ∃ g, W2.heap.size = g := ⟨_, rfl⟩
          rw [hg] at B12 l12 ⊢
          clear hg HT2
          generalize W2.alloc (.cells #[.slice none 0 0, .slice none 0 0, .bool false, .slice none 0 0, .slice none 0 0] 28 (0, 0)) = W3 at *
          try simp only [Act.put, List.setIfInBounds_toArray, List.set_cons_zero, List.set_cons_succ]
          refine wpAnyH_ready (rs := [5]) (by kernel_rfl) (by simp) ?_
          refine AllReadyH.cons rfl (fun K hK => ?_) ?_
          · refine step_app7 (by rfl) _ _ _ (by rfl) 37 _ 7 88 Try.underlying25 infoCo rfl (by omega) g2 (by rfl) B2 C0 c0 (csCells s0.C qs) s0.C.length hql (by rfl) (HSR.out.step (HT3.to_below (Nat.le_refl _) (fun _ h => h))) (by omega) (by omega) ?_
            intro v7 W4 ho7 hg7 HK7
            obtain ⟨A7, c7, rfl⟩ := own_val ho7
            have HT4 := HT3.grown hg7 (fun g hg => by injection hg with hg; omega)
            replace L2 : g2 ≤ W4.heap.size := Nat.le_trans L2 hg7.size
            replace B7 := HK7.out _ _ _ (by simp) B7
            replace B12 := HK7.out _ _ _ (by simp) B12
            refine hK.out _ _ HT4 (fun _ => ?_)
            clear hK K B2 HK7 hg7 HT3
            try simp only [Act.put, List.setIfInBounds_toArray, List.set_cons_zero, List.set_cons_succ]
            refine wpAnyH_ready (rs := [8]) (by kernel_rfl) (by simp) ?_
            refine AllReadyH.cons rfl (fun K hK => ?_) ?_
            · refine step_app8 (by rfl) _ _ _ (by rfl) g2 _ 88 Try.underlying25 infoCo rfl (.slice A7 s0.C.length c7) s0.C.length (csCells s0.C qs).flatten (by rfl) ho7 ⟨g7, 0, none⟩ 1 1 [.slice none 0 0, .int .i64 0, .int .i64 0, .int .i64 0, .int .i64 0, .int .i64 0, .slice none 0 0] (by rfl) (by rfl) (World.news_of_block (cs := #[.slice none 0 0, .int .i64 0, .int .i64 0, .int .i64 0, .int .i64 0, .int .i64 0, .slice none 0 0]) (t := 37) (fr := (0, 0)) B7) zco_one (by omega) (by omega) L2 ?_
              intro v8 W5 ho8 hg8 HK8
              obtain ⟨A8, c8, rfl⟩ := own_val ho8
              have HT5 := HT4.grown hg8 (fun g hg => by have h8 := (ho7.lt g hg).1; omega)
              replace B12 := HK8.out _ _ (by rfl) B12
              refine hK.out _ _ HT5 (fun _ => ?_)
              clear hK K B7 HK8 hg8 ho8 ho7 L2 HT4
              try simp only [Act.put, List.setIfInBounds_toArray, List.set_cons_zero, List.set_cons_succ]
              refine wpAnyH_take (i := 11) (v := ?v18) rfl (by kernel_rfl) (by kernel_rfl) (by kernel_rfl) (fun _ _ _ h => h) (Or.inl ⟨by rfl, ?h18⟩) HT5 ?_
              case h18 => (intro w hSw; obtain ⟨x0, x1, x2, x3, x4⟩ := KS.out w hSw; clear hSw; go_simp; try with_reducible rfl)
              try simp only [Act.put, List.setIfInBounds_toArray, List.set_cons_zero, List.set_cons_succ]
              refine wpAnyH_ready (rs := [13]) (by kernel_rfl) (by simp) ?_
              refine AllReadyH.cons rfl (fun K hK => ?_) ?_
              · have q0 : W5.cell? ⟨g12, 0, none⟩ = some (.slice none 0 0) := cell_of_row W5 _ 0 _ _ _ B12
                have q1 : W5.cell? ⟨g12, 1, none⟩ = some (.slice none 0 0) := cell_of_row W5 _ 1 _ _ _ B12
                have q2 : W5.cell? ⟨g12, 2, none⟩ = some (.bool false) := cell_of_row W5 _ 2 _ _ _ B12
                have q3 : W5.cell? ⟨g12, 3, none⟩ = some (.slice none 0 0) := cell_of_row W5 _ 3 _ _ _ B12
                have q4 : W5.cell? ⟨g12, 4, none⟩ = some (.slice none 0 0) := cell_of_row W5 _ 4 _ _ _ B12
                have qf0 : W5.frozen? ⟨g12, 0, none⟩ = false := frozen_of_row W5 _ 0 _ _ B12
                have qf1 : W5.frozen? ⟨g12, 1, none⟩ = false := frozen_of_row W5 _ 1 _ _ B12
                have qf2 : W5.frozen? ⟨g12, 2, none⟩ = false := frozen_of_row W5 _ 2 _ _ B12
                have qf3 : W5.frozen? ⟨g12, 3, none⟩ = false := frozen_of_row W5 _ 3 _ _ B12
                have qf4 : W5.frozen? ⟨g12, 4, none⟩ = false := frozen_of_row W5 _ 4 _ _ B12
                go_simp
                have HT6 := ((((HT5.set (g := g12) l12 0 (.slice A0 s0.M.W.length a0)).set (g := g12) l12 1 (.slice B0 s0.M.G.length b0)).set (g := g12) l12 2 (.bool s0.M.bad)).set (g := g12) l12 3 (.slice A8 (s0.C.length + 1) c8)).set (g := g12) l12 4 (.slice L0 s0.L.length d0)
                refine hK.out _ _ HT6 (fun _ => ?_)
                clear hK K
                try simp only [Act.put, List.setIfInBounds_toArray, List.set_cons_zero, List.set_cons_succ]
                refine wpAnyH_done (by kernel_rfl) ?_ _
                go_wp2_with fail
                go_meet
                exact ⟨g12, A8, c8, rfl, blk5 B12 _ _ _ _ _, (HT6).to_below (Nat.le_refl _) (fun g hg => hg)⟩
              exact AllReadyH.nil
            exact AllReadyH.nil
          exact AllReadyH.nil
        exact AllReadyH.nil
      refine AllReadyH.cons rfl (fun K hK => ?_) ?_
      · go_simp
        refine hK.out _ _ (HT1.alloc _) (fun _ => ?_)
        clear hK K
        replace B7 := alloc_keep (o' := (.cells #[.slice none 0 0, .slice none 0 0, .bool false, .slice none 0 0, .slice none 0 0] 28 (0, 0))) B7
        have B12 := heap_alloc_new W1 (.cells #[.slice none 0 0, .slice none 0 0, .bool false, .slice none 0 0, .slice none 0 0] 28 (0, 0))
        have HT2 := HT1.alloc (.cells #[.slice none 0 0, .slice none 0 0, .bool false, .slice none 0 0, .slice none 0 0] 28 (0, 0))
        have l12 := HT1.size
        obtain ⟨g12, hg⟩ : ∃ g, W1.heap.size = g := ⟨_, rfl⟩
        rw [hg] at B12 l12 ⊢
        clear hg HT1
        generalize W1.alloc (.cells #[.slice none 0 0, .slice none 0 0, .bool false, .slice none 0 0, .slice none 0 0] 28 (0, 0)) = W2 at *
        try simp only [Act.put, List.setIfInBounds_toArray, List.set_cons_zero, List.set_cons_succ]
        refine wpAnyH_ready (rs := [2]) (by kernel_rfl) (by simp) ?_
        refine AllReadyH.cons rfl (fun K hK => ?_) ?_
        · go_simp
          refine hK.out _ _ (HT2.alloc _) (fun _ => ?_)
          clear hK K
          replace B7 := alloc_keep (o' := (.cells #[] 37 (0, 0))) B7
          replace B12 := alloc_keep (o' := (.cells #[] 37 (0, 0))) B12
          have B2 := heap_alloc_new W2 (.cells #[] 37 (0, 0))
          have HT3 := HT2.alloc (.cells #[] 37 (0, 0))
          have l2 := HT2.size
          have L2 : W2.heap.size ≤ (W2.alloc (.cells #[] 37 (0, 0))).heap.size := by simp
          obtain ⟨g2, hg⟩ : ∃ g, W2.heap.size = g := ⟨_, rfl⟩
          rw [hg] at B2 l2 L2 ⊢
          clear hg HT2
          generalize W2.alloc (.cells #[] 37 (0, 0)) = W3 at *
          try simp only [Act.put, List.setIfInBounds_toArray, List.set_cons_zero, List.set_cons_succ]
          refine wpAnyH_ready (rs := [5]) (by kernel_rfl) (by simp) ?_
          refine AllReadyH.cons rfl (fun K hK => ?_) ?_
          · refine step_app7 (by rfl) _ _ _ (by rfl) 37 _ 7 88 Try.underlying25 infoCo rfl (by omega) g2 (by rfl) B2 C0 c0 (csCells s0.C qs) s0.C.length hql (by rfl) (HSR.out.step (HT3.to_below (Nat.le_refl _) (fun _ h => h))) (by omega) (by omega) ?_
            intro v7 W4 ho7 hg7 HK7
            obtain ⟨A7, c7, rfl⟩ := own_val ho7
            have HT4 := HT3.grown hg7 (fun g hg => by injection hg with hg; omega)
            replace L2 : g2 ≤ W4.heap.size := Nat.le_trans L2 hg7.size
            replace B7 := HK7.out _ _ _ (by simp) B7
            replace B12 := HK7.out _ _ _ (by simp) B12
            refine hK.out _ _ HT4 (fun _ => ?_)
            clear hK K B2 HK7 hg7 HT3
            try simp only [Act.put, List.setIfInBounds_toArray, List.set_cons_zero, List.set_cons_succ]
            refine wpAnyH_ready (rs := [8]) (by kernel_rfl) (by simp) ?_
            refine AllReadyH.cons rfl (fun K hK => ?_) ?_
            · refine step_app8 (by rfl) _ _ _ (by rfl) g2 _ 88 Try.underlying25 infoCo rfl (.slice A7 s0.C.length c7) s0.C.length (csCells s0.C qs).flatten (by rfl) ho7 ⟨g7, 0, none⟩ 1 1 [.slice none 0 0, .int .i64 0, .int .i64 0, .int .i64 0, .int .i64 0, .int .i64 0, .slice none 0 0] (by rfl) (by rfl) (World.news_of_block (cs := #[.slice none 0 0, .int .i64 0, .int .i64 0, .int .i64 0, .int .i64 0, .int .i64 0, .slice none 0 0]) (t := 37) (fr := (0, 0)) B7) zco_one (by omega) (by omega) L2 ?_
              intro v8 W5 ho8 hg8 HK8
              obtain ⟨A8, c8, rfl⟩ := own_val ho8
              have HT5 := HT4.grown hg8 (fun g hg => by have h8 := (ho7.lt g hg).1; omega)
              replace B12 := HK8.out _ _ (by rfl) B12
              refine hK.out _ _ HT5 (fun _ => ?_)
              clear hK K B7 HK8 hg8 ho8 ho7 L2 HT4
              try simp only [Act.put, List.setIfInBounds_toArray, List.set_cons_zero, List.set_cons_succ]
              refine wpAnyH_take (i := 11) (v := ?v19) rfl (by kernel_rfl) (by kernel_rfl) (by kernel_rfl) (fun _ _ _ h => h) (Or.inl ⟨by rfl, ?h19⟩) HT5 ?_
              case h19 => (intro w hSw; obtain ⟨x0, x1, x2, x3, x4⟩ := KS.out w hSw; clear hSw; go_simp; try with_reducible rfl)
              try simp only [Act.put, List.setIfInBounds_toArray, List.set_cons_zero, List.set_cons_succ]
              refine wpAnyH_ready (rs := [13]) (by kernel_rfl) (by simp) ?_
              refine AllReadyH.cons rfl (fun K hK => ?_) ?_
              · have q0 : W5.cell? ⟨g12, 0, none⟩ = some (.slice none 0 0) := cell_of_row W5 _ 0 _ _ _ B12
                have q1 : W5.cell? ⟨g12, 1, none⟩ = some (.slice none 0 0) := cell_of_row W5 _ 1 _ _ _ B12
                have q2 : W5.cell? ⟨g12, 2, none⟩ = some (.bool false) := cell_of_row W5 _ 2 _ _ _ B12
                have q3 : W5.cell? ⟨g12, 3, none⟩ = some (.slice none 0 0) := cell_of_row W5 _ 3 _ _ _ B12
                have q4 : W5.cell? ⟨g12, 4, none⟩ = some (.slice none 0 0) := cell_of_row W5 _ 4 _ _ _ B12
                have qf0 : W5.frozen? ⟨g12, 0, none⟩ = false := frozen_of_row W5 _ 0 _ _ B12
                have qf1 : W5.frozen? ⟨g12, 1, none⟩ = false := frozen_of_row W5 _ 1 _ _ B12
                have qf2 : W5.frozen? ⟨g12, 2, none⟩ = false := frozen_of_row W5 _ 2 _ _ B12
                have qf3 : W5.frozen? ⟨g12, 3, none⟩ = false := frozen_of_row W5 _ 3 _ _ B12
                have qf4 : W5.frozen? ⟨g12, 4, none⟩ = false := frozen_of_row W5 _ 4 _ _ B12
                go_simp
                have HT6 := ((((HT5.set (g := g12) l12 0 (.slice A0 s0.M.W.length a0)).set (g := g12) l12 1 (.slice B0 s0.M.G.length b0)).set (g := g12) l12 2 (.bool s0.M.bad)).set (g := g12) l12 3 (.slice A8 (s0.C.length + 1) c8)).set (g := g12) l12 4 (.slice L0 s0.L.length d0)
                refine hK.out _ _ HT6 (fun _ => ?_)
                clear hK K
                try simp only [Act.put, List.setIfInBounds_toArray, List.set_cons_zero, List.set_cons_succ]
                refine wpAnyH_done (by kernel_rfl) ?_ _
                go_wp2_with fail
                go_meet
                exact ⟨g12, A8, c8, rfl, blk5 B12 _ _ _ _ _, (HT6).to_below (Nat.le_refl _) (fun g hg => hg)⟩
              exact AllReadyH.nil
            exact AllReadyH.nil
          exact AllReadyH.nil
        exact AllReadyH.nil
      exact AllReadyH.nil
    refine AllReadyH.cons rfl (fun K hK => ?_) ?_
    · go_simp
      refine hK.out _ _ (HT0.alloc _) (fun _ => ?_)
      clear hK K
      have B12 := heap_alloc_new W0 (.cells #[.slice none 0 0, .slice none 0 0, .bool false, .slice none 0 0, .slice none 0 0] 28 (0, 0))
      have HT1 := HT0.alloc (.cells #[.slice none 0 0, .slice none 0 0, .bool false, .slice none 0 0, .slice none 0 0] 28 (0, 0))
      have l12 := HT0.size
      obtain ⟨g12, hg⟩ : ∃ g, W0.heap.size = g := ⟨_, rfl⟩
      rw [hg] at B12 l12 ⊢
      clear hg HT0
      generalize W0.alloc (.cells #[.slice none 0 0, .slice none 0 0, .bool false, .slice none 0 0, .slice none 0 0] 28 (0, 0)) = W1 at *
      try simp only [Act.put, List.setIfInBounds_toArray, List.set_cons_zero, List.set_cons_succ]
      refine wpAnyH_ready (rs := [2, 7]) (by kernel_rfl) (by simp) ?_
      refine AllReadyH.cons rfl (fun K hK => ?_) ?_
      · go_simp
        refine hK.out _ _ (HT1.alloc _) (fun _ => ?_)
        clear hK K
        replace B12 := alloc_keep (o' := (.cells #[] 37 (0, 0))) B12
        have B2 := heap_alloc_new W1 (.cells #[] 37 (0, 0))
        have HT2 := HT1.alloc (.cells #[] 37 (0, 0))
        have l2 := HT1.size
        have L2 : W1.heap.size ≤ (W1.alloc (.cells #[] 37 (0, 0))).heap.size := by simp
        obtain ⟨g2, hg⟩ : ∃ g, W1.heap.size = g := ⟨_, rfl⟩
        rw [hg] at B2 l2 L2 ⊢
        clear hg HT1
        generalize W1.alloc (.cells #[] 37 (0, 0)) = W2 at *
        try simp only [Act.put, List.setIfInBounds_toArray, List.set_cons_zero, List.set_cons_succ]
        refine wpAnyH_ready (rs := [5, 7]) (by kernel_rfl) (by simp) ?_
        refine AllReadyH.cons rfl (fun K hK => ?_) ?_
        · refine step_app7 (by rfl) _ _ _ (by rfl) 37 _ 7 88 Try.underlying25 infoCo rfl (by omega) g2 (by rfl) B2 C0 c0 (csCells s0.C qs) s0.C.length hql (by rfl) (HSR.out.step (HT2.to_below (Nat.le_refl _) (fun _ h => h))) (by omega) (by omega) ?_
          intro v7 W3 ho7 hg7 HK7
          obtain ⟨A7, c7, rfl⟩ := own_val ho7
          have HT3 := HT2.grown hg7 (fun g hg => by injection hg with hg; omega)
          replace L2 : g2 ≤ W3.heap.size := Nat.le_trans L2 hg7.size
          replace B12 := HK7.out _ _ _ (by simp) B12
          refine hK.out _ _ HT3 (fun _ => ?_)
          clear hK K B2 HK7 hg7 HT2
          try simp only [Act.put, List.setIfInBounds_toArray, List.set_cons_zero, List.set_cons_succ]
          refine wpAnyH_ready (rs := [7]) (by kernel_rfl) (by simp) ?_
          refine AllReadyH.cons rfl (fun K hK => ?_) ?_
          · go_simp
            refine hK.out _ _ (HT3.alloc _) (fun _ => ?_)
            clear hK K
            replace B12 := alloc_keep (o' := (.cells #[.slice none 0 0, .int .i64 0, .int .i64 0, .int .i64 0, .int .i64 0, .int .i64 0, .slice none 0 0] 37 (0, 0))) B12
            replace ho7 := own_step ho7 (boxed _ (.cells #[.slice none 0 0, .int .i64 0, .int .i64 0, .int .i64 0, .int .i64 0, .int .i64 0, .slice none 0 0] 37 (0, 0)))
            replace L2 : g2 ≤ (W3.alloc (.cells #[.slice none 0 0, .int .i64 0, .int .i64 0, .int .i64 0, .int .i64 0, .int .i64 0, .slice none 0 0] 37 (0, 0))).heap.size := Nat.le_trans L2 (by simp)
            have B7 := heap_alloc_new W3 (.cells #[.slice none 0 0, .int .i64 0, .int .i64 0, .int .i64 0, .int .i64 0, .int .i64 0, .slice none 0 0] 37 (0, 0))
            have HT4 := HT3.alloc (.cells #[.slice none 0 0, .int .i64 0, .int .i64 0, .int .i64 0, .int .i64 0, .int .i64 0, .slice none 0 0] 37 (0, 0))
            have l7 := HT3.size
            obtain ⟨g7, hg⟩ : ∃ g, W3.heap.size = g := ⟨_, rfl⟩
            rw [hg] at B7 l7 ⊢
            clear hg HT3
            generalize W3.alloc (.cells #[.slice none 0 0, .int .i64 0, .int .i64 0, .int .i64 0, .int .i64 0, .int .i64 0, .slice none 0 0] 37 (0, 0)) = W4 at *
            try simp only [Act.put, List.setIfInBounds_toArray, List.set_cons_zero, List.set_cons_succ]
            refine wpAnyH_ready (rs := [8]) (by kernel_rfl) (by simp) ?_
            refine AllReadyH.cons rfl (fun K hK => ?_) ?_
            · refine step_app8 (by rfl) _ _ _ (by rfl) g2 _ 88 Try.underlying25 infoCo rfl (.slice A7 s0.C.length c7) s0.C.length (csCells s0.C qs).flatten (by rfl) ho7 ⟨g7, 0, none⟩ 1 1 [.slice none 0 0, .int .i64 0, .int .i64 0, .int .i64 0, .int .i64 0, .int .i64 0, .slice none 0 0] (by rfl) (by rfl) (World.news_of_block (cs := #[.slice none 0 0, .int .i64 0, .int .i64 0, .int .i64 0, .int .i64 0, .int .i64 0, .slice none 0 0]) (t := 37) (fr := (0, 0)) B7) zco_one (by omega) (by omega) L2 ?_
              intro v8 W5 ho8 hg8 HK8
              obtain ⟨A8, c8, rfl⟩ := own_val ho8
              have HT5 := HT4.grown hg8 (fun g hg => by have h8 := (ho7.lt g hg).1; omega)
              replace B12 := HK8.out _ _ (by rfl) B12
              refine hK.out _ _ HT5 (fun _ => ?_)
              clear hK K B7 HK8 hg8 ho8 ho7 L2 HT4
              try simp only [Act.put, List.setIfInBounds_toArray, List.set_cons_zero, List.set_cons_succ]
              refine wpAnyH_take (i := 11) (v := ?v20) rfl (by kernel_rfl) (by kernel_rfl) (by kernel_rfl) (fun _ _ _ h => h) (Or.inl ⟨by rfl, ?h20⟩) HT5 ?_
              case h20 => (intro w hSw; obtain ⟨x0, x1, x2, x3, x4⟩ := KS.out w hSw; clear hSw; go_simp; try with_reducible rfl)
              try simp only [Act.put, List.setIfInBounds_toArray, List.set_cons_zero, List.set_cons_succ]
              refine wpAnyH_ready (rs := [13]) (by kernel_rfl) (by simp) ?_
              refine AllReadyH.cons rfl (fun K hK => ?_) ?_
              · have q0 : W5.cell? ⟨g12, 0, none⟩ = some (.slice none 0 0) := cell_of_row W5 _ 0 _ _ _ B12
                have q1 : W5.cell? ⟨g12, 1, none⟩ = some (.slice none 0 0) := cell_of_row W5 _ 1 _ _ _ B12
                have q2 : W5.cell? ⟨g12, 2, none⟩ = some (.bool false) := cell_of_row W5 _ 2 _ _ _ B12
                have q3 : W5.cell? ⟨g12, 3, none⟩ = some (.slice none 0 0) := cell_of_row W5 _ 3 _ _ _ B12
                have q4 : W5.cell? ⟨g12, 4, none⟩ = some (.slice none 0 0) := cell_of_row W5 _ 4 _ _ _ B12
                have qf0 : W5.frozen? ⟨g12, 0, none⟩ = false := frozen_of_row W5 _ 0 _ _ B12
                have qf1 : W5.frozen? ⟨g12, 1, none⟩ = false := frozen_of_row W5 _ 1 _ _ B12
                have qf2 : W5.frozen? ⟨g12, 2, none⟩ = false := frozen_of_row W5 _ 2 _ _ B12
                have qf3 : W5.frozen? ⟨g12, 3, none⟩ = false := frozen_of_row W5 _ 3 _ _ B12
                have qf4 : W5.frozen? ⟨g12, 4, none⟩ = false := frozen_of_row W5 _ 4 _ _ B12
                go_simp
                have HT6 := ((((HT5.set (g := g12) l12 0 (.slice A0 s0.M.W.length a0)).set (g := g12) l12 1 (.slice B0 s0.M.G.length b0)).set (g := g12) l12 2 (.bool s0.M.bad)).set (g := g12) l12 3 (.slice A8 (s0.C.length + 1) c8)).set (g := g12) l12 4 (.slice L0 s0.L.length d0)
                refine hK.out _ _ HT6 (fun _ => ?_)
                clear hK K
                try simp only [Act.put, List.setIfInBounds_toArray, List.set_cons_zero, List.set_cons_succ]
                refine wpAnyH_done (by kernel_rfl) ?_ _
                go_wp2_with fail
                go_meet
                exact ⟨g12, A8, c8, rfl, blk5 B12 _ _ _ _ _, (HT6).to_below (Nat.le_refl _) (fun g hg => hg)⟩
              exact AllReadyH.nil
            exact AllReadyH.nil
          exact AllReadyH.nil
        refine AllReadyH.cons rfl (fun K hK => ?_) ?_
        · go_simp
          refine hK.out _ _ (HT2.alloc _) (fun _ => ?_)
          clear hK K
          replace B2 := alloc_keep (o' := (.cells #[.slice none 0 0, .int .i64 0, .int .i64 0, .int .i64 0, .int .i64 0, .int .i64 0, .slice none 0 0] 37 (0, 0))) B2
          replace B12 := alloc_keep (o' := (.cells #[.slice none 0 0, .int .i64 0, .int .i64 0, .int .i64 0, .int .i64 0, .int .i64 0, .slice none 0 0] 37 (0, 0))) B12
          replace L2 : g2 ≤ (W2.alloc (.cells #[.slice none 0 0, .int .i64 0, .int .i64 0, .int .i64 0, .int .i64 0, .int .i64 0, .slice none 0 0] 37 (0, 0))).heap.size := Nat.le_trans L2 (by simp)
          have B7 := heap_alloc_new W2 (.cells #[.slice none 0 0, .int .i64 0, .int .i64 0, .int .i64 0, .int .i64 0, .int .i64 0, .slice none 0 0] 37 (0, 0))
          have HT3 := HT2.alloc (.cells #[.slice none 0 0, .int .i64 0, .int .i64 0, .int .i64 0, .int .i64 0, .int .i64 0, .slice none 0 0] 37 (0, 0))
          have l7 := HT2.size
          obtain ⟨g7, hg⟩ : ∃ g, W2.heap.size = g := ⟨_, rfl⟩
          rw [hg] at B7 l7 ⊢
          clear hg HT2
          generalize W2.alloc (.cells #[.slice none 0 0, .int .i64 0, .int .i64 0, .int .i64 0, .int .i64 0, .int .i64 0, .slice none 0 0] 37 (0, 0)) = W3 at *
          try simp only [Act.put, List.setIfInBounds_toArray, List.set_cons_zero, List.set_cons_succ]
          refine wpAnyH_ready (rs := [5]) (by kernel_rfl) (by simp) ?_
          refine AllReadyH.cons rfl (fun K hK => ?_) ?_
          · refine step_app7 (by rfl) _ _ _ (by rfl) 37 _ 7 88 Try.underlying25 infoCo rfl (by omega) g2 (by rfl) B2 C0 c0 (csCells s0.C qs) s0.C.length hql (by rfl) (HSR.out.step (HT3.to_below (Nat.le_refl _) (fun _ h => h))) (by omega) (by omega) ?_
            intro v7 W4 ho7 hg7 HK7
            obtain ⟨A7, c7, rfl⟩ := own_val ho7
            have HT4 := HT3.grown hg7 (fun g hg => by injection hg with hg; omega)
            replace L2 : g2 ≤ W4.heap.size := Nat.le_trans L2 hg7.size
            replace B7 := HK7.out _ _ _ (by simp) B7
            replace B12 := HK7.out _ _ _ (by simp) B12
            refine hK.out _ _ HT4 (fun _ => ?_)
            clear hK K B2 HK7 hg7 HT3
            try simp only [Act.put, List.setIfInBounds_toArray, List.set_cons_zero, List.set_cons_succ]
            refine wpAnyH_ready (rs := [8]) (by kernel_rfl) (by simp) ?_
            refine AllReadyH.cons rfl (fun K hK => ?_) ?_
            · refine step_app8 (by rfl) _ _ _ (by rfl) g2 _ 88 Try.underlying25 infoCo rfl (.slice A7 s0.C.length c7) s0.C.length (csCells s0.C qs).flatten (by rfl) ho7 ⟨g7, 0, none⟩ 1 1 [.slice none 0 0, .int .i64 0, .int .i64 0, .int .i64 0, .int .i64 0, .int .i64 0, .slice none 0 0] (by rfl) (by rfl) (World.news_of_block (cs := #[.slice none 0 0, .int .i64 0, .int .i64 0, .int .i64 0, .int .i64 0, .int .i64 0, .slice none 0 0]) (t := 37) (fr := (0, 0)) B7) zco_one (by omega) (by omega) L2 ?_
              intro v8 W5 ho8 hg8 HK8
              obtain ⟨A8, c8, rfl⟩ := own_val ho8
              have HT5 := HT4.grown hg8 (fun g hg => by have h8 := (ho7.lt g hg).1; omega)
              replace B12 := HK8.out _ _ (by rfl) B12
              refine hK.out _ _ HT5 (fun _ => ?_)
              clear hK K B7 HK8 hg8 ho8 ho7 L2 HT4
              try simp only [Act.put, List.setIfInBounds_toArray, List.set_cons_zero, List.set_cons_succ]
              refine wpAnyH_take (i := 11) (v := ?v21) rfl (by kernel_rfl) (by kernel_rfl) (by kernel_rfl) (fun _ _ _ h => h) (Or.inl ⟨by rfl, ?h21⟩) HT5 ?_
              case h21 => (intro w hSw; obtain ⟨x0, x1, x2, x3, x4⟩ := KS.out w hSw; clear hSw; go_simp; try with_reducible rfl)
              try simp only [Act.put, List.setIfInBounds_toArray, List.set_cons_zero, List.set_cons_succ]
              refine wpAnyH_ready (rs := [13]) (by kernel_rfl) (by simp) ?_
              refine AllReadyH.cons rfl (fun K hK => ?_) ?_
              · have q0 : W5.cell? ⟨g12, 0, none⟩ = some (.slice none 0 0) := cell_of_row W5 _ 0 _ _ _ B12
                have q1 : W5.cell? ⟨g12, 1, none⟩ = some (.slice none 0 0) := cell_of_row W5 _ 1 _ _ _ B12
                have q2 : W5.cell? ⟨g12, 2, none⟩ = some (.bool false) := cell_of_row W5 _ 2 _ _ _ B12
                have q3 : W5.cell? ⟨g12, 3, none⟩ = some (.slice none 0 0) := cell_of_row W5 _ 3 _ _ _ B12
                have q4 : W5.cell? ⟨g12, 4, none⟩ = some (.slice none 0 0) := cell_of_row W5 _ 4 _ _ _ B12
                have qf0 : W5.frozen? ⟨g12, 0, none⟩ = false := frozen_of_row W5 _ 0 _ _ B12
                have qf1 : W5.frozen? ⟨g12, 1, none⟩ = false := frozen_of_row W5 _ 1 _ _ B12
                have qf2 : W5.frozen? ⟨g12, 2, none⟩ = false := frozen_of_row W5 _ 2 _ _ B12
                have qf3 : W5.frozen? ⟨g12, 3, none⟩ = false := frozen_of_row W5 _ 3 _ _ B12
                have qf4 : W5.frozen? ⟨g12, 4, none⟩ = false := frozen_of_row W5 _ 4 _ _ B12
                go_simp
                have HT6 := ((((HT5.set (g := g12) l12 0 (.slice A0 s0.M.W.length a0)).set (g := g12) l12 1 (.slice B0 s0.M.G.length b0)).set (g := g12) l12 2 (.bool s0.M.bad)).set (g := g12) l12 3 (.slice A8 (s0.C.length + 1) c8)).set (g := g12) l12 4 (.slice L0 s0.L.length d0)
                refine hK.out _ _ HT6 (fun _ => ?_)
                clear hK K
                try simp only [Act.put, List.setIfInBounds_toArray, List.set_cons_zero, List.set_cons_succ]
                refine wpAnyH_done (by kernel_rfl) ?_ _
                go_wp2_with fail
                go_meet
                exact ⟨g12, A8, c8, rfl, blk5 B12 _ _ _ _ _, (HT6).to_below (Nat.le_refl _) (fun g hg => hg)⟩
              exact AllReadyH.nil
            exact AllReadyH.nil
          exact AllReadyH.nil
        exact AllReadyH.nil
      refine AllReadyH.cons rfl (fun K hK => ?_) ?_
      · go_simp
        refine hK.out _ _ (HT1.alloc _) (fun _ => ?_)
        clear hK K
        replace B12 := alloc_keep (o' := (.cells #[.slice none 0 0, .int .i64 0, .int .i64 0, .int .i64 0, .int .i64 0, .int .i64 0, .slice none 0 0] 37 (0, 0))) B12
        have B7 := heap_alloc_new W1 (.cells #[.slice none 0 0, .int .i64 0, .int .i64 0, .int .i64 0, .int .i64 0, .int .i64 0, .slice none 0 0] 37 (0, 0))
        have HT2 := HT1.alloc (.cells #[.slice none 0 0, .int .i64 0, .int .i64 0, .int .i64 0, .int .i64 0, .int .i64 0, .slice none 0 0] 37 (0, 0))
        have l7 := HT1.size
        obtain ⟨g7, hg⟩ : ∃ g, W1.heap.size = g := ⟨_, rfl⟩
        rw [hg] at B7 l7 ⊢
        clear hg HT1
        generalize W1.alloc (.cells #[.slice none 0 0, .int .i64 0, .int .i64 0, .int .i64 0, .int .i64 0, .int .i64 0, .slice none 0 0] 37 (0, 0)) = W2 at *
        try simp only [Act.put, List.setIfInBounds_toArray, List.set_cons_zero, List.set_cons_succ]
        refine wpAnyH_ready (rs := [2]) (by kernel_rfl) (by simp) ?_
        refine AllReadyH.cons rfl (fun K hK => ?_) ?_
        · go_simp
          refine hK.out _ _ (HT2.alloc _) (fun _ => ?_)
          clear hK K
          replace B7 := alloc_keep (o' := (.cells #[] 37 (0, 0))) B7
          replace B12 := alloc_keep (o' := (.cells #[] 37 (0, 0))) B12
          have B2 := heap_alloc_new W2 (.cells #[] 37 (0, 0))
          have HT3 := HT2.alloc (.cells #[] 37 (0, 0))
          have l2 := HT2.size
          have L2 : W2.heap.size ≤ (W2.alloc (.cells #[] 37 (0, 0))).heap.size := by simp
          obtain ⟨g2, hg⟩ : ∃ g, W2.heap.size = g := ⟨_, rfl⟩
          rw [hg] at B2 l2 L2 ⊢
          clear hg HT2
          generalize W2.alloc (.cells #[] 37 (0, 0)) = W3 at *
          try simp only [Act.put, List.setIfInBounds_toArray, List.set_cons_zero, List.set_cons_succ]
          refine wpAnyH_ready (rs := [5]) (by kernel_rfl) (by simp) ?_
          refine AllReadyH.cons rfl (fun K hK => ?_) ?_
          · refine step_app7 (by rfl) _ _ _ (by rfl) 37 _ 7 88 Try.underlying25 infoCo rfl (by omega) g2 (by rfl) B2 C0 c0 (csCells s0.C qs) s0.C.length hql (by rfl) (HSR.out.step (HT3.to_below (Nat.le_refl _) (fun _ h => h))) (by omega) (by omega) ?_
            intro v7 W4 ho7 hg7 HK7
            obtain ⟨A7, c7, rfl⟩ := own_val ho7
            have HT4 := HT3.grown hg7 (fun g hg => by injection hg with hg; omega)
            replace L2 : g2 ≤ W4.heap.size := Nat.le_trans L2 hg7.size
            replace B7 := HK7.out _ _ _ (by simp) B7
            replace B12 := HK7.out _ _ _ (by simp) B12
            refine hK.out _ _ HT4 (fun _ => ?_)
            clear hK K B2 HK7 hg7 HT3
            try simp only [Act.put, List.setIfInBounds_toArray, List.set_cons_zero, List.set_cons_succ]
            refine wpAnyH_ready (rs := [8]) (by kernel_rfl) (by simp) ?_
            refine AllReadyH.cons rfl (fun K hK => ?_) ?_
            · refine step_app8 (by rfl) _ _ _ (by rfl) g2 _ 88 Try.underlying25 infoCo rfl (.slice A7 s0.C.length c7) s0.C.length (csCells s0.C qs).flatten (by rfl) ho7 ⟨g7, 0, none⟩ 1 1 [.slice none 0 0, .int .i64 0, .int .i64 0, .int .i64 0, .int .i64 0, .int .i64 0, .slice none 0 0] (by rfl) (by rfl) (World.news_of_block (cs := #[.slice none 0 0, .int .i64 0, .int .i64 0, .int .i64 0, .int .i64 0, .int .i64 0, .slice none 0 0]) (t := 37) (fr := (0, 0)) B7) zco_one (by omega) (by omega) L2 ?_
              intro v8 W5 ho8 hg8 HK8
              obtain ⟨A8, c8, rfl⟩ := own_val ho8
              have HT5 := HT4.grown hg8 (fun g hg => by have h8 := (ho7.lt g hg).1; omega)
              replace B12 := HK8.out _ _ (by rfl) B12
              refine hK.out _ _ HT5 (fun _ => ?_)
              clear hK K B7 HK8 hg8 ho8 ho7 L2 HT4
              try simp only [Act.put, List.setIfInBounds_toArray, List.set_cons_zero, List.set_cons_succ]
              refine wpAnyH_take (i := 11) (v := ?v22) rfl (by kernel_rfl) (by kernel_rfl) (by kernel_rfl) (fun _ _ _ h => h) (Or.inl ⟨by rfl, ?h22⟩) HT5 ?_
              case h22 => (intro w hSw; obtain ⟨x0, x1, x2, x3, x4⟩ := KS.out w hSw; clear hSw; go_simp; try with_reducible rfl)
              try simp only [Act.put, List.setIfInBounds_toArray, List.set_cons_zero, List.set_cons_succ]
              refine wpAnyH_ready (rs := [13]) (by kernel_rfl) (by simp) ?_
              refine AllReadyH.cons rfl (fun K hK => ?_) ?_
              · have q0 : W5.cell? ⟨g12, 0, none⟩ = some (.slice none 0 0) := cell_of_row W5 _ 0 _ _ _ B12
                have q1 : W5.cell? ⟨g12, 1, none⟩ = some (.slice none 0 0) := cell_of_row W5 _ 1 _ _ _ B12
                have q2 : W5.cell? ⟨g12, 2, none⟩ = some (.bool false) := cell_of_row W5 _ 2 _ _ _ B12
                have q3 : W5.cell? ⟨g12, 3, none⟩ = some (.slice none 0 0) := cell_of_row W5 _ 3 _ _ _ B12
                have q4 : W5.cell? ⟨g12, 4, none⟩ = some (.slice none 0 0) := cell_of_row W5 _ 4 _ _ _ B12
                have qf0 : W5.frozen? ⟨g12, 0, none⟩ = false := frozen_of_row W5 _ 0 _ _ B12
                have qf1 : W5.frozen? ⟨g12, 1, none⟩ = false := frozen_of_row W5 _ 1 _ _ B12
                have qf2 : W5.frozen? ⟨g12, 2, none⟩ = false := frozen_of_row W5 _ 2 _ _ B12
                have qf3 : W5.frozen? ⟨g12, 3, none⟩ = false := frozen_of_row W5 _ 3 _ _ B12
                have qf4 : W5.frozen? ⟨g12, 4, none⟩ = false := frozen_of_row W5 _ 4 _ _ B12
                go_simp
                have HT6 := ((((HT5.set (g := g12) l12 0 (.slice A0 s0.M.W.length a0)).set (g := g12) l12 1 (.slice B0 s0.M.G.length b0)).set (g := g12) l12 2 (.bool s0.M.bad)).set (g := g12) l12 3 (.slice A8 (s0.C.length + 1) c8)).set (g := g12) l12 4 (.slice L0 s0.L.length d0)
                refine hK.out _ _ HT6 (fun _ => ?_)
                clear hK K
                try simp only [Act.put, List.setIfInBounds_toArray, List.set_cons_zero, List.set_cons_succ]
                refine wpAnyH_done (by kernel_rfl) ?_ _
                go_wp2_with fail
                go_meet
                exact ⟨g12, A8, c8, rfl, blk5 B12 _ _ _ _ _, (HT6).to_below (Nat.le_refl _) (fun g hg => hg)⟩
              exact AllReadyH.nil
            exact AllReadyH.nil
          exact AllReadyH.nil
        exact AllReadyH.nil
      exact AllReadyH.nil
    exact AllReadyH.nil
  case rest =>
    clear HSR hql hqs m0_0 m0_1 m0_2 m0_3 m0_4
    obtain ⟨vM, A8, c8, rfl, BkM, hk⟩ := hcut
    replace Bk0 := (hk.block v0 lt0).trans Bk0
    replace lt0 := Nat.lt_of_lt_of_le lt0 hk.size
    replace S0 := S0.step hk
    replace y1 := y1.step hk
    replace hb := bstep hb hk
    clear hk
    have k0 : wc.cell? ⟨vM, 0, none⟩ = some (.slice A0 s0.M.W.length a0) := cell_of_row wc _ 0 _ _ _ BkM
    have k1 : wc.cell? ⟨vM, 1, none⟩ = some (.slice B0 s0.M.G.length b0) := cell_of_row wc _ 1 _ _ _ BkM
    have k2 : wc.cell? ⟨vM, 2, none⟩ = some (.bool s0.M.bad) := cell_of_row wc _ 2 _ _ _ BkM
    have k3 : wc.cell? ⟨vM, 3, none⟩ = some (.slice A8 (s0.C.length + 1) c8) := cell_of_row wc _ 3 _ _ _ BkM
    have k4 : wc.cell? ⟨vM, 4, none⟩ = some (.slice L0 s0.L.length d0) := cell_of_row wc _ 4 _ _ _ BkM
    go_upto_region 7 with (go_at_call 11; (with_reducible refine (HN2.out A8 c8 _ S0).mono ?_); rintro e wL ⟨g2, rfl, y2, hk⟩)
    clear k0 k1 k2 k3 k4 BkM
    replace Bk0 := (hk.block v0 lt0).trans Bk0
    replace lt0 := Nat.lt_of_lt_of_le lt0 hk.size
    replace S0 := S0.step hk
    replace y1 := y1.step hk
    replace hb := bstep hb hk
    clear hk
    obtain ⟨bV, pV, rfl, hbV, hatV⟩ := S0.W (by omega)
    have z0 : wL.cell? ⟨v0, 0, none⟩ = some (.slice (some ⟨bV, pV, none⟩) s0.M.W.length a0) := cell_of_row wL _ 0 _ _ _ Bk0
    have z1 : wL.cell? ⟨v0, 1, none⟩ = some (.slice B0 s0.M.G.length b0) := cell_of_row wL _ 1 _ _ _ Bk0
    have z2 : wL.cell? ⟨v0, 2, none⟩ = some (.bool s0.M.bad) := cell_of_row wL _ 2 _ _ _ Bk0
    have z3 : wL.cell? ⟨v0, 3, none⟩ = some (.slice C0 s0.C.length c0) := cell_of_row wL _ 3 _ _ _ Bk0
    have z4 : wL.cell? ⟨v0, 4, none⟩ = some (.slice L0 s0.L.length d0) := cell_of_row wL _ 4 _ _ _ Bk0
    have l0 : wL.cell? ⟨g1, 0, none⟩ = some (.bool false) := by have h := cell_of_bools (k := 0) y1 (by rw [HL1.out]; omega); rw [HZ.out] at h; exact h
    have lg1 := (Array.getElem?_eq_some_iff.1 y1).1
    have lg2 := (Array.getElem?_eq_some_iff.1 y2).1
    go_upto_region 9 with (fail)
    go_wp2_with fail
    go_loopw [7] (fun i wq => ∃ p : Nat, 1 ≤ p ∧ p ≤ s0.M.G.length ∧ i = .int .i64 p ∧ Below wL.heap.size wL wq) (fun i _ => s0.M.G.length - (intOf i).toNat)
    case atStart => exact ⟨1, by omega, by omega, rfl, Below.refl _ _⟩
    case round =>
      obtain ⟨p, hp1, hp2, rfl, hq⟩ := hrel
      have fa0 := (hq.cell lt0).trans z0
      have fa1 := (hq.cell lt0).trans z1
      have fa2 := (hq.cell lt0).trans z2
      have fa3 := (hq.cell lt0).trans z3
      have fa4 := (hq.cell lt0).trans z4
      by_cases hpl : p < s0.M.G.length
      · have pl : (p : Int) < (s0.M.G.length : Int) := by omega
        have glb : (s0.M.G.length : Int) ≤ 1000000 := by omega
        go_wp2_with fail
        go_loopw [8, 9] (fun n i wq => ∃ c : Nat, c ≤ s0.C.length ∧ i = .int .i64 c ∧ n = .int .i64 (cnt s0.M p (3 * c) : Nat) ∧ Below wL.heap.size wL wq) (fun _ i _ => s0.C.length - (intOf i).toNat)
        case atStart => exact ⟨0, by omega, rfl, rfl, hq⟩
        case round =>
          clear hq
          obtain ⟨c, hc, rfl, rfl, hq⟩ := hrel
          have fb0 := (hq.cell lt0).trans z0
          have fb1 := (hq.cell lt0).trans z1
          have fb2 := (hq.cell lt0).trans z2
          have fb3 := (hq.cell lt0).trans z3
          have fb4 := (hq.cell lt0).trans z4
          by_cases hcl : c < s0.C.length
          · have cl : (c : Int) < (s0.C.length : Int) := by omega
            have clb : (s0.C.length : Int) ≤ 7 := by omega
            go_wp2_with fail
            go_loopw [8, 10] (fun n i wq => ∃ k : Nat, k ≤ 3 ∧ i = .int .i64 k ∧ n = .int .i64 (cnt s0.M p (3 * c + k) : Nat) ∧ Below wL.heap.size wL wq) (fun _ i _ => 3 - (intOf i).toNat)
            case atStart => exact ⟨0, by omega, rfl, rfl, hq⟩
            case round =>
              clear hq
              obtain ⟨k, hk3, rfl, rfl, hq⟩ := hrel
              have fd0 := (hq.cell lt0).trans z0
              have fd1 := (hq.cell lt0).trans z1
              have fd2 := (hq.cell lt0).trans z2
              have fd3 := (hq.cell lt0).trans z3
              have fd4 := (hq.cell lt0).trans z4
              by_cases hkl : k < 3
              · have kl : (k : Int) < 3 := by omega
                have k0 : 0 ≤ (k : Int) := by omega
                obtain ⟨pl, hpl⟩ : ∃ m, m = 8 + (3 * c + k) := ⟨_, rfl⟩
                have hP : pPlace (c : Int) (k : Int) = (pl : Int) := by rw [pPlace_in (by omega) (by omega) (by omega) (by omega)]; omega
                have HPE := hid hP
                clear hP
                have hlt : pl < s0.M.W.length := by omega
                have hgd : s0.M.W[pl]? = some (s0.M.W.getD pl 0) := by rw [List.getD_eq_getElem?_getD, List.getElem?_eq_getElem hlt]; rfl
                have cV := (hq.cell hbV).trans (hatV pl _ hgd)
                clear hgd
                have HCN := hid (cnt_succ s0.M p (3 * c + k))
                have HCL := hid (cnt_le s0.M p (3 * c + k))
                rw [← hpl] at HCN
                obtain ⟨u, hu⟩ : ∃ u, u = s0.M.W.getD pl 0 := ⟨_, rfl⟩
                rw [← hu] at cV HCN
                clear hu hpl
                have pli : (pl : Int) < (s0.M.W.length : Int) := by omega
                have pl0 : 0 ≤ (pl : Int) := by omega
                by_cases hup : u = (p : Int)
                · have huq : (u == (p : Int)) = true := by simpa using hup
                  have cnb : (cnt s0.M p (3 * c + k) : Int) ≤ 1000 := by have := HCL.out; omega
                  have VAL := hid (show cnt s0.M p (3 * c + (k + 1)) = cnt s0.M p (3 * c + k) + 1 by rw [show 3 * c + (k + 1) = (3 * c + k) + 1 by omega, HCN.out, if_pos hup])
                  clear hup HCN
                  go_wp2_with fail
                  go_region_with (go_at_call 12; (with_reducible refine (rplace_w _ _ _).mono ?_); rintro e wK ⟨rfl, rfl⟩; rw [HPE.out])
                  all_goals go_wp2_with fail
                  all_goals go_roundw
                  all_goals first
                    | exact ⟨k + 1, by omega, by go_num, by rw [VAL.out] <;> first | rfl | go_num, hq.drew⟩
                    | (simp [intOf]; omega)
                · have huq : (u == (p : Int)) = false := by simpa using hup
                  have VAL := hid (show cnt s0.M p (3 * c + (k + 1)) = cnt s0.M p (3 * c + k) by rw [show 3 * c + (k + 1) = (3 * c + k) + 1 by omega, HCN.out, if_neg hup]; omega)
                  clear hup HCN
                  go_wp2_with fail
                  go_region_with (go_at_call 12; (with_reducible refine (rplace_w _ _ _).mono ?_); rintro e wK ⟨rfl, rfl⟩; rw [HPE.out])
                  all_goals go_wp2_with fail
                  all_goals go_roundw
                  all_goals first
                    | exact ⟨k + 1, by omega, by go_num, by rw [VAL.out] <;> first | rfl | go_num, hq.drew⟩
                    | (simp [intOf]; omega)
              · have kl : ¬ (k : Int) < 3 := by omega
                obtain rfl : k = 3 := by omega
                go_wp2_with fail
                go_roundw
                case rel => exact ⟨c + 1, by omega, by go_num, by rw [show 3 * (c + 1) = 3 * c + 3 by omega], hq⟩
                case measure => simp [intOf]; omega
          · have cl : ¬ (c : Int) < (s0.C.length : Int) := by omega
            obtain rfl : c = s0.C.length := by omega
            go_wp2_with fail
            go_loopw [11, 12] (fun l i wq => ∃ k : Nat, k ≤ 3 ∧ i = .int .i64 k ∧ l = .bool (lastOf s0.M p (3 * s0.C.length) k) ∧ Below wL.heap.size wL wq) (fun _ i _ => 3 - (intOf i).toNat)
            case atStart => exact ⟨0, by omega, rfl, rfl, hq⟩
            case round =>
              clear hq
              obtain ⟨k, hk3, rfl, rfl, hq⟩ := hrel
              have fd0 := (hq.cell lt0).trans z0
              have fd1 := (hq.cell lt0).trans z1
              have fd2 := (hq.cell lt0).trans z2
              have fd3 := (hq.cell lt0).trans z3
              have fd4 := (hq.cell lt0).trans z4
              by_cases hkl : k < 3
              · have kl : (k : Int) < 3 := by omega
                have k0 : 0 ≤ (k : Int) := by omega
                obtain ⟨pl, hpl⟩ : ∃ m, m = 8 + (3 * s0.C.length + k) := ⟨_, rfl⟩
                have hP : pPlace (s0.C.length : Int) (k : Int) = (pl : Int) := by rw [pPlace_in (by omega) (by omega) (by omega) (by omega)]; omega
                have HPE := hid hP
                clear hP
                have hlt : pl < s0.M.W.length := by omega
                have hgd : s0.M.W[pl]? = some (s0.M.W.getD pl 0) := by rw [List.getD_eq_getElem?_getD, List.getElem?_eq_getElem hlt]; rfl
                have cV := (hq.cell hbV).trans (hatV pl _ hgd)
                clear hgd
                have HLS := hid (show lastOf s0.M p (3 * s0.C.length) (k + 1) = (lastOf s0.M p (3 * s0.C.length) k || (s0.M.W.getD pl 0 == (p : Int))) from by rw [lastOf_suc7, hpl])
                obtain ⟨u, hu⟩ : ∃ u, u = s0.M.W.getD pl 0 := ⟨_, rfl⟩
                rw [← hu] at cV HLS
                clear hu hpl
                have pli : (pl : Int) < (s0.M.W.length : Int) := by omega
                have pl0 : 0 ≤ (pl : Int) := by omega
                generalize lastOf s0.M p (3 * s0.C.length) k = lk at HLS ⊢
                rcases Bool.eq_false_or_eq_true lk with hl | hl
                all_goals subst hl
                · have HV := hid (show lastOf s0.M p (3 * s0.C.length) (k + 1) = true by rw [HLS.out]; rfl)
                  go_wp2_with fail
                  go_quiet (fail)
                  go_wp2_with fail
                  go_roundw
                  case rel => exact ⟨k + 1, by omega, by go_num, by rw [HV.out], bdrewN hq _⟩
                  case measure => simp [intOf]; omega
                · have HV := hid (show lastOf s0.M p (3 * s0.C.length) (k + 1) = (u == (p : Int)) by rw [HLS.out]; rfl)
                  have lv4 : v0 < wr.heap.size := World.block_lt_of_cell? wr _ fd0
                  have lV4 : bV < wr.heap.size := World.block_lt_of_cell? wr _ cV
                  have KS4 := hid (show ∀ w', Below wr.heap.size wr w' → (w'.cell? ⟨v0, 0, none⟩ = some (.slice (some ⟨bV, pV, none⟩) s0.M.W.length a0) ∧ w'.cell? ⟨v0, 1, none⟩ = some (.slice B0 s0.M.G.length b0) ∧ w'.cell? ⟨v0, 2, none⟩ = some (.bool s0.M.bad) ∧ w'.cell? ⟨v0, 3, none⟩ = some (.slice C0 s0.C.length c0) ∧ w'.cell? ⟨v0, 4, none⟩ = some (.slice L0 s0.L.length d0) ∧ w'.cell? ⟨bV, pV + pl, none⟩ = some (.int .i64 u)) from fun w' h => ⟨(h.cell lv4).trans fd0, (h.cell lv4).trans fd1, (h.cell lv4).trans fd2, (h.cell lv4).trans fd3, (h.cell lv4).trans fd4, (h.cell lV4).trans cV⟩)
                  go_wp2_with fail
                  go_region_held3 (fun w' => w'.cell? ⟨v0, 0, none⟩ = some (.slice (some ⟨bV, pV, none⟩) s0.M.W.length a0) ∧ w'.cell? ⟨v0, 1, none⟩ = some (.slice B0 s0.M.G.length b0) ∧ w'.cell? ⟨v0, 2, none⟩ = some (.bool s0.M.bad) ∧ w'.cell? ⟨v0, 3, none⟩ = some (.slice C0 s0.C.length c0) ∧ w'.cell? ⟨v0, 4, none⟩ = some (.slice L0 s0.L.length d0) ∧ w'.cell? ⟨bV, pV + pl, none⟩ = some (.int .i64 u)) (exact KS4.out _ (by repeat (first | (with_reducible exact Below.refl _ _) | (with_reducible refine Below.drew ?_))))
                    (first | (go_at_call 12; (with_reducible refine (rplace_w _ _ _).mono ?_); rintro e wK ⟨rfl, rfl⟩; rw [HPE.out]))
                  all_goals go_wp2_with fail
                  all_goals go_roundw
                  all_goals first
                    | exact ⟨k + 1, by omega, by go_num, by rw [HV.out], hq.drew⟩
                    | (simp [intOf]; omega)
              · have kl : ¬ (k : Int) < 3 := by omega
                obtain rfl : k = 3 := by omega
                have r1 : _ = some (Value.bool (decide (0 < cnt s0.M p (3 * s0.C.length)))) := (hq.cell (p := ⟨g1, p, none⟩) lg1).trans (by have h := cell_of_bools (k := p) y1 (by rw [HL1.out]; exact hpl); rw [HP1.out p hp1 hpl] at h; exact h)
                have r2 : _ = some (Value.bool (decide (0 < cnt s0.M p (3 * s0.C.length)) || lastOf s0.M p (3 * s0.C.length) 3)) := (hq.cell (p := ⟨g2, p, none⟩) lg2).trans (by have h := cell_of_bools (k := p) y2 (by rw [HL2.out]; exact hpl); rw [HP2.out p hp1 hpl] at h; exact h)
                have hD : decide ((0 : Int) < (cnt s0.M p (3 * s0.C.length) : Int)) = decide (0 < cnt s0.M p (3 * s0.C.length)) := by simp
                generalize lastOf s0.M p (3 * s0.C.length) 3 = lb at *
                rcases Bool.eq_false_or_eq_true (decide (0 < cnt s0.M p (3 * s0.C.length))) with hc0 | hc0
                all_goals rw [hc0] at r1 r2 hD
                all_goals clear hc0
                all_goals simp only [Bool.true_or, Bool.false_or] at r2
                all_goals generalize cnt s0.M p (3 * s0.C.length) = cn at *
                · have hD2 := of_decide_eq_true hD
                  have hD3 : 0 < cn := by omega
                  clear hD
                  go_wp2_with fail
                  go_quiet (fail)
                  go_wp2_with fail
                  go_roundw
                  case rel => exact ⟨p + 1, by omega, by omega, by go_num, bdrewN hq _⟩
                  case measure => simp [intOf]; omega
                · have hD2 := of_decide_eq_false hD
                  clear hD
                  obtain rfl : cn = 0 := by omega
                  cases lb
                  all_goals go_wp2_with fail
                  all_goals go_quiet (fail)
                  all_goals go_wp2_with fail
                  all_goals go_roundw
                  all_goals first
                    | exact ⟨p + 1, by omega, by omega, by go_num, bdrewN hq _⟩
                    | (simp [intOf]; omega)
      · have pl : ¬ (p : Int) < (s0.M.G.length : Int) := by omega
        go_wp2_with fail
        go_ret
        exact ⟨rfl, bstep hb hq⟩

theorem walk (A0 B0 C0 L0 : Option Addr) (a0 b0 c0 d0 : Nat) (s0 : Sy) (w0 : World)
    (rW : Row w0 A0 s0.M.W) (rG : Row w0 B0 s0.M.G) (rC : RowC w0 C0 s0.C) (rL : RowE w0 L0 s0.L) (g0 : s0.M.W.length ≤ maxLen) (g1 : s0.M.G.length ≤ maxLen) (g2 : s0.C.length ≤ maxLen) (g3 : s0.L.length ≤ maxLen) :
    Calls Try.prog 3 #[.agg #[.slice A0 s0.M.W.length a0, .slice B0 s0.M.G.length b0, .bool s0.M.bad, .slice C0 s0.C.length c0, .slice L0 s0.L.length d0]] w0 fun e w' => e = .returned (.bool true) ∧ Below w0.heap.size w0 w' := by
  rcases q0 : syMays s0 with _ | _
  · exact walk_not A0 B0 C0 L0 a0 b0 c0 d0 s0 w0 rW rG rC rL g0 g1 g2 g3 q0
  · by_cases qc : s0.C.length ≤ 7
    · exact walk_yes A0 B0 C0 L0 a0 b0 c0 d0 s0 w0 rW rG rC rL g0 g1 g2 g3 q0 qc
    · exact walk_many A0 B0 C0 L0 a0 b0 c0 d0 s0 w0 rW rG rC rL g0 g1 g2 g3 q0 (by omega)

set_option maxRecDepth 100000 in
theorem lifted (os : Os) (started : os.Started) (H : Type) (enc : TypeId × Value → H) :
    ReturnsInHanded {} Try.checked os 3 .any (Rows.hazNamesSpec.pre6 enc Try.prog Try.f3 Rows.hazNamesRow.domain false) (Rows.hazNamesSpec.post enc Try.prog Try.f3 false true false false) := by
  refine returnsInHanded_of_change (C := Try.checked) own started (by kernel_rfl) Try.func3
    (ChangeSpec.witness6 (enc := enc) (C := Try.checked) false ⟨#[], #[.agg #[.slice none 0 0, .slice none 0 0, .bool false, .slice none 0 0, .slice none 0 0]], []⟩ 8 (by kernel_rfl) (by kernel_rfl) (by kernel_rfl) (by kernel_rfl)) ?_
  intro W base args ds gs before hval0 hW hcnd _
  have hval : ∀ (j : Nat) t v, Try.f3.params[j]? = some t → args[j]? = some v → Value.okWide Try.prog W .any base t v := hval0
  have hW' := hW
  obtain ⟨p, q, hA0, hV, rfl, hfz, hnd⟩ := hW
  have hA : DataW.TrodAll enc Try.prog W 0 (fun _ => true) true Try.f3.params.toList args.toList ds p := hA0
  rw [Try.params3] at hA hval
  obtain ⟨v0, vs0, d0, ds0, p0, q0, hargs, rfl, rfl, h0, r0⟩ := trodAll_cons hA
  obtain ⟨rfl, rfl, rfl⟩ := trodAll_nil r0
  obtain rfl : args = #[v0] := by cases args; simp_all
  obtain ⟨rfl, rfl⟩ := trodVars_none hV
  clear hA0 hval0
  obtain ⟨A0, B0, C0, L0, a0, b0, c0, d0, s0, rfl, rW, rG, rC, rL, l0, l1, l2, l3, hin⟩ := open_systemW (hval 0 _ v0 rfl rfl) h0
  refine (walk A0 B0 C0 L0 a0 b0 c0 d0 s0 W rW rG rC rL l0 l1 l2 l3).mono fun e W' ⟨he, hb⟩ => ?_
  subst he
  exact ⟨_, rfl, law_post (tb := 4) (by kernel_rfl) (by kernel_rfl) (by kernel_rfl) Try.underlying4 rfl hW' rfl hb⟩

theorem over : Rows.hazNamesRow.holds Try.pinned (OpenSpec.ofChange Rows.hazNamesSpec) :=
  OpenClaim.holds_of_wide 3 Try.f3 rfl rfl rfl rfl rfl rfl rfl ⟨rfl, rfl, rfl, rfl, rfl⟩ rfl rfl rfl rfl rfl (by kernel_rfl) Try.func3 (by kernel_rfl)
    (of_decide_eq_true (by kernel_rfl)) (by unfold Func.isWrapper; first | (rw [if_pos (by decide +kernel)]; kernel_rfl) | (rw [if_neg (by decide +kernel)]; exact ⟨rfl, rfl⟩))
    (fun os started H enc _ => lifted os started H enc)
end HazNames

theorem hazNames_holds : Rows.HazNamesSaid := HazNames.over
#print axioms hazNames_holds
end Go.Proofs.Ytnjleafhllepiaa
