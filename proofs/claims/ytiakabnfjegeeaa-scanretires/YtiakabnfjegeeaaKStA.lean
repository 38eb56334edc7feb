/- Layer 4 as plain functions: the list of free nodes, a step of a core. No Go text. -/
import Derived.Test.YtiakabnfjegeeaaKUni
import Derived.Test.YtiakabnfjegeeaaKBas
import Derived.Test.YtiakabnfjegeeaaTouchLoad
import Derived.Test.YtiakabnfjegeeaaTouchStore
import Derived.Test.YtiakabnfjegeeaaTouchCas
import Derived.Test.YtiakabnfjegeeaaChecked
import Derived.WalkKit

namespace Go.Proofs.Ytiakabnfjegeeaa
open Go.RowKit
set_option linter.unusedVariables false

/-- The place of a node's Link, as it is reckoned. -/
def pLink (i : Int) : Int := wrap64 (124 + 4 * i)
theorem wrap64_bd (n : Int) : -9223372036854775808 ≤ wrap64 n ∧ wrap64 n ≤ 9223372036854775807 := by unfold wrap64; omega
theorem pLink_bd (i : Int) : -9223372036854775808 ≤ pLink i ∧ pLink i ≤ 9223372036854775807 := wrap64_bd _
theorem pLink_in {i : Int} (h0 : -1000000000000 ≤ i) (h1 : i ≤ 1000000000000) : pLink i = 124 + 4 * i := by unfold pLink wrap64; omega
theorem wrap_at (i k : Int) : wrap64 (wrap64 (128 + wrap64 (4 * wrap64 (i - 1))) + k) = wrap64 (124 + 4 * i + k) := by unfold wrap64; omega

/-- The links of the nodes 1 to k are laid, each to the next one. -/
def pFillTo (m : Ar) : Nat → Ar
  | 0 => m
  | k + 1 => mStore (pFillTo m k) (124 + 4 * ((k : Int) + 1)) ((k : Int) + 2)
/-- All nodes are laid into the list. -/
def pFill (m : Ar) : Ar := mStore (mStore (pFillTo m (m.G.length - 2)) (124 + 4 * ((m.G.length : Int) - 1)) 0) 0 2

theorem mStore_len (m : Ar) (p v : Int) : (mStore m p v).W.length = m.W.length ∧ (mStore m p v).G = m.G := by
  unfold mStore
  refine ⟨?_, rfl⟩
  dsimp only
  split <;> simp
theorem pFillTo_len (m : Ar) : ∀ k, (pFillTo m k).W.length = m.W.length ∧ (pFillTo m k).G = m.G
  | 0 => ⟨rfl, rfl⟩
  | k + 1 => by
    have h := pFillTo_len m k
    have h2 := mStore_len (pFillTo m k) (124 + 4 * ((k : Int) + 1)) ((k : Int) + 2)
    exact ⟨h2.1.trans h.1, h2.2.trans h.2⟩
theorem pFill_len (m : Ar) : (pFill m).W.length = m.W.length ∧ (pFill m).G = m.G := by
  unfold pFill
  have h := pFillTo_len m (m.G.length - 2)
  have h2 := mStore_len (pFillTo m (m.G.length - 2)) (124 + 4 * ((m.G.length : Int) - 1)) 0
  have h3 := mStore_len (mStore (pFillTo m (m.G.length - 2)) (124 + 4 * ((m.G.length : Int) - 1)) 0) 0 2
  exact ⟨h3.1.trans (h2.1.trans h.1), h3.2.trans (h2.2.trans h.2)⟩

/-- The list from a node on, with those that came. -/
def pWalkFrom (m : Ar) : Nat → Int → List Int → Option (List Int)
  | 0, p, out => if p = 0 then some out else none
  | n + 1, p, out => if p = 0 then some out else if p < 1 ∨ (m.G.length : Int) ≤ p ∨ p ∈ out then none else pWalkFrom m n (mVal m (pLink p)) (out ++ [p])
def pWalk (m : Ar) : Option (List Int) := pWalkFrom m m.G.length (pIdx (mVal m 0)) []
def wList (o : Option (List Int)) : List Int := o.getD []
def wIs (o : Option (List Int)) : Bool := o.isSome

theorem nodup_len {n : Nat} {l : List Int} (hd : l.Nodup) (hr : ∀ x ∈ l, 1 ≤ x ∧ x ≤ (n : Int)) : l.length ≤ n := by
  induction n generalizing l with
  | zero =>
    match l with
    | [] => simp
    | x :: l => have := hr x (by simp); omega
  | succ n ih =>
    have h1 := ih (l := l.erase ((n : Int) + 1)) (hd.erase _) (fun x hx => by
      have h2 := (List.Nodup.mem_erase_iff hd).1 hx
      have h3 := hr x h2.2
      have h4 := h2.1
      omega)
    by_cases q : ((n : Int) + 1) ∈ l
    · rw [List.length_erase_of_mem q] at h1; omega
    · rw [List.erase_of_not_mem q] at h1; omega

/-- What a loop has still to do. -/
structure WalkAt (m : Ar) (p : Int) (out : List Int) : Prop where
  nd : out.Nodup
  rg : ∀ x ∈ out, 1 ≤ x ∧ x ≤ (m.G.length : Int) - 1
  eq : pWalkFrom m (m.G.length - out.length) p out = pWalk m
theorem WalkAt.len {m : Ar} {p : Int} {out : List Int} (h : WalkAt m p out) (hg : 1 ≤ m.G.length) : out.length + 1 ≤ m.G.length := by
  have := nodup_len (n := m.G.length - 1) h.nd (fun x hx => by have := h.rg x hx; omega)
  omega
theorem WalkAt.start (m : Ar) : WalkAt m (pIdx (mVal m 0)) [] := ⟨by simp, by simp, rfl⟩
theorem WalkAt.done {m : Ar} {out : List Int} (h : WalkAt m 0 out) : pWalk m = some out := by
  have e := h.eq
  cases hn : m.G.length - out.length with
  | zero => rw [hn] at e; simp [pWalkFrom] at e; exact e.symm
  | succ n => rw [hn] at e; simp [pWalkFrom] at e; exact e.symm
theorem WalkAt.no {m : Ar} {p : Int} {out : List Int} (h : WalkAt m p out) (h0 : p ≠ 0) (hp : p < 1 ∨ (m.G.length : Int) ≤ p ∨ p ∈ out) : pWalk m = none := by
  have e := h.eq
  cases hn : m.G.length - out.length with
  | zero => rw [hn] at e; simp [pWalkFrom, h0] at e; exact e.symm
  | succ n => rw [hn] at e; unfold pWalkFrom at e; rw [if_neg h0, if_pos hp] at e; exact e.symm
theorem WalkAt.next {m : Ar} {p : Int} {out : List Int} (h : WalkAt m p out) (h1 : 1 ≤ p) (h2 : p ≤ (m.G.length : Int) - 1) (h3 : p ∉ out) : WalkAt m (mVal m (pLink p)) (out ++ [p]) := by
  have hl := h.len (by omega)
  refine ⟨?_, ?_, ?_⟩
  · rw [List.nodup_append]
    refine ⟨h.nd, by simp, fun a ha b hb => ?_⟩
    simp at hb
    subst hb
    intro e
    exact h3 (e ▸ ha)
  · intro x hx
    rcases List.mem_append.1 hx with q | q
    · exact h.rg x q
    · simp at q; omega
  · have e := h.eq
    obtain ⟨n, hn⟩ : ∃ n, m.G.length - out.length = n + 1 := ⟨m.G.length - out.length - 1, by omega⟩
    rw [hn] at e
    unfold pWalkFrom at e
    rw [if_neg (by omega), if_neg (fun q => by rcases q with q | q | q; omega; omega; exact h3 q)] at e
    have hn2 : m.G.length - (out ++ [p]).length = n := by simp; omega
    rw [hn2]
    exact e

/-- A system with another arena. -/
def syMem (s : Sy) (m : Ar) : Sy := ⟨m, s.C, s.L⟩
theorem few_mem {s : Sy} (h : SyFew s) {m : Ar} (h0 : m.W.length = s.M.W.length) (h1 : m.G.length = s.M.G.length) : SyFew (syMem s m) := by
  obtain ⟨f0, f1, f2, f3, f4⟩ := h
  exact ⟨by simp only [syMem]; omega, by simp only [syMem]; omega, f2, f3, f4⟩

/-- The last step of both ops. -/
def pSwap (s : Sy) (i : Int) (f : Fr) (seen first node nw : Int) : Sy :=
  if mIs s.M 0 seen then pBack (syMem s (mTurn (mCas s.M 0 seen (pNext seen first 0)) node nw)) i node 0
  else pSet (syMem s (mCas s.M 0 seen (pNext seen first 0))) i ⟨f.op, 0, f.R, f.S⟩
/-- A step of OPop; d: where nothing happens. -/
def pPop (s : Sy) (i : Int) (f : Fr) (d : Sy) : Sy :=
  if f.pc = 0 then
    if pIdx (mVal s.M 0) = 0 then pBack (pLog (syMem s (mLoad s.M 0)) i 9 0 0 0) i 0 2
    else pSet (syMem s (mLoad s.M 0)) i ⟨f.op, 1, f.R.set 0 (mVal s.M 0), f.S⟩
  else if f.pc = 1 then pSet (syMem s (mLoad s.M (pLink (pIdx (f.R.getD 0 0))))) i ⟨f.op, 2, f.R.set 1 (mVal s.M (pLink (pIdx (f.R.getD 0 0)))), f.S⟩
  else if f.pc = 2 then pSwap s i f (f.R.getD 0 0) (f.R.getD 1 0) (pIdx (f.R.getD 0 0)) 1
  else d
def pPush (s : Sy) (i : Int) (f : Fr) (d : Sy) : Sy :=
  if f.pc = 0 then pSet (syMem s (mLoad s.M 0)) i ⟨f.op, 1, f.R.set 1 (mVal s.M 0), f.S⟩
  else if f.pc = 1 then pSet (syMem s (mStore s.M (pLink (f.R.getD 0 0)) (pIdx (f.R.getD 1 0)))) i ⟨f.op, 2, f.R, f.S⟩
  else if f.pc = 2 then pSwap s i f (f.R.getD 1 0) (f.R.getD 0 0) (f.R.getD 0 0) 0
  else d
/-- A step of a core. -/
def pStep (s : Sy) (i : Int) : Sy := match pTop s i with
  | none => s
  | some f => if f.op = 1 then pPop s i f s else if f.op = 2 then pPush s i f s else s

theorem pSet_none {s : Sy} {i : Int} (h : pTop s i = none) (f : Fr) : pSet s i f = s := by
  unfold pTop at h
  unfold pSet
  split at h
  · rfl
  · next x hx =>
    have : x.F = [] := by simpa using h
    simp [this]
theorem pSet_top {s : Sy} {i : Int} {f : Fr} (h : pTop s i = some f) : pSet s i f = s := by
  unfold pTop at h
  unfold pSet
  rcases pAt_cases s i with ⟨_, _, h2⟩ | ⟨k, x, rfl, hk, hx, _, h2⟩
  · rw [h2] at h; cases h
  · rw [h2] at h ⊢
    dsimp only at h ⊢
    have hne : x.F ≠ [] := fun e => by rw [e] at h; cases h
    have hl : x.F.length ≠ 0 := fun e => hne (List.length_eq_zero_iff.mp e)
    rw [if_neg hl]
    have e1 : x.F.set (x.F.length - 1) f = x.F := by
      rw [List.getLast?_eq_getElem?] at h
      apply List.ext_getElem?
      intro j
      by_cases q : x.F.length - 1 = j
      · subst q; rw [List.getElem?_set_self (by omega), h]
      · rw [List.getElem?_set_ne q]
    have e2 : coSet x (x.F.length - 1) f = x := by unfold coSet; rw [e1]
    rw [e2]
    unfold syWith
    have e3 : s.C.set (k : Int).toNat x = s.C := by
      apply List.ext_getElem?
      intro j
      by_cases q : (k : Int).toNat = j
      · subst q; rw [List.getElem?_set_self (by simpa using hk)]; simpa using hx.symm
      · rw [List.getElem?_set_ne q]
    rw [e3]
end Go.Proofs.Ytiakabnfjegeeaa

/- Contracts: loads, stores and swaps, by the program. -/
namespace Go.Proofs.Ytiakabnfjegeeaa
open Go.RowKit
set_option linter.unusedVariables false
set_option linter.unusedSimpArgs false

theorem heap_at (w : World) (o : Obj) (n : Nat) (h : n = w.heap.size) : (w.alloc o).heap[n]? = some o := by
  subst h
  exact heap_alloc_new w o

set_option maxHeartbeats 1000000 in
theorem load_o (A A' : Option Addr) (c c' : Nat) (m : Ar) (p : Int) (w : World) (hW : Row w A m.W) (hG : Row w A' m.G) (h0 : m.W.length ≤ 1000000) (h1 : m.G.length ≤ 1000000) (h2 : 2 ≤ m.G.length) (hp : -9223372036854775808 ≤ p) (hq : p ≤ 9223372036854775807) :
    Calls Try.prog 98 #[.agg #[.slice A m.W.length c, .slice A' m.G.length c', .bool m.bad], .int .i64 p] w (RetMem2O w A A' (mLoad m p) (.int .i64 (mVal m p))) := by
  go_enter Try.func98, Try.ntmps98
  go_wp2_with (go_at_call 83; refine (touch_load _ _ _ _ m p (w.heap.size + 1 + 1) w _ hW hG (bstep (bstep (boxed _ _) (boxed _ _)) (boxed _ _)) h0 h1 h2 hp hq (by simp [go_sem]) (by simp [go_sem]) (by omega) (by simp)).mono ?_; rintro e wk ⟨C1, C2, e1, e2, rfl, S1, S2, hk, hc, F1, F2⟩; have hc' : wk.cell? ⟨w.heap.size + 1 + 1, 0, none⟩ = some (.int .i64 (mVal m p)) := hc; clear hc; obtain ⟨gc, gf⟩ := bcellB hk; have hz : w.heap.size + 1 + 1 < wk.heap.size := (by have := hk.size; simp at this; omega); have hz0 : w.heap.size + 1 < wk.heap.size := (by omega); have hz2 : w.heap.size + 1 < w.heap.size + 1 + 1 := (by omega))
  go_region
  all_goals go_wp2
  refine bodyPost_ret (v := .tuple #[.agg #[.slice C1 (mLoad m p).W.length e1, .slice C2 (mLoad m p).G.length e2, .bool (mLoad m p).bad], .int .i64 (mVal m p)]) (by simp [results, Try.results98, go_sem, gc, hz0, hz2]) rfl ?_
  have hz1 : wk.heap[w.heap.size + 1]? = some (.cells #[.slice none 0 0, .slice none 0 0, .bool false] 26 (0, 0)) := (hk.block _ (by omega)).trans ((heap_alloc_old _ _ (by simp)).trans (heap_alloc2_new w _ _))
  exact RetMem2O.mk rfl rfl rfl ((S1.far3 hz1 _ _ _).alloc _).drew ((S2.far3 hz1 _ _ _).alloc _).drew (bstep (keep3 ((bstep (bstep (boxed _ _) (boxed _ _)) (boxed _ _)).trans (hk.mono (by omega))) (by omega) _ _ _) (boxed _ _)).drew (F1.any.up (by simp; omega)) (F2.any.up (by simp; omega))

set_option maxHeartbeats 1000000 in
theorem store_o (A A' : Option Addr) (c c' : Nat) (m : Ar) (p y : Int) (w : World) (hW : Row w A m.W) (hG : Row w A' m.G) (h0 : m.W.length ≤ 1000000) (h1 : m.G.length ≤ 1000000) (h2 : 2 ≤ m.G.length) (hp : -9223372036854775808 ≤ p) (hq : p ≤ 9223372036854775807) :
    Calls Try.prog 66 #[.agg #[.slice A m.W.length c, .slice A' m.G.length c', .bool m.bad], .int .i64 p, .int .i64 y] w (RetMemO w A A' (mStore m p y)) := by
  go_enter Try.func66, Try.ntmps66
  go_wp2_with (go_at_call 83; refine (touch_store _ _ _ _ m p y (w.heap.size + 1) w _ hW hG (bstep (bstep (boxed _ _) (boxed _ _)) (boxed _ _)) h0 h1 h2 hp hq (by simp [go_sem]) (by omega) (by simp)).mono ?_; rintro e wk ⟨C1, C2, e1, e2, rfl, S1, S2, hk, _, F1, F2⟩; obtain ⟨gc, gf⟩ := bcell hk; have hz : w.heap.size + 1 + 1 < wk.heap.size := (by have := hk.size; simp at this; omega))
  refine bodyPost_ret (v := .agg #[.slice C1 (mStore m p y).W.length e1, .slice C2 (mStore m p y).G.length e2, .bool (mStore m p y).bad]) (by simp [results, Try.results66, go_sem, gc, hz]) rfl ?_
  have hz1 : wk.heap[w.heap.size + 1 + 1]? = some (.cells #[.slice none 0 0, .slice none 0 0, .bool false] 26 (0, 0)) := (hk.block _ (by simp)).trans (heap_at _ _ _ (by simp))
  exact RetMemO.mk rfl rfl rfl (S1.far3 hz1 _ _ _) (S2.far3 hz1 _ _ _) (keep3 (bstep (bstep (bstep (boxed _ _) (boxed _ _)) (boxed _ _)) hk) (by omega) _ _ _) (F1.any.up (by simp; omega)) (F2.any.up (by simp; omega))

set_option maxHeartbeats 1000000 in
theorem cas_o (A A' : Option Addr) (c c' : Nat) (m : Ar) (p old now : Int) (w : World) (hW : Row w A m.W) (hG : Row w A' m.G) (h0 : m.W.length ≤ 1000000) (h1 : m.G.length ≤ 1000000) (h2 : 2 ≤ m.G.length) (hp : -9223372036854775808 ≤ p) (hq : p ≤ 9223372036854775807) :
    Calls Try.prog 111 #[.agg #[.slice A m.W.length c, .slice A' m.G.length c', .bool m.bad], .int .i64 p, .int .i64 old, .int .i64 now] w (RetMem2O w A A' (mCas m p old now) (.bool (mIs m p old))) := by
  go_enter Try.func111, Try.ntmps111
  go_wp2_with (go_at_call 83; refine (touch_cas _ _ _ _ m p old now (w.heap.size + 1 + 1 + 1 + 1) (w.heap.size + 1) (w.heap.size + 1 + 1) w _ hW hG (bstep (bstep (bstep (bstep (boxed _ _) (boxed _ _)) (boxed _ _)) (boxed _ _)) (boxed _ _)) h0 h1 h2 hp hq (by simp [go_sem]) (by simp [go_sem]) (by simp [go_sem]) (by simp [go_sem]) (by omega) (by simp) (by omega) (by omega)).mono ?_; rintro e wk ⟨C1, C2, e1, e2, rfl, S1, S2, hk, hc, F1, F2⟩; have hc' : wk.cell? ⟨w.heap.size + 1 + 1 + 1 + 1, 0, none⟩ = some (.bool (mIs m p old)) := hc; clear hc; obtain ⟨gc, gf⟩ := bcellB hk; have hz : w.heap.size + 1 + 1 + 1 + 1 < wk.heap.size := (by have := hk.size; simp at this; omega); have hz0 : w.heap.size + 1 + 1 + 1 < wk.heap.size := (by omega); have hz2 : w.heap.size + 1 + 1 + 1 < w.heap.size + 1 + 1 + 1 + 1 := (by omega))
  go_region
  all_goals go_wp2
  refine bodyPost_ret (v := .tuple #[.agg #[.slice C1 (mCas m p old now).W.length e1, .slice C2 (mCas m p old now).G.length e2, .bool (mCas m p old now).bad], .bool (mIs m p old)]) (by simp [results, Try.results111, go_sem, gc, hz0, hz2]) rfl ?_
  have hz1 : wk.heap[w.heap.size + 1 + 1 + 1]? = some (.cells #[.slice none 0 0, .slice none 0 0, .bool false] 26 (0, 0)) := (hk.block _ (by omega)).trans ((heap_alloc_old _ _ (by simp)).trans (heap_at _ _ _ (by simp)))
  exact RetMem2O.mk rfl rfl rfl ((S1.far3 hz1 _ _ _).alloc _).drew ((S2.far3 hz1 _ _ _).alloc _).drew (bstep (keep3 ((bstep (bstep (bstep (bstep (boxed _ _) (boxed _ _)) (boxed _ _)) (boxed _ _)) (boxed _ _)).trans (hk.mono (by omega))) (by omega) _ _ _) (boxed _ _)).drew (F1.any.up (by simp; omega)) (F2.any.up (by simp; omega))
theorem load_any (A A' : Option Addr) (c c' : Nat) (m : Ar) (p : Int) (w : World) (hW : Row w A m.W) (hG : Row w A' m.G) (h0 : m.W.length ≤ 1000000) (h1 : m.G.length ≤ 1000000) (h2 : 2 ≤ m.G.length) (hp : -9223372036854775808 ≤ p) (hq : p ≤ 9223372036854775807) :
    Calls Try.prog 98 #[.agg #[.slice A m.W.length c, .slice A' m.G.length c', .bool m.bad], .int .i64 p] w (RetMem2 w (mLoad m p) (.int .i64 (mVal m p))) := (load_o A A' c c' m p w hW hG h0 h1 h2 hp hq).mono fun _ _ h => h.weak

theorem store_any (A A' : Option Addr) (c c' : Nat) (m : Ar) (p y : Int) (w : World) (hW : Row w A m.W) (hG : Row w A' m.G) (h0 : m.W.length ≤ 1000000) (h1 : m.G.length ≤ 1000000) (h2 : 2 ≤ m.G.length) (hp : -9223372036854775808 ≤ p) (hq : p ≤ 9223372036854775807) :
    Calls Try.prog 66 #[.agg #[.slice A m.W.length c, .slice A' m.G.length c', .bool m.bad], .int .i64 p, .int .i64 y] w (RetMem w (mStore m p y)) := (store_o A A' c c' m p y w hW hG h0 h1 h2 hp hq).mono fun _ _ h => h.weak

theorem cas_any (A A' : Option Addr) (c c' : Nat) (m : Ar) (p old now : Int) (w : World) (hW : Row w A m.W) (hG : Row w A' m.G) (h0 : m.W.length ≤ 1000000) (h1 : m.G.length ≤ 1000000) (h2 : 2 ≤ m.G.length) (hp : -9223372036854775808 ≤ p) (hq : p ≤ 9223372036854775807) :
    Calls Try.prog 111 #[.agg #[.slice A m.W.length c, .slice A' m.G.length c', .bool m.bad], .int .i64 p, .int .i64 old, .int .i64 now] w (RetMem2 w (mCas m p old now) (.bool (mIs m p old))) := (cas_o A A' c c' m p old now w hW hG h0 h1 h2 hp hq).mono fun _ _ h => h.weak
end Go.Proofs.Ytiakabnfjegeeaa

/- Contracts of package pack's functions, and of the document's own answers for layer 1, as far as later layers ask them. -/
namespace Go.Proofs.Ytiakabnfjegeeaa
namespace Pk
open Go.RowKit

theorem ret_int {k : IntKind} {a b : Int} (h : a = b) : Ending.returned (.int k a) = .returned (.int k b) := by rw [h]
/-- cut, with nothing below. -/
theorem cut0 (a k m : Int) (w : World) (hk : k = 1 ∧ m = 2 ∨ k = 20 ∧ m = 1048576 ∨ k = 40 ∧ m = 1099511627776 ∨ k = 61 ∧ m = 2305843009213693952) :
    Calls Try.prog 96 #[.int .i64 a, .int .u64 k, .slice none 0 0] w fun e w' => e = .returned (.int .i64 (a % m)) ∧ w = w' := by
  have m1 := mask1 a
  have m20 := mask20 a
  have m40 := mask40 a
  have m61 := mask61 a
  rcases hk with ⟨rfl, rfl⟩ | ⟨rfl, rfl⟩ | ⟨rfl, rfl⟩ | ⟨rfl, rfl⟩
  all_goals
    go_enter Try.func96, Try.ntmps96
    go_wp2
    refine wp_loop_rounds 1 ?_
    rw [rounds_succ]
    go_wp2
    go_ret
    exact ⟨rfl, rfl⟩

/-- cut of an index: one bit below. -/
theorem cut1 (a : Int) (b : Nat) (w : World) (hc : w.cell? ⟨b, 0, none⟩ = some (.int .u64 1)) :
    Calls Try.prog 96 #[.int .i64 a, .int .u64 20, .slice (some ⟨b, 0, none⟩) 1 1] w fun e w' => e = .returned (.int .i64 (pIdx a)) ∧ w = w' := by
  have m20 := mask20 (a / 2)
  go_enter Try.func96, Try.ntmps96
  go_wp2
  refine wp_loop_rounds 2 ?_
  rw [rounds_succ]
  go_wp2
  rw [rounds_succ]
  go_wp2
  go_ret
  exact ⟨rfl, rfl⟩

/-- cut of a tag: a mark's width and an index's below. -/
theorem cut2 (a : Int) (b : Nat) (w : World) (hc : w.cell? ⟨b, 0, none⟩ = some (.int .u64 1)) (hd : w.cell? ⟨b, 1, none⟩ = some (.int .u64 20)) :
    Calls Try.prog 96 #[.int .i64 a, .int .u64 40, .slice (some ⟨b, 0, none⟩) 2 2] w fun e w' => e = .returned (.int .i64 (pTag a)) ∧ w = w' := by
  have m40 := mask40 (a / 2 / 1048576)
  go_enter Try.func96, Try.ntmps96
  go_wp2
  refine wp_loop_rounds 3 ?_
  rw [rounds_succ]
  go_wp2
  rw [rounds_succ]
  go_wp2
  rw [rounds_succ]
  go_wp2
  go_ret
  exact ⟨ret_int (by unfold pTag; omega), rfl⟩

theorem index_any (a : Int) (w : World) :
    Calls Try.prog 97 #[.int .i64 a] w fun e w' => e = .returned (.int .i64 (pIdx a)) ∧ Below w.heap.size w w' := by
  go_enter Try.func97, Try.ntmps97
  go_wp2_with (go_at_call 96; refine (cut1 _ _ _ (by go_simp)).mono ?_; rintro e w' ⟨rfl, rfl⟩)
  go_ret
  exact ⟨rfl, (Below.refl _ _).alloc (Nat.le_refl _) _⟩

theorem tag_any (a : Int) (w : World) :
    Calls Try.prog 119 #[.int .i64 a] w fun e w' => e = .returned (.int .i64 (pTag a)) ∧ Below w.heap.size w w' := by
  go_enter Try.func119, Try.ntmps119
  go_wp2_with (go_at_call 96; refine (cut2 _ _ _ (by go_simp) (by go_simp)).mono ?_; rintro e w' ⟨rfl, rfl⟩)
  go_ret
  exact ⟨rfl, (Below.refl _ _).alloc (Nat.le_refl _) _⟩

theorem fits_any (a k m : Int) (w : World) (hk : k = 1 ∧ m = 2 ∨ k = 20 ∧ m = 1048576 ∨ k = 40 ∧ m = 1099511627776 ∨ k = 61 ∧ m = 2305843009213693952) :
    Calls Try.prog 86 #[.int .i64 a, .int .u64 k] w fun e w' => e = .returned (.bool (pFit a m)) ∧ w = w' := by
  go_enter Try.func86, Try.ntmps86
  go_wp2_with (go_at_call 96; refine (cut0 _ _ _ _ hk).mono ?_; rintro e w' ⟨rfl, rfl⟩)
  go_ret
  exact ⟨rfl, rfl⟩

theorem cut0_40 (a : Int) (w : World) : Calls Try.prog 96 #[.int .i64 a, .int .u64 40, .slice none 0 0] w fun e w' => e = .returned (.int .i64 (a % 1099511627776)) ∧ w = w' := cut0 _ _ _ _ (by simp)
theorem cut0_20 (a : Int) (w : World) : Calls Try.prog 96 #[.int .i64 a, .int .u64 20, .slice none 0 0] w fun e w' => e = .returned (.int .i64 (a % 1048576)) ∧ w = w' := cut0 _ _ _ _ (by simp)
theorem cut0_1 (a : Int) (w : World) : Calls Try.prog 96 #[.int .i64 a, .int .u64 1, .slice none 0 0] w fun e w' => e = .returned (.int .i64 (a % 2)) ∧ w = w' := cut0 _ _ _ _ (by simp)
theorem fits_40 (a : Int) (w : World) : Calls Try.prog 86 #[.int .i64 a, .int .u64 40] w fun e w' => e = .returned (.bool (pFit a 1099511627776)) ∧ w = w' := fits_any _ _ _ _ (by simp)
theorem fits_20 (a : Int) (w : World) : Calls Try.prog 86 #[.int .i64 a, .int .u64 20] w fun e w' => e = .returned (.bool (pFit a 1048576)) ∧ w = w' := fits_any _ _ _ _ (by simp)
theorem fits_1 (a : Int) (w : World) : Calls Try.prog 86 #[.int .i64 a, .int .u64 1] w fun e w' => e = .returned (.bool (pFit a 2)) ∧ w = w' := fits_any _ _ _ _ (by simp)

theorem join_any (t i m : Int) (w : World) (ht : 0 ≤ t ∧ t < 1099511627776) (hi : 0 ≤ i ∧ i < 1048576) (hm : 0 ≤ m ∧ m < 2) :
    Calls Try.prog 87 #[.int .i64 t, .int .i64 i, .int .i64 m] w fun e w' => e = .returned (.int .i64 (pWord t i m)) ∧ w = w' := by
  have j1 := join20 (t * 1048576) i (by omega) (by omega) (by omega) hi.1 hi.2
  have j2 := join1 ((t * 1048576 + i) * 2) m (by omega) (by omega) (by omega) hm.1 hm.2
  obtain ⟨ht0, ht1⟩ := ht
  obtain ⟨hi0, hi1⟩ := hi
  obtain ⟨hm0, hm1⟩ := hm
  go_enter Try.func87, Try.ntmps87
  go_wp2
  go_ret
  exact ⟨ret_int (by unfold pWord; omega), rfl⟩

theorem next_any (a i m : Int) (w : World) :
    Calls Try.prog 112 #[.int .i64 a, .int .i64 i, .int .i64 m] w fun e w' => e = .returned (.int .i64 (pNext a i m)) ∧ Below w.heap.size w w' := by
  obtain ⟨h0, h1⟩ := pTag_bd a
  go_enter Try.func112, Try.ntmps112
  go_wp2_with (first
    | (go_at_call 119; refine (tag_any _ _).mono ?_; rintro e w1 ⟨rfl, hb⟩)
    | (go_at_call 96; (with_reducible refine (cut0_40 _ _).mono ?_); rintro e w' ⟨rfl, rfl⟩)
    | (go_at_call 96; (with_reducible refine (cut0_20 _ _).mono ?_); rintro e w' ⟨rfl, rfl⟩)
    | (go_at_call 96; (with_reducible refine (cut0_1 _ _).mono ?_); rintro e w' ⟨rfl, rfl⟩)
    | (go_at_call 87; refine (join_any _ _ _ _ (by omega) (by omega) (by omega)).mono ?_; rintro e w' ⟨rfl, rfl⟩))
  go_ret
  exact ⟨rfl, hb⟩

theorem of_yes (t i m : Int) (w : World) (h : pOk t i m = true) :
    Calls Try.prog 68 #[.int .i64 t, .int .i64 i, .int .i64 m] w fun e w' => e = .returned (.tuple #[.int .i64 (pWord t i m), .int .i64 0]) ∧ w = w' := by
  have hb := (pOk_iff t i m).1 h
  unfold pOk at h
  simp only [Bool.and_eq_true] at h
  obtain ⟨⟨ht, hi⟩, hm⟩ := h
  go_enter Try.func68, Try.ntmps68
  go_wp2_with (first
    | (go_at_call 86; (with_reducible refine (fits_40 _ _).mono ?_); rintro e w' ⟨rfl, rfl⟩)
    | (go_at_call 86; (with_reducible refine (fits_20 _ _).mono ?_); rintro e w' ⟨rfl, rfl⟩)
    | (go_at_call 86; (with_reducible refine (fits_1 _ _).mono ?_); rintro e w' ⟨rfl, rfl⟩)
    | (go_at_call 87; refine (join_any _ _ _ _ (by omega) (by omega) (by omega)).mono ?_; rintro e w' ⟨rfl, rfl⟩))
  go_ret2
  exact ⟨rfl, rfl⟩

theorem tmod_pos (a b : Int) (ha : 0 ≤ a) : a.tmod b = a % b := Int.tmod_eq_emod_of_nonneg ha
theorem tmod_neg (a b : Int) (hb : 0 < b) (ha : a < 0) : a.tmod b = a % b ∧ a % b = 0 ∨ a.tmod b = a % b - b ∧ 0 < a % b := by
  have h := Int.tmod_eq_emod (a := a) (b := b)
  rw [h]
  by_cases hd : b ∣ a
  · left; have := Int.emod_eq_zero_of_dvd hd; simp [hd, this]
  · right
    have h1 := Int.emod_nonneg a (b := b) (by omega)
    have h2 : a % b ≠ 0 := fun h0 => hd (Int.dvd_of_emod_eq_zero h0)
    rw [if_neg (by omega)]
    omega

theorem mod_any (a b : Int) (w : World) (hb : 0 < b) (hb1 : b ≤ 4611686018427387904) :
    Calls Try.prog 52 #[.int .i64 a, .int .i64 b] w fun e w' => e = .returned (.int .i64 (a % b)) ∧ w = w' := by
  have hne : (b == 0) = false := by simp; omega
  have h1 := Int.emod_nonneg a (b := b) (by omega)
  have h2 := Int.emod_lt_of_pos a hb
  have h3 : a.tmod b = a % b ∧ 0 ≤ a.tmod b ∨ a.tmod b = a % b - b ∧ a.tmod b < 0 := by
    by_cases ha : 0 ≤ a
    · left; rw [tmod_pos a b ha]; exact ⟨rfl, h1⟩
    · rcases tmod_neg a b hb (by omega) with ⟨e, e0⟩ | ⟨e, e0⟩
      · left; exact ⟨e, by omega⟩
      · right; exact ⟨e, by omega⟩
  rcases h3 with ⟨h3, h4⟩ | ⟨h3, h4⟩
  · have H : Hid (a.tmod b = a % b) := h3
    have h5 : ¬ a.tmod b < 0 := by omega
    have h6 : a.tmod b ≤ b := by omega
    clear h3
    go_enter Try.func52, Try.ntmps52
    go_wp2
    go_ret
    exact ⟨ret_int H.out, rfl⟩
  · have H : Hid (a.tmod b = a % b - b) := h3
    have h6 : - b ≤ a.tmod b := by omega
    clear h3
    go_enter Try.func52, Try.ntmps52
    go_wp2
    go_ret
    exact ⟨ret_int (by have := H.out; omega), rfl⟩

theorem rindex_any (a : Int) (w : World) :
    Calls Try.prog 37 #[.int .i64 a] w fun e w' => e = .returned (.int .i64 (pIdx a)) ∧ w = w' := by
  have h0 : 0 ≤ a % 2097152 := by omega
  have h1 : a % 2097152 < 2097152 := by omega
  go_enter Try.func37, Try.ntmps37
  go_wp2_with (go_at_call 52; refine (mod_any _ _ _ (by omega) (by omega)).mono ?_; rintro e w' ⟨rfl, rfl⟩)
  go_ret
  exact ⟨ret_int (by unfold pIdx; omega), rfl⟩

theorem rtag_any (a : Int) (w : World) :
    Calls Try.prog 53 #[.int .i64 a] w fun e w' => e = .returned (.int .i64 (pTag a)) ∧ w = w' := by
  have h0 : 0 ≤ a % 2305843009213693952 := by omega
  have h1 : a % 2305843009213693952 < 2305843009213693952 := by omega
  go_enter Try.func53, Try.ntmps53
  go_wp2_with (go_at_call 52; refine (mod_any _ _ _ (by omega) (by omega)).mono ?_; rintro e w' ⟨rfl, rfl⟩)
  go_ret
  exact ⟨ret_int (by unfold pTag; omega), rfl⟩

theorem rnext_any (a i m : Int) (w : World) :
    Calls Try.prog 36 #[.int .i64 a, .int .i64 i, .int .i64 m] w fun e w' => e = .returned (.int .i64 (pNext a i m)) ∧ w = w' := by
  obtain ⟨h0, h1⟩ := pTag_bd a
  have ha : 0 ≤ (pTag a + 1) % 1099511627776 := by omega
  have hb : (pTag a + 1) % 1099511627776 < 1099511627776 := by omega
  have hc : 0 ≤ i % 1048576 := by omega
  have hd : i % 1048576 < 1048576 := by omega
  have he : 0 ≤ m % 2 := by omega
  have hf : m % 2 < 2 := by omega
  go_enter Try.func36, Try.ntmps36
  go_wp2_with (first
    | (go_at_call 53; refine (rtag_any _ _).mono ?_; rintro e w' ⟨rfl, rfl⟩)
    | (go_at_call 52; refine (mod_any _ _ _ (by omega) (by omega)).mono ?_; rintro e w' ⟨rfl, rfl⟩))
  go_ret
  exact ⟨rfl, rfl⟩
end Pk
end Go.Proofs.Ytiakabnfjegeeaa

/- Small contracts of layer 4: places, links, words, which ops these are, a system with another arena. -/
namespace Go.Proofs.Ytiakabnfjegeeaa
open Go.RowKit
set_option linter.unusedVariables false
set_option linter.unusedSimpArgs false

theorem at_w (i k : Int) (w : World) : Calls Try.prog 85 #[.int .i64 i, .int .i64 k] w fun e w' => e = .returned (.int .i64 (wrap64 (124 + 4 * i + k))) ∧ w = w' := by
  go_enter Try.func85, Try.ntmps85
  go_wp2
  go_ret
  exact ⟨ret_int (wrap_at i k), rfl⟩
theorem rat_w (i k : Int) (w : World) : Calls Try.prog 33 #[.int .i64 i, .int .i64 k] w fun e w' => e = .returned (.int .i64 (wrap64 (124 + 4 * i + k))) ∧ w = w' := by
  go_enter Try.func33, Try.ntmps33
  go_wp2
  go_ret
  exact ⟨ret_int (wrap_at i k), rfl⟩
theorem rlink_any (i : Int) (w : World) : Calls Try.prog 33 #[.int .i64 i, .int .i64 0] w fun e w' => e = .returned (.int .i64 (pLink i)) ∧ w = w' := by
  have h := rat_w i 0 w
  rw [Int.add_zero] at h
  exact h
theorem link_any (i : Int) (w : World) : Calls Try.prog 67 #[.int .i64 i] w fun e w' => e = .returned (.int .i64 (pLink i)) ∧ w = w' := by
  have h := at_w i 0 w
  rw [Int.add_zero] at h
  have H := hid h
  clear h
  go_enter Try.func67, Try.ntmps67
  go_wp2_with (go_at_call 85; refine (H.out).mono ?_; rintro e wk ⟨rfl, rfl⟩)
  go_ret
  exact ⟨rfl, rfl⟩
theorem nodes4_any (A A' : Option Addr) (c c' : Nat) (m : Ar) (w : World) (h0 : m.G.length ≤ 1000000000) :
    Calls Try.prog 65 #[.agg #[.slice A m.W.length c, .slice A' m.G.length c', .bool m.bad]] w fun e w' => e = .returned (.int .i64 ((m.G.length : Int) - 1)) ∧ Below w.heap.size w w' := by
  go_enter Try.func65, Try.ntmps65
  go_wp2
  go_ret
  exact ⟨rfl, boxed _ _⟩
theorem own4_any (op : Int) (w : World) : Calls Try.prog 73 #[.int .i64 op] w fun e w' => e = .returned (.bool (op == 1 || op == 2)) ∧ w = w' := by
  rcases Bool.eq_false_or_eq_true (op == 1) with h | h
  · have H := hid h
    go_enter Try.func73, Try.ntmps73
    go_wp2
    go_ret
    exact ⟨by rw [H.out]; rfl, rfl⟩
  · have H := hid h
    go_enter Try.func73, Try.ntmps73
    go_wp2
    go_ret
    exact ⟨by rw [H.out]; simp, rfl⟩
theorem rmem3_any (A B C L A2 B2 : Option Addr) (a b c d a2 b2 : Nat) (s : Sy) (m : Ar) (w : World) (h : RS w s A B C L) (hW : Row w A2 m.W) (hG : Row w B2 m.G) :
    Calls Try.prog 30 #[.agg #[.slice A s.M.W.length a, .slice B s.M.G.length b, .bool s.M.bad, .slice C s.C.length c, .slice L s.L.length d], .agg #[.slice A2 m.W.length a2, .slice B2 m.G.length b2, .bool m.bad]] w fun e w' => e = .returned (.agg #[.slice A2 m.W.length a2, .slice B2 m.G.length b2, .bool m.bad, .slice C s.C.length c, .slice L s.L.length d]) ∧ RS w' (syMem s m) A2 B2 C L ∧ Below w.heap.size w w' := by
  go_enter Try.func30, Try.ntmps30
  go_wp2
  refine bodyPost_ret (v := .agg #[.slice A2 m.W.length a2, .slice B2 m.G.length b2, .bool m.bad, .slice C s.C.length c, .slice L s.L.length d]) (by simp [results, Try.results30, go_sem]) rfl ?_
  have key : ∀ w', Below w.heap.size w w' → RS w' (syMem s m) A2 B2 C L ∧ Below w.heap.size w w' := fun w' hb => ⟨⟨hW.step hb, hG.step hb, h.C.step hb, h.L.step hb⟩, hb⟩
  refine ⟨rfl, key _ ?_⟩
  exact bstep (bstep (boxed _ _) (boxed _ _)) (boxed _ _)
end Go.Proofs.Ytiakabnfjegeeaa

/- A filled arena, and its list: plain mathematics. No Go text. -/
namespace Go.Proofs.Ytiakabnfjegeeaa
open Go.RowKit
set_option linter.unusedVariables false

/-- The words of a right arena. -/
structure Rt (m : Ar) : Prop where
  g2 : 2 ≤ m.G.length
  g3 : m.G.length ≤ 201
  w : m.W.length + 4 = 128 + 4 * m.G.length
theorem Rt.of {m : Ar} (h : mRight m = true) : Rt m := by
  obtain ⟨a, b, c, _⟩ := mRight_out h
  exact ⟨a, b, c⟩
theorem mStore_in {m : Ar} {k : Nat} (h : k < m.W.length) (v : Int) : (mStore m (k : Int) v).W = m.W.set k v := by
  unfold mStore mIn
  dsimp only
  rw [decide_eq_true ⟨by omega, by omega⟩]
  simp
theorem mBad_link {m : Ar} {k : Nat} (h : k < m.W.length) (h4 : k < 128 ∨ k % 4 = 0) : mBad m (k : Int) = m.bad := by
  have e : mNode m.G (k : Int) = 0 := by
    unfold mNode
    rw [if_neg (by omega)]
  unfold mBad mIn
  rw [e, decide_eq_true ⟨by omega, by omega⟩]
  simp
theorem mStore_bad {m : Ar} {k : Nat} (h : k < m.W.length) (h4 : k < 128 ∨ k % 4 = 0) (v : Int) : (mStore m (k : Int) v).bad = m.bad := mBad_link h h4
theorem mVal_in {m : Ar} {k : Nat} (h : k < m.W.length) : mVal m (k : Int) = m.W.getD k 0 := by
  unfold mVal mIn
  rw [decide_eq_true ⟨by omega, by omega⟩]
  simp

/-- What a filled arena's words are, up to the link of node k. -/
def fw (m : Ar) (k j : Nat) : Option Int := if 128 ≤ j ∧ j ≤ 124 + 4 * k ∧ j % 4 = 0 then some (((j - 124) / 4 : Nat) + 1 : Int) else m.W[j]?
theorem fillTo_W {m : Ar} (h : Rt m) : ∀ k, k + 2 ≤ m.G.length → (∀ j, (pFillTo m k).W[j]? = fw m k j) ∧ (pFillTo m k).bad = m.bad
  | 0, _ => ⟨fun j => by unfold fw pFillTo; rw [if_neg (by omega)], rfl⟩
  | k + 1, hk => by
    obtain ⟨h1, h2⟩ := fillTo_W h k (by omega)
    have hl := (pFillTo_len m k).1
    have hw := h.w
    have e : (124 + 4 * ((k : Int) + 1)) = ((128 + 4 * k : Nat) : Int) := by omega
    have hlt : 128 + 4 * k < (pFillTo m k).W.length := by omega
    unfold pFillTo
    rw [e]
    refine ⟨fun j => ?_, (mStore_bad hlt (by omega) _).trans h2⟩
    rw [mStore_in hlt, List.getElem?_set]
    by_cases q : 128 + 4 * k = j
    · subst q
      unfold fw
      rw [if_pos rfl, if_pos (by omega), if_pos (by omega)]
      congr 1
      omega
    · rw [if_neg q, h1 j]
      unfold fw
      by_cases q2 : 128 ≤ j ∧ j ≤ 124 + 4 * k ∧ j % 4 = 0
      · rw [if_pos q2, if_pos (by omega)]
      · rw [if_neg q2, if_neg (by omega)]
/-- The words of a filled arena. -/
def gw (m : Ar) (j : Nat) : Option Int := if j = 0 then some 2 else if j = 120 + 4 * m.G.length then some 0 else fw m (m.G.length - 2) j
theorem fill_W {m : Ar} (h : Rt m) : (∀ j, (pFill m).W[j]? = gw m j) ∧ (pFill m).bad = m.bad := by
  have hw := h.w
  have h2 := h.g2
  obtain ⟨h1, hb⟩ := fillTo_W h (m.G.length - 2) (by omega)
  have hl := (pFillTo_len m (m.G.length - 2)).1
  have e : (124 + 4 * ((m.G.length : Int) - 1)) = ((120 + 4 * m.G.length : Nat) : Int) := by omega
  have hlt : 120 + 4 * m.G.length < (pFillTo m (m.G.length - 2)).W.length := by omega
  unfold pFill
  rw [e]
  obtain ⟨t, ht⟩ : ∃ t, t = mStore (pFillTo m (m.G.length - 2)) ((120 + 4 * m.G.length : Nat) : Int) 0 := ⟨_, rfl⟩
  rw [← ht]
  have tl : t.W.length = m.W.length := by rw [ht]; exact (mStore_len _ _ _).1.trans hl
  have tb : t.bad = m.bad := by rw [ht]; exact (mStore_bad hlt (by omega) _).trans hb
  have tw : ∀ j, t.W[j]? = if j = 120 + 4 * m.G.length then some 0 else fw m (m.G.length - 2) j := fun j => by
    rw [ht, mStore_in hlt, List.getElem?_set]
    by_cases q : 120 + 4 * m.G.length = j
    · subst q; rw [if_pos rfl, if_pos (by omega), if_pos rfl]
    · rw [if_neg q, if_neg (fun e => q e.symm), h1 j]
  have h0 : (0 : Nat) < t.W.length := by omega
  refine ⟨fun j => ?_, ?_⟩
  · have := mStore_in (m := t) (k := 0) h0 2
    rw [show ((0 : Nat) : Int) = 0 from rfl] at this
    rw [this, List.getElem?_set]
    unfold gw
    by_cases q : 0 = j
    · subst q; rw [if_pos rfl, if_pos (by omega), if_pos rfl]
    · rw [if_neg q, if_neg (fun e => q e.symm), tw j]
  · have := mStore_bad (m := t) (k := 0) h0 (by omega) 2
    rw [show ((0 : Nat) : Int) = 0 from rfl] at this
    exact this.trans tb
theorem Rt.fill {m : Ar} (h : Rt m) : Rt (pFill m) := by
  have e := pFill_len m
  exact ⟨by rw [e.2]; exact h.g2, by rw [e.2]; exact h.g3, by rw [e.1, e.2]; exact h.w⟩
theorem fill_twice {m : Ar} (h : Rt m) : pFill (pFill m) = pFill m := by
  have e := pFill_len m
  have f := pFill_len (pFill m)
  have a := fill_W h
  have b := fill_W h.fill
  have eW : (pFill (pFill m)).W = (pFill m).W := by
    apply List.ext_getElem?
    intro j
    rw [b.1 j]
    unfold gw
    rw [e.2]
    by_cases q0 : j = 0
    · rw [if_pos q0, a.1 j]; unfold gw; rw [if_pos q0]
    · rw [if_neg q0]
      by_cases q1 : j = 120 + 4 * m.G.length
      · rw [if_pos q1, a.1 j]; unfold gw; rw [if_neg q0, if_pos q1]
      · rw [if_neg q1]
        unfold fw
        by_cases q2 : 128 ≤ j ∧ j ≤ 124 + 4 * (m.G.length - 2) ∧ j % 4 = 0
        · rw [if_pos q2, a.1 j]; unfold gw; rw [if_neg q0, if_neg q1]; unfold fw; rw [if_pos q2]
        · rw [if_neg q2]
  have eG : (pFill (pFill m)).G = (pFill m).G := f.2
  have eb : (pFill (pFill m)).bad = (pFill m).bad := b.2
  cases hA : pFill (pFill m)
  cases hB : pFill m
  rw [hA, hB] at eW eG eb
  simp only at eW eG eb
  subst eW eG eb
  rfl

/-- The numbers 1 to k. -/
def upTo (k : Nat) : List Int := (List.range k).map (fun (i : Nat) => (i : Int) + 1)
theorem upTo_succ (k : Nat) : upTo (k + 1) = upTo k ++ [(k : Int) + 1] := by simp [upTo, List.range_succ]
theorem upTo_len (k : Nat) : (upTo k).length = k := by simp [upTo]
theorem upTo_mem {k : Nat} {x : Int} (h : x ∈ upTo k) : 1 ≤ x ∧ x ≤ k := by
  unfold upTo at h
  obtain ⟨i, hi, rfl⟩ := List.mem_map.1 h
  have := List.mem_range.1 hi
  omega
theorem upTo_at {k i : Nat} (h : i < k) : (upTo k)[i]? = some ((i : Int) + 1) := by simp [upTo, h]

theorem fill_val0 {m : Ar} (h : Rt m) : mVal (pFill m) 0 = 2 := by
  have e := pFill_len m
  have hw := h.w
  have h2 := h.g2
  have := mVal_in (m := pFill m) (k := 0) (by omega)
  rw [show ((0 : Nat) : Int) = 0 from rfl] at this
  rw [this, List.getD_eq_getElem?_getD, (fill_W h).1 0]
  rfl
theorem fill_link {m : Ar} (h : Rt m) {i : Nat} (h1 : 1 ≤ i) (h2 : i + 1 ≤ m.G.length) : mVal (pFill m) (pLink (i : Int)) = if i + 1 = m.G.length then 0 else (i : Int) + 1 := by
  have e := pFill_len m
  have hw := h.w
  have hg := h.g3
  have e1 : pLink (i : Int) = ((124 + 4 * i : Nat) : Int) := by rw [pLink_in (by omega) (by omega)]; omega
  rw [e1, mVal_in (by omega), List.getD_eq_getElem?_getD, (fill_W h).1]
  unfold gw
  rw [if_neg (by omega)]
  by_cases q : i + 1 = m.G.length
  · rw [if_pos (by omega), if_pos q]; rfl
  · rw [if_neg (by omega), if_neg q]
    unfold fw
    rw [if_pos (by omega)]
    simp only [Option.getD_some]
    omega
theorem fill_at {m : Ar} (h : Rt m) : ∀ k, k + 1 ≤ m.G.length → WalkAt (pFill m) (if k + 1 = m.G.length then 0 else (k : Int) + 1) (upTo k)
  | 0, _ => by
    have h2 := h.g2
    rw [if_neg (by omega)]
    have := WalkAt.start (pFill m)
    rw [fill_val0 h] at this
    exact this
  | k + 1, hk => by
    have ih := fill_at h k (by omega)
    rw [if_neg (by omega)] at ih
    have e := pFill_len m
    have := ih.next (by omega) (by rw [e.2]; omega) (fun hm => by have := upTo_mem hm; omega)
    rw [show ((k : Int) + 1) = ((k + 1 : Nat) : Int) by omega, fill_link h (by omega) (by omega)] at this
    rw [upTo_succ, show ((k : Int) + 1) = ((k + 1 : Nat) : Int) by omega]
    exact this
theorem fill_walk {m : Ar} (h : Rt m) : pWalk (pFill m) = some (upTo (m.G.length - 1)) := by
  have h2 := h.g2
  have := fill_at h (m.G.length - 1) (by omega)
  rw [if_pos (by omega)] at this
  exact this.done
theorem mem_at {l : List Int} {x : Int} (h : x ∈ l) : ∃ j : Nat, l[j]? = some x := by
  obtain ⟨j, hj, e⟩ := List.getElem_of_mem h
  exact ⟨j, by rw [List.getElem?_eq_getElem hj, e]⟩
theorem fill_in {m : Ar} (h : Rt m) (hm : ∀ x ∈ m.W, -9223372036854775808 ≤ x ∧ x ≤ 9223372036854775807) : ∀ x ∈ (pFill m).W, -9223372036854775808 ≤ x ∧ x ≤ 9223372036854775807 := fun x hx => by
  obtain ⟨j, hj⟩ := mem_at hx
  have hg := h.g3
  rw [(fill_W h).1 j] at hj
  unfold gw fw at hj
  split at hj
  · injection hj with hj; omega
  · split at hj
    · injection hj with hj; omega
    · split at hj
      · next q => injection hj with hj; omega
      · exact hm x (List.mem_of_getElem? hj)
theorem walk_from_few {m : Ar} : ∀ (n : Nat) (p : Int) (out l : List Int), pWalkFrom m n p out = some l → l.length ≤ out.length + n
  | 0, p, out, l, h => by
    unfold pWalkFrom at h
    split at h
    · injection h with h; subst h; omega
    · cases h
  | n + 1, p, out, l, h => by
    unfold pWalkFrom at h
    split at h
    · injection h with h; subst h; omega
    · split at h
      · cases h
      · have := walk_from_few n _ _ l h
        simp at this
        omega
theorem walk_few {m : Ar} {l : List Int} (h : pWalk m = some l) : l.length ≤ m.G.length := by
  have := walk_from_few _ _ _ _ h
  simpa using this
end Go.Proofs.Ytiakabnfjegeeaa
