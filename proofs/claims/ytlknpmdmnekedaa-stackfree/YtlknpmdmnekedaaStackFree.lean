/- For every struct of two bytes, a row of 16-bit picks and four bytes, the law StackFree (of cores that are all at pops and pushes at least one ends within four steps of each, in whatever order they are picked, turn by turn) returns true, and the arguments read afterwards as before. No conditions. -/
import Derived.Test.YtlknpmdmnekedaaRows
import Derived.Test.YtlknpmdmnekedaaKSho
import Derived.Test.YtlknpmdmnekedaaOpenP
import Derived.Test.YtlknpmdmnekedaaStkX
import Derived.Test.YtlknpmdmnekedaaKBas
namespace Go.Proofs.Ytlknpmdmnekedaa
namespace StackFree
open Go.ChangeShapes Go.WideShapes Go.ChangeAt Go.RowKit
set_option linter.unusedVariables false
set_option linter.unusedSimpArgs false

/-- The system lies at block v, the turns at block vT. -/
structure FHold (w0 : World) (v vT : Nat) (tz : Array Value) (s : Sy) (A B C L : Option Addr) (a b e d : Nat) (wr : World) : Prop where
  sv : wr.heap[v]? = some (.cells #[.slice A s.M.W.length a, .slice B s.M.G.length b, .bool s.M.bad, .slice C s.C.length e, .slice L s.L.length d] 30 (0, 0))
  rs : RS wr s A B C L
  tv : wr.heap[vT]? = some (.cells tz 54 (0, 0))
  be : Below w0.heap.size w0 wr
theorem ty_ne : (30 : Nat) ≠ 54 := by decide
theorem FHold.ne {w0 wr : World} {v vT : Nat} {tz : Array Value} {s : Sy} {A B C L : Option Addr} {a b e d : Nat} (h : FHold w0 v vT tz s A B C L a b e d wr) : vT ≠ v := fun q => by
  have h1 := h.sv
  have h2 := h.tv
  rw [q] at h2
  rw [h2] at h1
  injection h1 with h1
  injection h1 with _ e2
  exact ty_ne e2.symm
theorem FHold.step {w0 wr w' : World} {v vT : Nat} {tz : Array Value} {s : Sy} {A B C L : Option Addr} {a b e d : Nat} (h : FHold w0 v vT tz s A B C L a b e d wr) (hb : Below wr.heap.size wr w') : FHold w0 v vT tz s A B C L a b e d w' :=
  ⟨(hb.block v (heap_lt h.sv)).trans h.sv, h.rs.step hb, (hb.block vT (heap_lt h.tv)).trans h.tv, bstep h.be hb⟩
theorem FHold.put {w0 wr wk : World} {v vT : Nat} {tz : Array Value} {s t : Sy} {A B C L A9 B9 C9 L9 : Option Addr} {a b e d : Nat} (h : FHold w0 v vT tz s A B C L a b e d wr) (hv : w0.heap.size ≤ v) (a9 b9 c9 d9 : Nat) (hk : Below wr.heap.size wr wk) (rW : Row wk A9 t.M.W) (rG : Row wk B9 t.M.G) (rC : RowC wk C9 t.C) (rL : RowE wk L9 t.L) :
    FHold w0 v vT tz t A9 B9 C9 L9 a9 b9 c9 d9 (((((wk.setCell ⟨v, 0, none⟩ (.slice A9 t.M.W.length a9)).setCell ⟨v, 1, none⟩ (.slice B9 t.M.G.length b9)).setCell ⟨v, 2, none⟩ (.bool t.M.bad)).setCell ⟨v, 3, none⟩ (.slice C9 t.C.length c9)).setCell ⟨v, 4, none⟩ (.slice L9 t.L.length d9)) := by
  have h2 := h.step hk
  exact ⟨blk5 h2.sv _ _ _ _ _, (RS.mk rW rG rC rL).turnN (turn5 _ _ _ _ _ _ _) (noInt_sys h2.sv), ((turn5 _ _ _ _ _ _ _).block vT (heap_lt h2.tv) h.ne).trans h2.tv, h2.be.trans ((turn5 _ _ _ _ _ _ _).to_below h2.be.size (fun g hg => by rw [hg]; exact hv))⟩
def FHas (w0 : World) (v vT : Nat) (tz : Array Value) (s : Sy) (wr : World) : Prop := ∃ A B C L a b e d, FHold w0 v vT tz s A B C L a b e d wr
def RO (w0 : World) (v vT : Nat) (tz : Array Value) (c n m : Nat) (x z : Value) (wr : World) : Prop := ∃ (k : Nat) (eb : Bool) (s : Sy), k ≤ 4 ∧ x = .bool eb ∧ z = .int .i64 (k : Int) ∧ FHas w0 v vT tz s wr ∧ FInv c n (m + 8 * k) s ∧ (eb = false → ROut c k s)
def RJ (w0 : World) (v vT : Nat) (tz : Array Value) (c n m tN k : Nat) (x z : Value) (wr : World) : Prop := ∃ (i : Nat) (eb : Bool) (s : Sy), i ≤ c ∧ x = .bool eb ∧ z = .int .i64 (i : Int) ∧ FHas w0 v vT tz s wr ∧ FInv c n (m + 8 * k + i) s ∧ (eb = false → RIn c tN k i s)
def RA (w0 : World) (v vT : Nat) (tz : Array Value) (s : Sy) (c : Nat) (x z : Value) (wr : World) : Prop := ∃ (i : Nat) (eb : Bool), i ≤ c ∧ x = .bool eb ∧ z = .int .i64 (i : Int) ∧ FHas w0 v vT tz s wr ∧ (eb = false → ∀ (j : Nat) (x : Co), j < i → s.C[j]? = some x → x.F ≠ [])
theorem top_ne {s : Sy} {j : Nat} {f : Fr} (h : pTop s (j : Int) = some f) (x : Co) (hx : s.C[j]? = some x) : x.F ≠ [] := by
  obtain ⟨k, n, y, e, hy, hn, _⟩ := pTop_out h
  have : k = j := by omega
  subst this
  rw [hy] at hx
  injection hx with hx
  subst hx
  intro q
  rw [q] at hn
  simp at hn
theorem turn_at (z0 z1 z2 z3 : Int) (k : Nat) (hk : k < 4) (g0 : 0 ≤ z0 ∧ z0 ≤ 255) (g1 : 0 ≤ z1 ∧ z1 ≤ 255) (g2 : 0 ≤ z2 ∧ z2 ≤ 255) (g3 : 0 ≤ z3 ∧ z3 ≤ 255) : ∃ tN : Nat, tN ≤ 255 ∧ (#[.int .u8 z0, .int .u8 z1, .int .u8 z2, .int .u8 z3] : Array Value)[k]? = some (.int .u8 (tN : Int)) := by
  match k, hk with
  | 0, _ => exact ⟨z0.toNat, by omega, by simp; omega⟩
  | 1, _ => exact ⟨z1.toNat, by omega, by simp; omega⟩
  | 2, _ => exact ⟨z2.toNat, by omega, by simp; omega⟩
  | 3, _ => exact ⟨z3.toNat, by omega, by simp; omega⟩
theorem own : ownKnob Try.prog.godebug = none := by kernel_rfl
set_option maxRecDepth 100000 in
set_option maxHeartbeats 16000000 in
theorem walk_many (x0 x1 : Int) (AP : Option Addr) (us : List Nat) (cp : Nat) (z0 z1 z2 z3 : Int) (w0 : World) (hP : RowU w0 AP us) (u0 : 0 ≤ x0) (u1 : x0 ≤ 255) (u2 : 0 ≤ x1) (u3 : x1 ≤ 255) (g0 : 0 ≤ z0 ∧ z0 ≤ 255) (g1 : 0 ≤ z1 ∧ z1 ≤ 255) (g2 : 0 ≤ z2 ∧ z2 ≤ 255) (g3 : 0 ≤ z3 ∧ z3 ≤ 255) (hlen : 200 < us.length) :
    Calls Try.prog 5 #[.agg #[.int .u8 x0, .int .u8 x1, .slice AP us.length cp, .int .u8 z0, .int .u8 z1, .int .u8 z2, .int .u8 z3]] w0 fun e w' => e = .returned (.bool true) ∧ Below w0.heap.size w0 w' := by
  have hb : Below w0.heap.size w0 w0 := Below.refl _ _
  obtain ⟨c, hc⟩ : ∃ n : Nat, 1 + x0 % 8 = (n : Int) := ⟨(1 + x0 % 8).toNat, by omega⟩
  have c1 : 1 ≤ c := by omega
  have c2 : c ≤ 8 := by omega
  obtain ⟨n, hn⟩ : ∃ n : Nat, 1 + x1 % 12 = (n : Int) := ⟨(1 + x1 % 12).toNat, by omega⟩
  have n1 : 1 ≤ n := by omega
  have n2 : n ≤ 200 := by omega
  go_enter Try.func5, Try.ntmps5
  go_upto_region 1 with (fail)
  have Bk9 := heap_alloc_new w0 (.cells #[.int .u8 x0, .int .u8 x1, .slice AP us.length cp, .int .u8 z0, .int .u8 z1, .int .u8 z2, .int .u8 z3] 56)
  have lt9 : w0.heap.size < (w0.alloc (.cells #[.int .u8 x0, .int .u8 x1, .slice AP us.length cp, .int .u8 z0, .int .u8 z1, .int .u8 z2, .int .u8 z3] 56)).heap.size := by simp
  have hk : Below w0.heap.size w0 (w0.alloc (.cells #[.int .u8 x0, .int .u8 x1, .slice AP us.length cp, .int .u8 z0, .int .u8 z1, .int .u8 z2, .int .u8 z3] 56)) := boxed _ _
  replace hP := hP.step hk
  replace hb := bstep hb hk
  clear hk
  obtain ⟨v9, hv⟩ : ∃ v, w0.heap.size = v := ⟨_, rfl⟩
  rw [hv] at Bk9 lt9 ⊢
  clear hv
  generalize (w0.alloc (.cells #[.int .u8 x0, .int .u8 x1, .slice AP us.length cp, .int .u8 z0, .int .u8 z1, .int .u8 z2, .int .u8 z3] 56)) = w1 at *
  have m9_0 : w1.cell? ⟨v9, 0, none⟩ = some (.int .u8 x0) := cell_of_row w1 _ 0 _ _ _ Bk9
  have m9_1 : w1.cell? ⟨v9, 1, none⟩ = some (.int .u8 x1) := cell_of_row w1 _ 1 _ _ _ Bk9
  have m9_2 : w1.cell? ⟨v9, 2, none⟩ = some (.slice AP us.length cp) := cell_of_row w1 _ 2 _ _ _ Bk9
  have m9_3 : w1.cell? ⟨v9, 3, none⟩ = some (.int .u8 z0) := cell_of_row w1 _ 3 _ _ _ Bk9
  have m9_4 : w1.cell? ⟨v9, 4, none⟩ = some (.int .u8 z1) := cell_of_row w1 _ 4 _ _ _ Bk9
  have m9_5 : w1.cell? ⟨v9, 5, none⟩ = some (.int .u8 z2) := cell_of_row w1 _ 5 _ _ _ Bk9
  have m9_6 : w1.cell? ⟨v9, 6, none⟩ = some (.int .u8 z3) := cell_of_row w1 _ 6 _ _ _ Bk9
  go_upto_region 5 with (fail)
  clear m9_0 m9_1 m9_2 m9_3 m9_4 m9_5 m9_6
  have BkT := heap_alloc_new w1 (.cells #[.int .u8 z0, .int .u8 z1, .int .u8 z2, .int .u8 z3] 54)
  have ltT : w1.heap.size < (w1.alloc (.cells #[.int .u8 z0, .int .u8 z1, .int .u8 z2, .int .u8 z3] 54)).heap.size := by simp
  have hk : Below w1.heap.size w1 (w1.alloc (.cells #[.int .u8 z0, .int .u8 z1, .int .u8 z2, .int .u8 z3] 54)) := boxed _ _
  replace Bk9 := (hk.block v9 lt9).trans Bk9
  replace lt9 := Nat.lt_of_lt_of_le lt9 hk.size
  replace hP := hP.step hk
  replace hb := bstep hb hk
  clear hk
  obtain ⟨vT, hv⟩ : ∃ v, w1.heap.size = v := ⟨_, rfl⟩
  rw [hv] at BkT ltT ⊢
  clear hv
  generalize (w1.alloc (.cells #[.int .u8 z0, .int .u8 z1, .int .u8 z2, .int .u8 z3] 54)) = w2 at *
  go_wp2_with fail
  refine (shown4_any _).mono ?_
  rintro e w3 ⟨rfl, hk⟩
  replace Bk9 := (hk.block v9 lt9).trans Bk9
  replace lt9 := Nat.lt_of_lt_of_le lt9 hk.size
  replace BkT := (hk.block vT ltT).trans BkT
  replace ltT := Nat.lt_of_lt_of_le ltT hk.size
  replace hP := hP.step hk
  replace hb := bstep hb hk
  clear hk
  clear Bk9 lt9
  have hlq : (200 : Int) < (us.length : Int) := by omega
  go_wp2_with fail
  go_ret
  exact ⟨rfl, hb⟩

set_option maxRecDepth 100000 in
set_option maxHeartbeats 16000000 in
theorem walk_few (x0 x1 : Int) (AP : Option Addr) (us : List Nat) (cp : Nat) (z0 z1 z2 z3 : Int) (w0 : World) (hP : RowU w0 AP us) (u0 : 0 ≤ x0) (u1 : x0 ≤ 255) (u2 : 0 ≤ x1) (u3 : x1 ≤ 255) (g0 : 0 ≤ z0 ∧ z0 ≤ 255) (g1 : 0 ≤ z1 ∧ z1 ≤ 255) (g2 : 0 ≤ z2 ∧ z2 ≤ 255) (g3 : 0 ≤ z3 ∧ z3 ≤ 255) (hlen : us.length ≤ 200) :
    Calls Try.prog 5 #[.agg #[.int .u8 x0, .int .u8 x1, .slice AP us.length cp, .int .u8 z0, .int .u8 z1, .int .u8 z2, .int .u8 z3]] w0 fun e w' => e = .returned (.bool true) ∧ Below w0.heap.size w0 w' := by
  have hb : Below w0.heap.size w0 w0 := Below.refl _ _
  obtain ⟨c, hc⟩ : ∃ n : Nat, 1 + x0 % 8 = (n : Int) := ⟨(1 + x0 % 8).toNat, by omega⟩
  have c1 : 1 ≤ c := by omega
  have c2 : c ≤ 8 := by omega
  obtain ⟨n, hn⟩ : ∃ n : Nat, 1 + x1 % 12 = (n : Int) := ⟨(1 + x1 % 12).toNat, by omega⟩
  have n1 : 1 ≤ n := by omega
  have n2 : n ≤ 200 := by omega
  go_enter Try.func5, Try.ntmps5
  go_upto_region 1 with (fail)
  have Bk9 := heap_alloc_new w0 (.cells #[.int .u8 x0, .int .u8 x1, .slice AP us.length cp, .int .u8 z0, .int .u8 z1, .int .u8 z2, .int .u8 z3] 56)
  have lt9 : w0.heap.size < (w0.alloc (.cells #[.int .u8 x0, .int .u8 x1, .slice AP us.length cp, .int .u8 z0, .int .u8 z1, .int .u8 z2, .int .u8 z3] 56)).heap.size := by simp
  have hk : Below w0.heap.size w0 (w0.alloc (.cells #[.int .u8 x0, .int .u8 x1, .slice AP us.length cp, .int .u8 z0, .int .u8 z1, .int .u8 z2, .int .u8 z3] 56)) := boxed _ _
  replace hP := hP.step hk
  replace hb := bstep hb hk
  clear hk
  obtain ⟨v9, hv⟩ : ∃ v, w0.heap.size = v := ⟨_, rfl⟩
  rw [hv] at Bk9 lt9 ⊢
  clear hv
  generalize (w0.alloc (.cells #[.int .u8 x0, .int .u8 x1, .slice AP us.length cp, .int .u8 z0, .int .u8 z1, .int .u8 z2, .int .u8 z3] 56)) = w1 at *
  have m9_0 : w1.cell? ⟨v9, 0, none⟩ = some (.int .u8 x0) := cell_of_row w1 _ 0 _ _ _ Bk9
  have m9_1 : w1.cell? ⟨v9, 1, none⟩ = some (.int .u8 x1) := cell_of_row w1 _ 1 _ _ _ Bk9
  have m9_2 : w1.cell? ⟨v9, 2, none⟩ = some (.slice AP us.length cp) := cell_of_row w1 _ 2 _ _ _ Bk9
  have m9_3 : w1.cell? ⟨v9, 3, none⟩ = some (.int .u8 z0) := cell_of_row w1 _ 3 _ _ _ Bk9
  have m9_4 : w1.cell? ⟨v9, 4, none⟩ = some (.int .u8 z1) := cell_of_row w1 _ 4 _ _ _ Bk9
  have m9_5 : w1.cell? ⟨v9, 5, none⟩ = some (.int .u8 z2) := cell_of_row w1 _ 5 _ _ _ Bk9
  have m9_6 : w1.cell? ⟨v9, 6, none⟩ = some (.int .u8 z3) := cell_of_row w1 _ 6 _ _ _ Bk9
  go_upto_region 5 with (fail)
  clear m9_0 m9_1 m9_2 m9_3 m9_4 m9_5 m9_6
  have BkT := heap_alloc_new w1 (.cells #[.int .u8 z0, .int .u8 z1, .int .u8 z2, .int .u8 z3] 54)
  have ltT : w1.heap.size < (w1.alloc (.cells #[.int .u8 z0, .int .u8 z1, .int .u8 z2, .int .u8 z3] 54)).heap.size := by simp
  have hk : Below w1.heap.size w1 (w1.alloc (.cells #[.int .u8 z0, .int .u8 z1, .int .u8 z2, .int .u8 z3] 54)) := boxed _ _
  replace Bk9 := (hk.block v9 lt9).trans Bk9
  replace lt9 := Nat.lt_of_lt_of_le lt9 hk.size
  replace hP := hP.step hk
  replace hb := bstep hb hk
  clear hk
  obtain ⟨vT, hv⟩ : ∃ v, w1.heap.size = v := ⟨_, rfl⟩
  rw [hv] at BkT ltT ⊢
  clear hv
  generalize (w1.alloc (.cells #[.int .u8 z0, .int .u8 z1, .int .u8 z2, .int .u8 z3] 54)) = w2 at *
  go_wp2_with fail
  refine (shown4_any _).mono ?_
  rintro e w3 ⟨rfl, hk⟩
  replace Bk9 := (hk.block v9 lt9).trans Bk9
  replace lt9 := Nat.lt_of_lt_of_le lt9 hk.size
  replace BkT := (hk.block vT ltT).trans BkT
  replace ltT := Nat.lt_of_lt_of_le ltT hk.size
  replace hP := hP.step hk
  replace hb := bstep hb hk
  clear hk
  clear Bk9 lt9
  have hlq : ¬ (200 : Int) < (us.length : Int) := by omega
  obtain ⟨y, hy⟩ : ∃ y, y = pPlay c n us := ⟨_, rfl⟩
  have HP := hid (show ∀ w, RowU w AP us → Calls Try.prog 12 #[.int .i64 (c : Int), .int .i64 (n : Int), .slice AP us.length cp] w (RetPlay w y) from fun w h => by rw [hy]; exact play_any c n us AP cp w c1 c2 n1 n2 (by omega) h)
  have hI := PInv.play n1 n2 c1 c2 us us.length (Nat.le_refl _) (by omega)
  have hAl := alive_play n1 n2 c1 us (by omega)
  rw [List.take_length, ← hy] at hI
  rw [← hy] at hAl
  have HI := hid hI
  have HAL := hid hAl
  clear hI hAl hy
  go_upto_region 10 with (go_at_call 12; (with_reducible refine (HP.out _ hP).mono ?_); rintro e w4 ⟨A5, B5, C5, L5, a5, b5, c5, d5, g5, qs5, rfl, S5, O5, hk⟩)
  replace BkT := (hk.block vT ltT).trans BkT
  replace ltT := Nat.lt_of_lt_of_le ltT hk.size
  replace hP := hP.step hk
  replace hb := bstep hb hk
  clear hk
  have Bk5 := heap_alloc_new w4 (.cells #[.slice A5 y.s.M.W.length a5, .slice B5 y.s.M.G.length b5, .bool y.s.M.bad, .slice C5 y.s.C.length c5, .slice L5 y.s.L.length d5] 30)
  have lt5 : w4.heap.size < (w4.alloc (.cells #[.slice A5 y.s.M.W.length a5, .slice B5 y.s.M.G.length b5, .bool y.s.M.bad, .slice C5 y.s.C.length c5, .slice L5 y.s.L.length d5] 30)).heap.size := by simp
  have hk : Below w4.heap.size w4 (w4.alloc (.cells #[.slice A5 y.s.M.W.length a5, .slice B5 y.s.M.G.length b5, .bool y.s.M.bad, .slice C5 y.s.C.length c5, .slice L5 y.s.L.length d5] 30)) := boxed _ _
  have nw5 : w0.heap.size ≤ w4.heap.size := hb.size
  replace BkT := (hk.block vT ltT).trans BkT
  replace ltT := Nat.lt_of_lt_of_le ltT hk.size
  replace hP := hP.step hk
  replace S5 := S5.step hk
  replace hb := bstep hb hk
  clear hk
  obtain ⟨v5, hv⟩ : ∃ v, w4.heap.size = v := ⟨_, rfl⟩
  replace nw5 := Nat.le_trans nw5 (Nat.le_of_eq hv)
  rw [hv] at Bk5 lt5 ⊢
  clear hv
  generalize (w4.alloc (.cells #[.slice A5 y.s.M.W.length a5, .slice B5 y.s.M.G.length b5, .bool y.s.M.bad, .slice C5 y.s.C.length c5, .slice L5 y.s.L.length d5] 30)) = w5 at *
  clear HP hlq
  have HH : FHas w0 v5 vT #[.int .u8 z0, .int .u8 z1, .int .u8 z2, .int .u8 z3] y.s w5 := ⟨_, _, _, _, _, _, _, _, Bk5, S5, BkT, hb⟩
  have F0 : FInv c n us.length y.s := ⟨⟨_, HI.out.ti⟩, HI.out.ok⟩
  have HF0 := hid F0
  clear hP S5 Bk5 lt5 BkT ltT hb F0
  obtain ⟨tz, htz⟩ : ∃ t, t = (#[.int .u8 z0, .int .u8 z1, .int .u8 z2, .int .u8 z3] : Array Value) := ⟨_, rfl⟩
  have HTZ := hid htz
  rw [← htz] at HH
  clear htz
  go_wp2_with fail
  go_loopw [12, 13] (fun x z wr => RA w0 v5 vT tz y.s c x z wr) (fun _ z _ => c - (intOf z).toNat)
  case atStart => exact ⟨0, false, by omega, rfl, rfl, HH, fun _ j x hj => by omega⟩
  case round =>
    clear HH
    obtain ⟨i, eb, hi, rfl, rfl, ⟨A, B, C, L, a, b, e, d, H⟩, hR⟩ := hrel
    have HR := hid hR
    clear hR
    by_cases hic : i < c
    · have il : (i : Int) < (c : Int) := by omega
      have i0 : 0 ≤ (i : Int) := by omega
      have cb : (c : Int) ≤ 8 := by omega
      rcases pTop_cases y.s (i : Int) HI.out.ok.few H.rs.C with hp | ⟨op, pc, r0, r1, r2, r3, r4, r5, r6, r7, xs, hp, h6⟩
      · have HT := hid (show ∀ w, RS w y.s A B C L → Calls Try.prog 14 #[.agg #[.slice A y.s.M.W.length a, .slice B y.s.M.G.length b, .bool y.s.M.bad, .slice C y.s.C.length e, .slice L y.s.L.length d], .int .i64 (i : Int)] w _ from fun w k1 => rtop_no A B C L a b e d y.s (i : Int) w HI.out.ok.few k1 hp)
        have HV := hid (show (true : Bool) = false → ∀ (j : Nat) (x : Co), j < i + 1 → y.s.C[j]? = some x → x.F ≠ [] from fun h => by cases h)
        clear hp HR
        have p0 : wr.cell? ⟨v5, 0, none⟩ = some (.slice A y.s.M.W.length a) := cell_of_row wr _ 0 _ _ _ H.sv
        have p1 : wr.cell? ⟨v5, 1, none⟩ = some (.slice B y.s.M.G.length b) := cell_of_row wr _ 1 _ _ _ H.sv
        have p2 : wr.cell? ⟨v5, 2, none⟩ = some (.bool y.s.M.bad) := cell_of_row wr _ 2 _ _ _ H.sv
        have p3 : wr.cell? ⟨v5, 3, none⟩ = some (.slice C y.s.C.length e) := cell_of_row wr _ 3 _ _ _ H.sv
        have p4 : wr.cell? ⟨v5, 4, none⟩ = some (.slice L y.s.L.length d) := cell_of_row wr _ 4 _ _ _ H.sv
        go_upto_region 17 with (go_at_call 14; (with_reducible refine (HT.out _ H.rs).mono ?_); rintro e9 wk ⟨rfl, hk⟩)
        have H2 := H.step (bstep hk (boxed wk (.cells #[.int .i64 0, .int .i64 0, .int .i64 0, .int .i64 0, .int .i64 0, .int .i64 0, .int .i64 0, .int .i64 0, .int .i64 0, .int .i64 0, .slice none 0 0] 38)))
        clear H HT hk p0 p1 p2 p3 p4
        generalize (wk.alloc (.cells #[.int .i64 0, .int .i64 0, .int .i64 0, .int .i64 0, .int .i64 0, .int .i64 0, .int .i64 0, .int .i64 0, .int .i64 0, .int .i64 0, .slice none 0 0] 38)) = wf at *
        cases eb
        all_goals go_wp2_with fail
        all_goals go_roundw
        all_goals first
          | exact ⟨i + 1, _, by omega, rfl, by go_num, ⟨_, _, _, _, _, _, _, _, H2⟩, HV.out⟩
          | (simp [intOf]; omega)
      · have HT := hid (show ∀ w, RS w y.s A B C L → Calls Try.prog 14 #[.agg #[.slice A y.s.M.W.length a, .slice B y.s.M.G.length b, .bool y.s.M.bad, .slice C y.s.C.length e, .slice L y.s.L.length d], .int .i64 (i : Int)] w _ from fun w k1 => rtop_is A B C L a b e d y.s (i : Int) op pc r0 r1 r2 r3 r4 r5 r6 r7 xs w HI.out.ok.few k1 hp h6)
        have HV := hid (show eb = false → ∀ (j : Nat) (x : Co), j < i + 1 → y.s.C[j]? = some x → x.F ≠ [] from fun h j x hj hx => by
          rcases Nat.lt_or_ge j i with q | q
          · exact HR.out h j x q hx
          · have : j = i := by omega
            subst this
            exact top_ne hp x hx)
        clear hp HR
        have p0 : wr.cell? ⟨v5, 0, none⟩ = some (.slice A y.s.M.W.length a) := cell_of_row wr _ 0 _ _ _ H.sv
        have p1 : wr.cell? ⟨v5, 1, none⟩ = some (.slice B y.s.M.G.length b) := cell_of_row wr _ 1 _ _ _ H.sv
        have p2 : wr.cell? ⟨v5, 2, none⟩ = some (.bool y.s.M.bad) := cell_of_row wr _ 2 _ _ _ H.sv
        have p3 : wr.cell? ⟨v5, 3, none⟩ = some (.slice C y.s.C.length e) := cell_of_row wr _ 3 _ _ _ H.sv
        have p4 : wr.cell? ⟨v5, 4, none⟩ = some (.slice L y.s.L.length d) := cell_of_row wr _ 4 _ _ _ H.sv
        go_upto_region 17 with (go_at_call 14; (with_reducible refine (HT.out _ H.rs).mono ?_); rintro e9 wk ⟨A2, c2e, rfl, _, hk⟩)
        have H2 := H.step (bstep hk (boxed wk (.cells #[.int .i64 op, .int .i64 pc, .int .i64 r0, .int .i64 r1, .int .i64 r2, .int .i64 r3, .int .i64 r4, .int .i64 r5, .int .i64 r6, .int .i64 r7, .slice A2 xs.length c2e] 38)))
        clear H HT hk p0 p1 p2 p3 p4
        generalize (wk.alloc (.cells #[.int .i64 op, .int .i64 pc, .int .i64 r0, .int .i64 r1, .int .i64 r2, .int .i64 r3, .int .i64 r4, .int .i64 r5, .int .i64 r6, .int .i64 r7, .slice A2 xs.length c2e] 38)) = wf at *
        cases eb
        all_goals go_wp2_with fail
        all_goals go_roundw
        all_goals first
          | exact ⟨i + 1, _, by omega, rfl, by go_num, ⟨_, _, _, _, _, _, _, _, H2⟩, HV.out⟩
          | (simp [intOf]; omega)
    · have il : ¬ (i : Int) < (c : Int) := by omega
      have HRO : RO w0 v5 vT tz c n us.length (.bool eb) (.int .i64 0) wr := ⟨0, eb, y.s, by omega, rfl, rfl, ⟨_, _, _, _, _, _, _, _, H⟩, HF0.out, fun h => ROut.of HF0.out HAL.out (fun j x hx => HR.out h j x (by have h1 := HI.out.ti.cl; have h2 := (List.getElem?_eq_some_iff.1 hx).1; omega) hx)⟩
      clear H HR
      go_wp2_with fail
      go_loopw [12, 16] (fun x z wr => RO w0 v5 vT tz c n us.length x z wr) (fun _ z _ => 4 - (intOf z).toNat)
      case atStart => exact HRO
      case round =>
        clear HRO
        obtain ⟨k, eb2, s, hk4, rfl, rfl, HH, FI, hR⟩ := hrel
        cases eb2
        · have hro := hR rfl
          have hk2 := hro.no
          have kl : (k : Int) < 4 := by omega
          have k0 : 0 ≤ (k : Int) := by omega
          obtain ⟨tN, t255, htk⟩ := turn_at z0 z1 z2 z3 k (by omega) g0 g1 g2 g3
          rw [← HTZ.out] at htk
          have HTK := hid htk
          clear htk hR
          have HRJ : RJ w0 v5 vT tz c n us.length tN k (.bool false) (.int .i64 0) wr := ⟨0, false, s, by omega, rfl, rfl, HH, FI, fun _ => hro.start tN⟩
          clear HH FI hro
          go_wp2_with fail
          go_loopw [12, 17] (fun x z wr => RJ w0 v5 vT tz c n us.length tN k x z wr) (fun _ z _ => c - (intOf z).toNat)
          case atStart => exact HRJ
          case round =>
            clear HRJ
            obtain ⟨i2, eb3, s, hi2, rfl, rfl, ⟨A, B, C, L, a, b, e, d, H⟩, FI, hR⟩ := hrel
            have HFI := hid FI
            have HR := hid hR
            clear FI hR
            cases eb3
            · by_cases hic2 : i2 < c
              · have il2 : (i2 : Int) < (c : Int) := by omega
                have i02 : 0 ≤ (i2 : Int) := by omega
                have cb2 : (c : Int) ≤ 8 := by omega
                have c1i : 1 ≤ (c : Int) := by omega
                have t0 : 0 ≤ (tN : Int) := by omega
                have tb : (tN : Int) ≤ 255 := by omega
                obtain ⟨j, hj⟩ : ∃ j, j = (i2 + tN) % c := ⟨_, rfl⟩
                have hjc : j < c := by rw [hj]; exact Nat.mod_lt _ (by omega)
                have hjm : ((i2 : Int) + (tN : Int)) % (c : Int) = (j : Int) := by rw [hj]; exact_mod_cast rfl
                have HJ := hid hj
                clear hj
                have hrin := HR.out rfl
                obtain ⟨x, f, hx, hF⟩ := HFI.out.frame hjc (fun x hx => hrin.1 j x hx)
                obtain ⟨t, ht⟩ : ∃ t, t = pStep s (j : Int) := ⟨_, rfl⟩
                have F2 := hid (HFI.out.step n2 (by omega) hx hF)
                have HST := hid (show ∀ w, RS w s A B C L → Calls Try.prog 17 #[.agg #[.slice A s.M.W.length a, .slice B s.M.G.length b, .bool s.M.bad, .slice C s.C.length e, .slice L s.L.length d], .int .i64 (j : Int)] w (RetSys w t) from fun w k1 => by rw [ht]; exact step_any A B C L a b e d s (j : Int) w HFI.out.ok.few HFI.out.ok.g k1 (by have := HFI.out.ok.l; omega))
                have HN := hid (fun hne => RIn.step HFI.out n2 (by omega) hrin HJ.out c1 hne)
                rw [← ht] at F2 HN
                clear ht hx hF hrin
                have p0 : wr.cell? ⟨v5, 0, none⟩ = some (.slice A s.M.W.length a) := cell_of_row wr _ 0 _ _ _ H.sv
                have p1 : wr.cell? ⟨v5, 1, none⟩ = some (.slice B s.M.G.length b) := cell_of_row wr _ 1 _ _ _ H.sv
                have p2 : wr.cell? ⟨v5, 2, none⟩ = some (.bool s.M.bad) := cell_of_row wr _ 2 _ _ _ H.sv
                have p3 : wr.cell? ⟨v5, 3, none⟩ = some (.slice C s.C.length e) := cell_of_row wr _ 3 _ _ _ H.sv
                have p4 : wr.cell? ⟨v5, 4, none⟩ = some (.slice L s.L.length d) := cell_of_row wr _ 4 _ _ _ H.sv
                have pf0 : wr.frozen? ⟨v5, 0, none⟩ = false := frozen_of_row wr _ 0 _ _ H.sv
                have pf1 : wr.frozen? ⟨v5, 1, none⟩ = false := frozen_of_row wr _ 1 _ _ H.sv
                have pf2 : wr.frozen? ⟨v5, 2, none⟩ = false := frozen_of_row wr _ 2 _ _ H.sv
                have pf3 : wr.frozen? ⟨v5, 3, none⟩ = false := frozen_of_row wr _ 3 _ _ H.sv
                have pf4 : wr.frozen? ⟨v5, 4, none⟩ = false := frozen_of_row wr _ 4 _ _ H.sv
                have ct : wr.cell? ⟨vT, k, none⟩ = some (.int .u8 (tN : Int)) := by rw [cell_of_row wr vT k _ _ _ H.tv]; exact HTK.out
                go_upto_region 26 with (go_at_call 17; (with_reducible refine (HST.out _ H.rs).mono ?_); rintro e9 wk ⟨A9, B9, C9, L9, a9, b9, c9, d9, rfl, rW, rG, rC, rL, hk⟩; have K9 := (H.step hk).sv; have q0 : wk.cell? ⟨v5, 0, none⟩ = some (.slice A s.M.W.length a) := cell_of_row wk _ 0 _ _ _ K9; have q1 : wk.cell? ⟨v5, 1, none⟩ = some (.slice B s.M.G.length b) := cell_of_row wk _ 1 _ _ _ K9; have q2 : wk.cell? ⟨v5, 2, none⟩ = some (.bool s.M.bad) := cell_of_row wk _ 2 _ _ _ K9; have q3 : wk.cell? ⟨v5, 3, none⟩ = some (.slice C s.C.length e) := cell_of_row wk _ 3 _ _ _ K9; have q4 : wk.cell? ⟨v5, 4, none⟩ = some (.slice L s.L.length d) := cell_of_row wk _ 4 _ _ _ K9; have qf0 : wk.frozen? ⟨v5, 0, none⟩ = false := frozen_of_row wk _ 0 _ _ K9; have qf1 : wk.frozen? ⟨v5, 1, none⟩ = false := frozen_of_row wk _ 1 _ _ K9; have qf2 : wk.frozen? ⟨v5, 2, none⟩ = false := frozen_of_row wk _ 2 _ _ K9; have qf3 : wk.frozen? ⟨v5, 3, none⟩ = false := frozen_of_row wk _ 3 _ _ K9; have qf4 : wk.frozen? ⟨v5, 4, none⟩ = false := frozen_of_row wk _ 4 _ _ K9)
                have H9 := H.put nw5 a9 b9 c9 d9 hk rW rG rC rL
                clear H HST K9 rW rG rC rL hk ct p0 pf0 p1 pf1 p2 pf2 p3 pf3 p4 pf4 q0 qf0 q1 qf1 q2 qf2 q3 qf3 q4 qf4
                generalize (((((wk.setCell ⟨v5, 0, none⟩ (.slice A9 t.M.W.length a9)).setCell ⟨v5, 1, none⟩ (.slice B9 t.M.G.length b9)).setCell ⟨v5, 2, none⟩ (.bool t.M.bad)).setCell ⟨v5, 3, none⟩ (.slice C9 t.C.length c9)).setCell ⟨v5, 4, none⟩ (.slice L9 t.L.length d9)) = we at *
                rcases pTop_cases t (j : Int) F2.out.ok.few H9.rs.C with hp | ⟨op, pc, r0, r1, r2, r3, r4, r5, r6, r7, xs, hp, h6⟩
                · have HT := hid (show ∀ w, RS w t A9 B9 C9 L9 → Calls Try.prog 14 #[.agg #[.slice A9 t.M.W.length a9, .slice B9 t.M.G.length b9, .bool t.M.bad, .slice C9 t.C.length c9, .slice L9 t.L.length d9], .int .i64 (j : Int)] w _ from fun w k1 => rtop_no A9 B9 C9 L9 a9 b9 c9 d9 t (j : Int) w F2.out.ok.few k1 hp)
                  have HV := hid (show (true : Bool) = false → RIn c tN k (i2 + 1) t from fun h => by cases h)
                  clear hp HN HR
                  have p0 : we.cell? ⟨v5, 0, none⟩ = some (.slice A9 t.M.W.length a9) := cell_of_row we _ 0 _ _ _ H9.sv
                  have p1 : we.cell? ⟨v5, 1, none⟩ = some (.slice B9 t.M.G.length b9) := cell_of_row we _ 1 _ _ _ H9.sv
                  have p2 : we.cell? ⟨v5, 2, none⟩ = some (.bool t.M.bad) := cell_of_row we _ 2 _ _ _ H9.sv
                  have p3 : we.cell? ⟨v5, 3, none⟩ = some (.slice C9 t.C.length c9) := cell_of_row we _ 3 _ _ _ H9.sv
                  have p4 : we.cell? ⟨v5, 4, none⟩ = some (.slice L9 t.L.length d9) := cell_of_row we _ 4 _ _ _ H9.sv
                  go_upto_region 27 with (go_at_call 14; (with_reducible refine (HT.out _ H9.rs).mono ?_); rintro e9 wk ⟨rfl, hk⟩)
                  have H2 := H9.step (bstep hk (boxed wk (.cells #[.int .i64 0, .int .i64 0, .int .i64 0, .int .i64 0, .int .i64 0, .int .i64 0, .int .i64 0, .int .i64 0, .int .i64 0, .int .i64 0, .slice none 0 0] 38)))
                  clear H9 HT hk p0 p1 p2 p3 p4
                  generalize (wk.alloc (.cells #[.int .i64 0, .int .i64 0, .int .i64 0, .int .i64 0, .int .i64 0, .int .i64 0, .int .i64 0, .int .i64 0, .int .i64 0, .int .i64 0, .slice none 0 0] 38)) = wf at *
                  go_wp2_with fail
                  go_roundw
                  case rel => exact ⟨i2 + 1, _, t, by omega, rfl, by go_num, ⟨_, _, _, _, _, _, _, _, H2⟩, F2.out, fun h => by cases h⟩
                  case measure => simp [intOf]; omega
                · have HT := hid (show ∀ w, RS w t A9 B9 C9 L9 → Calls Try.prog 14 #[.agg #[.slice A9 t.M.W.length a9, .slice B9 t.M.G.length b9, .bool t.M.bad, .slice C9 t.C.length c9, .slice L9 t.L.length d9], .int .i64 (j : Int)] w _ from fun w k1 => rtop_is A9 B9 C9 L9 a9 b9 c9 d9 t (j : Int) op pc r0 r1 r2 r3 r4 r5 r6 r7 xs w F2.out.ok.few k1 hp h6)
                  have HV := hid (show RIn c tN k (i2 + 1) t from HN.out (fun x hx => top_ne hp x hx))
                  clear hp HN HR
                  have p0 : we.cell? ⟨v5, 0, none⟩ = some (.slice A9 t.M.W.length a9) := cell_of_row we _ 0 _ _ _ H9.sv
                  have p1 : we.cell? ⟨v5, 1, none⟩ = some (.slice B9 t.M.G.length b9) := cell_of_row we _ 1 _ _ _ H9.sv
                  have p2 : we.cell? ⟨v5, 2, none⟩ = some (.bool t.M.bad) := cell_of_row we _ 2 _ _ _ H9.sv
                  have p3 : we.cell? ⟨v5, 3, none⟩ = some (.slice C9 t.C.length c9) := cell_of_row we _ 3 _ _ _ H9.sv
                  have p4 : we.cell? ⟨v5, 4, none⟩ = some (.slice L9 t.L.length d9) := cell_of_row we _ 4 _ _ _ H9.sv
                  go_upto_region 27 with (go_at_call 14; (with_reducible refine (HT.out _ H9.rs).mono ?_); rintro e9 wk ⟨A2, c2e, rfl, _, hk⟩)
                  have H2 := H9.step (bstep hk (boxed wk (.cells #[.int .i64 op, .int .i64 pc, .int .i64 r0, .int .i64 r1, .int .i64 r2, .int .i64 r3, .int .i64 r4, .int .i64 r5, .int .i64 r6, .int .i64 r7, .slice A2 xs.length c2e] 38)))
                  clear H9 HT hk p0 p1 p2 p3 p4
                  generalize (wk.alloc (.cells #[.int .i64 op, .int .i64 pc, .int .i64 r0, .int .i64 r1, .int .i64 r2, .int .i64 r3, .int .i64 r4, .int .i64 r5, .int .i64 r6, .int .i64 r7, .slice A2 xs.length c2e] 38)) = wf at *
                  go_wp2_with fail
                  go_roundw
                  case rel => exact ⟨i2 + 1, _, t, by omega, rfl, by go_num, ⟨_, _, _, _, _, _, _, _, H2⟩, F2.out, fun _ => HV.out⟩
                  case measure => simp [intOf]; omega
              · have il2 : ¬ (i2 : Int) < (c : Int) := by omega
                have hre : RO w0 v5 vT tz c n us.length (.bool false) (.int .i64 ((k : Int) + 1)) wr := ⟨k + 1, false, s, by omega, rfl, by go_num, ⟨_, _, _, _, _, _, _, _, H⟩, HFI.out.up (by omega), fun _ => by have h9 := HR.out rfl; rw [show i2 = c by omega] at h9; exact h9.done c1⟩
                clear H HR HFI
                go_wp2_with fail
                go_roundw
                case rel => exact hre
                case measure => simp [intOf]; omega
            · have hre : RO w0 v5 vT tz c n us.length (.bool true) (.int .i64 ((k : Int) + 1)) wr := ⟨k + 1, true, s, by omega, rfl, by go_num, ⟨_, _, _, _, _, _, _, _, H⟩, HFI.out.up (by omega), fun h => by cases h⟩
              clear H HR HFI
              by_cases hic2 : i2 < c
              · have il2 : (i2 : Int) < (c : Int) := by omega
                go_wp2_with fail
                go_roundw
                case rel => exact hre
                case measure => simp [intOf]; omega
              · have il2 : ¬ (i2 : Int) < (c : Int) := by omega
                go_wp2_with fail
                go_roundw
                case rel => exact hre
                case measure => simp [intOf]; omega
        · obtain ⟨A, B, C, L, a, b, e, d, H⟩ := HH
          have hbe := H.be
          clear H FI hR
          by_cases hk5 : k < 4
          · have kl : (k : Int) < 4 := by omega
            go_wp2_with fail
            go_ret
            exact ⟨rfl, hbe⟩
          · have kl : ¬ (k : Int) < 4 := by omega
            go_wp2_with fail
            go_ret
            exact ⟨rfl, hbe⟩

set_option maxRecDepth 100000 in
set_option maxHeartbeats 16000000 in
theorem walk (x0 x1 : Int) (AP : Option Addr) (us : List Nat) (cp : Nat) (z0 z1 z2 z3 : Int) (w0 : World) (hP : RowU w0 AP us) (u0 : 0 ≤ x0) (u1 : x0 ≤ 255) (u2 : 0 ≤ x1) (u3 : x1 ≤ 255) (g0 : 0 ≤ z0 ∧ z0 ≤ 255) (g1 : 0 ≤ z1 ∧ z1 ≤ 255) (g2 : 0 ≤ z2 ∧ z2 ≤ 255) (g3 : 0 ≤ z3 ∧ z3 ≤ 255) :
    Calls Try.prog 5 #[.agg #[.int .u8 x0, .int .u8 x1, .slice AP us.length cp, .int .u8 z0, .int .u8 z1, .int .u8 z2, .int .u8 z3]] w0 fun e w' => e = .returned (.bool true) ∧ Below w0.heap.size w0 w' := by
  by_cases hlen : us.length ≤ 200
  · exact walk_few x0 x1 AP us cp z0 z1 z2 z3 w0 hP u0 u1 u2 u3 g0 g1 g2 g3 hlen
  · exact walk_many x0 x1 AP us cp z0 z1 z2 z3 w0 hP u0 u1 u2 u3 g0 g1 g2 g3 (by omega)

set_option maxRecDepth 100000 in
theorem lifted (os : Os) (started : os.Started) (H : Type) (enc : TypeId × Value → H) :
    ReturnsInHanded {} Try.checked os 5 .any (Rows.stackFreeSpec.pre6 enc Try.prog Try.f5 Rows.stackFreeRow.domain false) (Rows.stackFreeSpec.post enc Try.prog Try.f5 false true false false) := by
  refine returnsInHanded_of_change (C := Try.checked) own started (by kernel_rfl) Try.func5
    (ChangeSpec.witness6 (enc := enc) (C := Try.checked) false ⟨#[], #[.agg #[.int .u8 0, .int .u8 0, .slice none 0 0, .int .u8 0, .int .u8 0, .int .u8 0, .int .u8 0]], []⟩ 8 (by kernel_rfl) (by kernel_rfl) (by kernel_rfl) (by kernel_rfl)) ?_
  intro W base args ds gs before hval0 hW hcnd _
  have hval : ∀ (j : Nat) t v, Try.f5.params[j]? = some t → args[j]? = some v → Value.okWide Try.prog W .any base t v := hval0
  have hW' := hW
  obtain ⟨p, q, hA0, hV, rfl, hfz, hnd⟩ := hW
  have hA : DataW.TrodAll enc Try.prog W 0 (fun _ => true) true Try.f5.params.toList args.toList ds p := hA0
  rw [Try.params5] at hA hval
  obtain ⟨v0, vs0, d0, ds0, p0, q0, hargs, rfl, rfl, h0, r0⟩ := trodAll_cons hA
  obtain ⟨rfl, rfl, rfl⟩ := trodAll_nil r0
  obtain rfl : args = #[v0] := by cases args; simp_all
  obtain ⟨rfl, rfl⟩ := trodVars_none hV
  clear hA0 hval0
  obtain ⟨x0, x1, AP, us, cp, z0, z1, z2, z3, rfl, hP, u0, u1, u2, u3, g0, g1, g2, g3⟩ := open_free (hval 0 _ v0 rfl rfl) h0
  refine (walk x0 x1 AP us cp z0 z1 z2 z3 W hP u0 u1 u2 u3 g0 g1 g2 g3).mono fun e W' ⟨he, hb⟩ => ?_
  subst he
  exact ⟨_, rfl, law_post (tb := 4) (by kernel_rfl) (by kernel_rfl) (by kernel_rfl) Try.underlying4 rfl hW' rfl hb⟩

theorem over : Rows.stackFreeRow.holds Try.pinned (OpenSpec.ofChange Rows.stackFreeSpec) :=
  OpenClaim.holds_of_wide 5 Try.f5 rfl rfl rfl rfl rfl rfl rfl ⟨rfl, rfl, rfl, rfl, rfl⟩ rfl rfl rfl rfl rfl (by kernel_rfl) Try.func5 (by kernel_rfl)
    (of_decide_eq_true (by kernel_rfl)) (by unfold Func.isWrapper; first | (rw [if_pos (by decide +kernel)]; kernel_rfl) | (rw [if_neg (by decide +kernel)]; exact ⟨rfl, rfl⟩))
    (fun os started H enc _ => lifted os started H enc)
end StackFree

theorem stackFree_holds : Rows.StackFreeSaid := StackFree.over
#print axioms stackFree_holds
end Go.Proofs.Ytlknpmdmnekedaa
