/- Contracts: an event is told. -/
import Derived.Test.YtpagekhgeahmaaaCopy4
import Derived.Test.YtpagekhgeahmaaaSysI2
import Derived.Test.YtpagekhgeahmaaaCoreT
namespace Go.Proofs.Ytpagekhgeahmaaa
open Go.RowKit
set_option linter.unusedVariables false
set_option linter.unusedSimpArgs false

theorem own_val {w : World} {base T k n : Nat} {v : Value} {xs : List Value} (h : w.ownsRow base T k v n xs) : ∃ A c, v = .slice A n c := by
  rcases h.2 with ⟨rfl, h0⟩ | ⟨g, cap, cur, rfl, _⟩
  · subst h0
    exact ⟨none, 0, rfl⟩
  · exact ⟨_, cap, rfl⟩

set_option maxRecDepth 100000 in
set_option maxHeartbeats 8000000 in
theorem log_out (A B AC AL : Option Addr) (c d cC cL : Nat) (s : Sy) (i kind a b z : Int) (hi : syHas s i = false) (w : World) (hW : Row w A s.M.W) (hG : Row w B s.M.G) (hC : RowC w AC s.C) (hL : RowE w AL s.L) (h0 : s.M.W.length ≤ 1000000) (h1 : s.M.G.length ≤ 1000000) (h2 : s.C.length ≤ 1000000) (h3 : s.L.length ≤ 1000000) (h4 : ∀ x ∈ s.C, x.ret.length ≤ 1000000 ∧ x.F.length ≤ 1000000 ∧ ∀ f ∈ x.F, f.S.length ≤ 1000000) :
    Calls Try.prog 30 #[.agg #[.slice A s.M.W.length c, .slice B s.M.G.length d, .bool s.M.bad, .slice AC s.C.length cC, .slice AL s.L.length cL], .int .i64 i, .int .i64 kind, .int .i64 a, .int .i64 b, .int .i64 z] w (RetSys w s) := by
  obtain ⟨b1, b2, bs⟩ := heap2 w (.cells #[.slice A s.M.W.length c, .slice B s.M.G.length d, .bool s.M.bad, .slice AC s.C.length cC, .slice AL s.L.length cL] 28) (.cells #[.slice none 0 0, .slice none 0 0, .bool false, .slice none 0 0, .slice none 0 0] 28)
  have hw2 : Below w.heap.size w ((w.alloc (.cells #[.slice A s.M.W.length c, .slice B s.M.G.length d, .bool s.M.bad, .slice AC s.C.length cC, .slice AL s.L.length cL] 28)).alloc (.cells #[.slice none 0 0, .slice none 0 0, .bool false, .slice none 0 0, .slice none 0 0] 28)) := bstep (boxed _ _) (boxed _ _)
  have H4 := hid h4
  clear h4
  go_enter Try.func30, Try.ntmps30
  go_wp2_with fail
  generalize ((w.alloc (.cells #[.slice A s.M.W.length c, .slice B s.M.G.length d, .bool s.M.bad, .slice AC s.C.length cC, .slice AL s.L.length cL] 28)).alloc (.cells #[.slice none 0 0, .slice none 0 0, .bool false, .slice none 0 0, .slice none 0 0] 28)) = w2 at *
  refine (copied_any A B AC AL c d cC cL s w2 (hW.step hw2) (hG.step hw2) (hC.step hw2) (hL.step hw2) h0 h1 h2 h3 H4.out).mono ?_
  rintro e w3 ⟨lo, hm, own, vs, AW, AG, cW, cG, vC, vL, rfl, hlo, SI, hk⟩
  have hmv : hm ≤ w3.heap.size := SI.hw
  have SI := SI.seal
  have hside : ∀ b, w3.heap.size ≤ b → Side s lo hm (fun b => if b < w3.heap.size then own b else s.C.length) b := fun b hb => .inr ⟨by omega, if_neg (by omega)⟩
  generalize (fun b => if b < w3.heap.size then own b else s.C.length) = own2 at *
  obtain ⟨AC', cC', rfl⟩ := own_val SI.co
  obtain ⟨AL', cL', rfl⟩ := own_val SI.ev
  replace b1 := (hk.block w.heap.size (by omega)).trans b1
  replace b2 := (hk.block (w.heap.size + 1) (by omega)).trans b2
  have hb := bstep hw2 hk
  have hz : w.heap.size + 1 < w3.heap.size := by have := hk.size; omega
  have hz0 : w.heap.size < w3.heap.size := by omega
  have hlo2 : w.heap.size + 1 < lo := by omega
  clear hk hw2 bs hlo hW hG hL h0 h1
  have p0 : w3.cell? ⟨w.heap.size, 0, none⟩ = some (.slice A s.M.W.length c) := cell_of_row w3 _ 0 _ _ _ b1
  have p1 : w3.cell? ⟨w.heap.size, 1, none⟩ = some (.slice B s.M.G.length d) := cell_of_row w3 _ 1 _ _ _ b1
  have p2 : w3.cell? ⟨w.heap.size, 2, none⟩ = some (.bool s.M.bad) := cell_of_row w3 _ 2 _ _ _ b1
  have p3 : w3.cell? ⟨w.heap.size, 3, none⟩ = some (.slice AC s.C.length cC) := cell_of_row w3 _ 3 _ _ _ b1
  have p4 : w3.cell? ⟨w.heap.size, 4, none⟩ = some (.slice AL s.L.length cL) := cell_of_row w3 _ 4 _ _ _ b1
  go_wp2_with fail
  have bv := heap_alloc_new w3 (.cells #[.slice AW s.M.W.length cW, .slice AG s.M.G.length cG, .bool s.M.bad, .slice AC' s.C.length cC', .slice AL' s.L.length cL'] 28)
  have t4 : Turn (fun _ => False) w3 (w3.alloc (.cells #[.slice AW s.M.W.length cW, .slice AG s.M.G.length cG, .bool s.M.bad, .slice AC' s.C.length cC', .slice AL' s.L.length cL'] 28)) := (Turn.refl _ _).alloc _
  replace SI := SI.turn t4 (fun _ _ h => h)
  replace b1 := (t4.block w.heap.size hz0 id).trans b1
  replace b2 := (t4.block (w.heap.size + 1) hz id).trans b2
  skip
  replace hb := bstep hb (boxed w3 (.cells #[.slice AW s.M.W.length cW, .slice AG s.M.G.length cG, .bool s.M.bad, .slice AC' s.C.length cC', .slice AL' s.L.length cL'] 28))
  have vx : w3.heap.size < (w3.alloc (.cells #[.slice AW s.M.W.length cW, .slice AG s.M.G.length cG, .bool s.M.bad, .slice AC' s.C.length cC', .slice AL' s.L.length cL'] 28)).heap.size := by simp
  clear t4 p0 p1 p2 p3 p4
  obtain ⟨v, hv⟩ : ∃ v, w3.heap.size = v := ⟨_, rfl⟩
  generalize (w3.alloc (.cells #[.slice AW s.M.W.length cW, .slice AG s.M.G.length cG, .bool s.M.bad, .slice AC' s.C.length cC', .slice AL' s.L.length cL'] 28)) = w4 at *
  rw [hv] at bv vx hz hz0 hmv hside ⊢
  have HSD := hid hside
  clear hside
  clear hv
  refine (hasCore_any _ _ _ _ _ _ _ _ s i _ h2).mono ?_
  rintro e w5 ⟨rfl, hk⟩
  rw [hi]
  replace b1 := (hk.block w.heap.size (by omega)).trans b1
  replace b2 := (hk.block (w.heap.size + 1) (by omega)).trans b2
  replace bv := (hk.block v vx).trans bv
  replace SI := SI.turn (Turn.below (Turn.refl (fun _ => False) _) hk) (fun _ _ h => h)
  replace hb := bstep hb hk
  replace vx := Nat.lt_of_lt_of_le vx hk.size
  clear hk
  have m0 : w5.cell? ⟨v, 0, none⟩ = some (.slice AW s.M.W.length cW) := cell_of_row w5 _ 0 _ _ _ bv
  have m1 : w5.cell? ⟨v, 1, none⟩ = some (.slice AG s.M.G.length cG) := cell_of_row w5 _ 1 _ _ _ bv
  have m2 : w5.cell? ⟨v, 2, none⟩ = some (.bool s.M.bad) := cell_of_row w5 _ 2 _ _ _ bv
  have m3 : w5.cell? ⟨v, 3, none⟩ = some (.slice AC' s.C.length cC') := cell_of_row w5 _ 3 _ _ _ bv
  have m4 : w5.cell? ⟨v, 4, none⟩ = some (.slice AL' s.L.length cL') := cell_of_row w5 _ 4 _ _ _ bv
  have mf0 : w5.frozen? ⟨v, 0, none⟩ = false := frozen_of_row w5 _ 0 _ _ bv
  have mf1 : w5.frozen? ⟨v, 1, none⟩ = false := frozen_of_row w5 _ 1 _ _ bv
  have mf2 : w5.frozen? ⟨v, 2, none⟩ = false := frozen_of_row w5 _ 2 _ _ bv
  have mf3 : w5.frozen? ⟨v, 3, none⟩ = false := frozen_of_row w5 _ 3 _ _ bv
  have mf4 : w5.frozen? ⟨v, 4, none⟩ = false := frozen_of_row w5 _ 4 _ _ bv
  have q0 : w5.cell? ⟨w.heap.size + 1, 0, none⟩ = some (.slice none 0 0) := cell_of_row w5 _ 0 _ _ _ b2
  have q1 : w5.cell? ⟨w.heap.size + 1, 1, none⟩ = some (.slice none 0 0) := cell_of_row w5 _ 1 _ _ _ b2
  have q2 : w5.cell? ⟨w.heap.size + 1, 2, none⟩ = some (.bool false) := cell_of_row w5 _ 2 _ _ _ b2
  have q3 : w5.cell? ⟨w.heap.size + 1, 3, none⟩ = some (.slice none 0 0) := cell_of_row w5 _ 3 _ _ _ b2
  have q4 : w5.cell? ⟨w.heap.size + 1, 4, none⟩ = some (.slice none 0 0) := cell_of_row w5 _ 4 _ _ _ b2
  have qf0 : w5.frozen? ⟨w.heap.size + 1, 0, none⟩ = false := frozen_of_row w5 _ 0 _ _ b2
  have qf1 : w5.frozen? ⟨w.heap.size + 1, 1, none⟩ = false := frozen_of_row w5 _ 1 _ _ b2
  have qf2 : w5.frozen? ⟨w.heap.size + 1, 2, none⟩ = false := frozen_of_row w5 _ 2 _ _ b2
  have qf3 : w5.frozen? ⟨w.heap.size + 1, 3, none⟩ = false := frozen_of_row w5 _ 3 _ _ b2
  have qf4 : w5.frozen? ⟨w.heap.size + 1, 4, none⟩ = false := frozen_of_row w5 _ 4 _ _ b2
  clear b1 b2 bv
  go_wp2
  refine bodyPost_ret (v := .agg #[.slice AW s.M.W.length cW, .slice AG s.M.G.length cG, .bool s.M.bad, .slice AC' s.C.length cC', .slice AL' s.L.length cL']) (by simp [results, Try.results30, go_sem, q0, q1, q2, q3, q4]) rfl ?_
  have key : ∀ w', Turn (fun b => b = w.heap.size + 1) w5 w' → RetSys w s (.returned (.agg #[.slice AW s.M.W.length cW, .slice AG s.M.G.length cG, .bool s.M.bad, .slice AC' s.C.length cC', .slice AL' s.L.length cL'])) w' := fun w' hT => (SI.turn hT (fun b hb e => by omega)).told cW cG (hb.trans (hT.to_below hb.size (fun g hg => by omega)))
  exact key _ (turn5 _ _ _ _ _ _ _)

set_option maxRecDepth 100000 in
set_option maxHeartbeats 8000000 in
theorem log_at (A B AC AL : Option Addr) (c d cC cL : Nat) (s : Sy) (k : Nat) (kind a b z : Int) (hkl : k < s.C.length) (h5 : s.L.length ≤ 999999) (w : World) (hW : Row w A s.M.W) (hG : Row w B s.M.G) (hC : RowC w AC s.C) (hL : RowE w AL s.L) (h0 : s.M.W.length ≤ 1000000) (h1 : s.M.G.length ≤ 1000000) (h2 : s.C.length ≤ 1000000) (h3 : s.L.length ≤ 1000000) (h4 : ∀ x ∈ s.C, x.ret.length ≤ 1000000 ∧ x.F.length ≤ 1000000 ∧ ∀ f ∈ x.F, f.S.length ≤ 1000000) :
    Calls Try.prog 30 #[.agg #[.slice A s.M.W.length c, .slice B s.M.G.length d, .bool s.M.bad, .slice AC s.C.length cC, .slice AL s.L.length cL], .int .i64 k, .int .i64 kind, .int .i64 a, .int .i64 b, .int .i64 z] w (RetSys w (syLog s ⟨k, kind, a, b, z⟩)) := by
  have hi : syHas s (k : Int) = true := by simp [syHas]; omega
  obtain ⟨b1, b2, bs⟩ := heap2 w (.cells #[.slice A s.M.W.length c, .slice B s.M.G.length d, .bool s.M.bad, .slice AC s.C.length cC, .slice AL s.L.length cL] 28) (.cells #[.slice none 0 0, .slice none 0 0, .bool false, .slice none 0 0, .slice none 0 0] 28)
  have hw2 : Below w.heap.size w ((w.alloc (.cells #[.slice A s.M.W.length c, .slice B s.M.G.length d, .bool s.M.bad, .slice AC s.C.length cC, .slice AL s.L.length cL] 28)).alloc (.cells #[.slice none 0 0, .slice none 0 0, .bool false, .slice none 0 0, .slice none 0 0] 28)) := bstep (boxed _ _) (boxed _ _)
  have H4 := hid h4
  clear h4
  go_enter Try.func30, Try.ntmps30
  go_wp2_with fail
  generalize ((w.alloc (.cells #[.slice A s.M.W.length c, .slice B s.M.G.length d, .bool s.M.bad, .slice AC s.C.length cC, .slice AL s.L.length cL] 28)).alloc (.cells #[.slice none 0 0, .slice none 0 0, .bool false, .slice none 0 0, .slice none 0 0] 28)) = w2 at *
  refine (copied_any A B AC AL c d cC cL s w2 (hW.step hw2) (hG.step hw2) (hC.step hw2) (hL.step hw2) h0 h1 h2 h3 H4.out).mono ?_
  rintro e w3 ⟨lo, hm, own, vs, AW, AG, cW, cG, vC, vL, rfl, hlo, SI, hk⟩
  have hmv : hm ≤ w3.heap.size := SI.hw
  have SI := SI.seal
  have hside : ∀ b, w3.heap.size ≤ b → Side s lo hm (fun b => if b < w3.heap.size then own b else s.C.length) b := fun b hb => .inr ⟨by omega, if_neg (by omega)⟩
  generalize (fun b => if b < w3.heap.size then own b else s.C.length) = own2 at *
  obtain ⟨AC', cC', rfl⟩ := own_val SI.co
  obtain ⟨AL', cL', rfl⟩ := own_val SI.ev
  replace b1 := (hk.block w.heap.size (by omega)).trans b1
  replace b2 := (hk.block (w.heap.size + 1) (by omega)).trans b2
  have hb := bstep hw2 hk
  have hz : w.heap.size + 1 < w3.heap.size := by have := hk.size; omega
  have hz0 : w.heap.size < w3.heap.size := by omega
  have hlo2 : w.heap.size + 1 < lo := by omega
  clear hk hw2 bs hlo hW hG hL h0 h1
  have p0 : w3.cell? ⟨w.heap.size, 0, none⟩ = some (.slice A s.M.W.length c) := cell_of_row w3 _ 0 _ _ _ b1
  have p1 : w3.cell? ⟨w.heap.size, 1, none⟩ = some (.slice B s.M.G.length d) := cell_of_row w3 _ 1 _ _ _ b1
  have p2 : w3.cell? ⟨w.heap.size, 2, none⟩ = some (.bool s.M.bad) := cell_of_row w3 _ 2 _ _ _ b1
  have p3 : w3.cell? ⟨w.heap.size, 3, none⟩ = some (.slice AC s.C.length cC) := cell_of_row w3 _ 3 _ _ _ b1
  have p4 : w3.cell? ⟨w.heap.size, 4, none⟩ = some (.slice AL s.L.length cL) := cell_of_row w3 _ 4 _ _ _ b1
  go_wp2_with fail
  have bv := heap_alloc_new w3 (.cells #[.slice AW s.M.W.length cW, .slice AG s.M.G.length cG, .bool s.M.bad, .slice AC' s.C.length cC', .slice AL' s.L.length cL'] 28)
  have t4 : Turn (fun _ => False) w3 (w3.alloc (.cells #[.slice AW s.M.W.length cW, .slice AG s.M.G.length cG, .bool s.M.bad, .slice AC' s.C.length cC', .slice AL' s.L.length cL'] 28)) := (Turn.refl _ _).alloc _
  replace SI := SI.turn t4 (fun _ _ h => h)
  replace b1 := (t4.block w.heap.size hz0 id).trans b1
  replace b2 := (t4.block (w.heap.size + 1) hz id).trans b2
  skip
  replace hb := bstep hb (boxed w3 (.cells #[.slice AW s.M.W.length cW, .slice AG s.M.G.length cG, .bool s.M.bad, .slice AC' s.C.length cC', .slice AL' s.L.length cL'] 28))
  have vx : w3.heap.size < (w3.alloc (.cells #[.slice AW s.M.W.length cW, .slice AG s.M.G.length cG, .bool s.M.bad, .slice AC' s.C.length cC', .slice AL' s.L.length cL'] 28)).heap.size := by simp
  clear t4 p0 p1 p2 p3 p4
  obtain ⟨v, hv⟩ : ∃ v, w3.heap.size = v := ⟨_, rfl⟩
  generalize (w3.alloc (.cells #[.slice AW s.M.W.length cW, .slice AG s.M.G.length cG, .bool s.M.bad, .slice AC' s.C.length cC', .slice AL' s.L.length cL'] 28)) = w4 at *
  rw [hv] at bv vx hz hz0 hmv hside ⊢
  have HSD := hid hside
  clear hside
  clear hv
  refine (hasCore_any _ _ _ _ _ _ _ _ s k _ h2).mono ?_
  rintro e w5 ⟨rfl, hk⟩
  rw [hi]
  replace b1 := (hk.block w.heap.size (by omega)).trans b1
  replace b2 := (hk.block (w.heap.size + 1) (by omega)).trans b2
  replace bv := (hk.block v vx).trans bv
  replace SI := SI.turn (Turn.below (Turn.refl (fun _ => False) _) hk) (fun _ _ h => h)
  replace hb := bstep hb hk
  replace vx := Nat.lt_of_lt_of_le vx hk.size
  clear hk
  have m0 : w5.cell? ⟨v, 0, none⟩ = some (.slice AW s.M.W.length cW) := cell_of_row w5 _ 0 _ _ _ bv
  have m1 : w5.cell? ⟨v, 1, none⟩ = some (.slice AG s.M.G.length cG) := cell_of_row w5 _ 1 _ _ _ bv
  have m2 : w5.cell? ⟨v, 2, none⟩ = some (.bool s.M.bad) := cell_of_row w5 _ 2 _ _ _ bv
  have m3 : w5.cell? ⟨v, 3, none⟩ = some (.slice AC' s.C.length cC') := cell_of_row w5 _ 3 _ _ _ bv
  have m4 : w5.cell? ⟨v, 4, none⟩ = some (.slice AL' s.L.length cL') := cell_of_row w5 _ 4 _ _ _ bv
  have mf0 : w5.frozen? ⟨v, 0, none⟩ = false := frozen_of_row w5 _ 0 _ _ bv
  have mf1 : w5.frozen? ⟨v, 1, none⟩ = false := frozen_of_row w5 _ 1 _ _ bv
  have mf2 : w5.frozen? ⟨v, 2, none⟩ = false := frozen_of_row w5 _ 2 _ _ bv
  have mf3 : w5.frozen? ⟨v, 3, none⟩ = false := frozen_of_row w5 _ 3 _ _ bv
  have mf4 : w5.frozen? ⟨v, 4, none⟩ = false := frozen_of_row w5 _ 4 _ _ bv
  go_wp2_with (at_builtin; refine wpList_append_onto rfl _ _ _ rfl lo 56 _ 5 40 Try.underlying26 infoEv rfl (by omega) (.slice AL' s.L.length cL') s.L.length (s.L.map evCells).flatten rfl (own_step SI.ev (boxed _ _)) ⟨w5.heap.size, 0, none⟩ 1 1 [.int .i64 (k : Int), .int .i64 kind, .int .i64 a, .int .i64 b, .int .i64 z] rfl rfl (World.news_of_block (heap_alloc_new _ _)) (evCells_one ⟨k, kind, a, b, z⟩) (by omega) (by omega) (by have h6 := SI.lh; have h7 := SI.hw; simp; omega) ?_; intro v6 w6 ho6 hg6 hat6; obtain ⟨A6, c6, rfl⟩ := own_val ho6; have d2 := (hg6.block (w.heap.size + 1) (by simp; omega) (fun e => by have h6 := (SI.ev.lt _ e.symm).1; omega)).trans ((Below.heap_alloc _ _ _ (by omega)).trans b2); have dv := (hg6.block v (by simp; omega) (fun e => by have h6 := SI.eb _ e.symm; omega)).trans ((Below.heap_alloc _ _ _ vx).trans bv); have n0 : w6.cell? ⟨v, 0, none⟩ = some (.slice AW s.M.W.length cW) := cell_of_row w6 _ 0 _ _ _ dv; have n1 : w6.cell? ⟨v, 1, none⟩ = some (.slice AG s.M.G.length cG) := cell_of_row w6 _ 1 _ _ _ dv; have n2 : w6.cell? ⟨v, 2, none⟩ = some (.bool s.M.bad) := cell_of_row w6 _ 2 _ _ _ dv; have n3 : w6.cell? ⟨v, 3, none⟩ = some (.slice AC' s.C.length cC') := cell_of_row w6 _ 3 _ _ _ dv; have n4 : w6.cell? ⟨v, 4, none⟩ = some (.slice AL' s.L.length cL') := cell_of_row w6 _ 4 _ _ _ dv; have nf0 : w6.frozen? ⟨v, 0, none⟩ = false := frozen_of_row w6 _ 0 _ _ dv; have nf1 : w6.frozen? ⟨v, 1, none⟩ = false := frozen_of_row w6 _ 1 _ _ dv; have nf2 : w6.frozen? ⟨v, 2, none⟩ = false := frozen_of_row w6 _ 2 _ _ dv; have nf3 : w6.frozen? ⟨v, 3, none⟩ = false := frozen_of_row w6 _ 3 _ _ dv; have nf4 : w6.frozen? ⟨v, 4, none⟩ = false := frozen_of_row w6 _ 4 _ _ dv; have q0 : w6.cell? ⟨w.heap.size + 1, 0, none⟩ = some (.slice none 0 0) := cell_of_row w6 _ 0 _ _ _ d2; have q1 : w6.cell? ⟨w.heap.size + 1, 1, none⟩ = some (.slice none 0 0) := cell_of_row w6 _ 1 _ _ _ d2; have q2 : w6.cell? ⟨w.heap.size + 1, 2, none⟩ = some (.bool false) := cell_of_row w6 _ 2 _ _ _ d2; have q3 : w6.cell? ⟨w.heap.size + 1, 3, none⟩ = some (.slice none 0 0) := cell_of_row w6 _ 3 _ _ _ d2; have q4 : w6.cell? ⟨w.heap.size + 1, 4, none⟩ = some (.slice none 0 0) := cell_of_row w6 _ 4 _ _ _ d2; have qf0 : w6.frozen? ⟨w.heap.size + 1, 0, none⟩ = false := frozen_of_row w6 _ 0 _ _ d2; have qf1 : w6.frozen? ⟨w.heap.size + 1, 1, none⟩ = false := frozen_of_row w6 _ 1 _ _ d2; have qf2 : w6.frozen? ⟨w.heap.size + 1, 2, none⟩ = false := frozen_of_row w6 _ 2 _ _ d2; have qf3 : w6.frozen? ⟨w.heap.size + 1, 3, none⟩ = false := frozen_of_row w6 _ 3 _ _ d2; have qf4 : w6.frozen? ⟨w.heap.size + 1, 4, none⟩ = false := frozen_of_row w6 _ 4 _ _ d2)
  refine bodyPost_ret (v := .agg #[.slice AW s.M.W.length cW, .slice AG s.M.G.length cG, .bool s.M.bad, .slice AC' s.C.length cC', .slice A6 (s.L.length + 1) c6]) (by simp [results, Try.results30, go_sem, q0, q1, q2, q3, q4]) rfl ?_
  have key : ∀ w', Turn (fun b => b = w.heap.size + 1 ∨ b = v) w6 w' → RetSys w (syLog s ⟨k, kind, a, b, z⟩) (.returned (.agg #[.slice AW s.M.W.length cW, .slice AG s.M.G.length cG, .bool s.M.bad, .slice AC' s.C.length cC', .slice A6 (s.L.length + 1) c6])) w' := fun w' hT => by
    have hT5 : Turn (fun b => Value.ownBlock (.slice AL' s.L.length cL') = some b ∨ Side s lo hm own2 b) w5 w' := (((Turn.refl _ _).alloc _).grown hg6 (fun g hg => .inl hg)).trans (hT.mono (fun g _ hp => by rcases hp with rfl | rfl; exact .inr (.inl hlo2); exact .inr (HSD.out _ (Nat.le_refl _))))
    have hT6 : Turn (fun b => Value.ownBlock (.slice AL' s.L.length cL') = some b ∨ b = w.heap.size + 1 ∨ b = v) w5 w' := (((Turn.refl _ _).alloc _).grown hg6 (fun g hg => .inl hg)).trans (hT.mono (fun g _ hp => .inr hp))
    refine SI.log ⟨k, kind, a, b, z⟩ hT5 ?_ cW cG (hb.trans (hT6.to_below hb.size (fun g hp => ?_)))
    · have h7 := own_turn ho6 hT (fun g hg hp => by
        have h8 := (ho6.lt g hg).1
        rcases hp with rfl | rfl
        · omega
        · rcases hat6 with h9 | h9
          · rw [hg] at h9; have := SI.eb _ h9.symm; omega
          · rw [hg] at h9; injection h9 with h9; simp at h9; omega)
      simpa [evCells] using h7
    · rcases hp with hp | hp | hp
      · have := (SI.ev.lt g hp).1; omega
      · omega
      · omega
  exact key _ (by repeat (first | (with_reducible exact Turn.refl _ _) | (with_reducible refine Turn.set ?_ (by simp) _ _)))
end Go.Proofs.Ytpagekhgeahmaaa
