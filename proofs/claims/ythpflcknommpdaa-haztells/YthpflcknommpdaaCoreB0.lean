/- Contract: core.Back, where nothing is taken away; the rows stand whatever becomes of older blocks. -/
import Derived.Test.YthpflcknommpdaaKCoT
import Derived.Deep.DrawnRows
import Derived.Deep.RegionWith
import Derived.Test.YthpflcknommpdaaKBas
namespace Go.Proofs.Ythpflcknommpdaa
open Go.RowKit
set_option linter.unusedVariables false
set_option linter.unusedSimpArgs false
attribute [local go_sem ↓] Go.wp_at_zero Go.wp_at_succ


set_option maxRecDepth 100000 in
set_option maxHeartbeats 8000000 in
theorem back_outN (A B AC AL : Option Addr) (c d cC cL : Nat) (s : Sy) (i z er : Int) (hi : syHas s i = false) (w : World) (hW : Row w A s.M.W) (hG : Row w B s.M.G) (hC : RowC w AC s.C) (hL : RowE w AL s.L) (h0 : s.M.W.length ≤ 1000000) (h1 : s.M.G.length ≤ 1000000) (h2 : s.C.length ≤ 1000000) (h3 : s.L.length ≤ 1000000) (h4 : ∀ x ∈ s.C, x.ret.length ≤ 1000000 ∧ x.F.length ≤ 1000000 ∧ ∀ f ∈ x.F, f.S.length ≤ 1000000) :
    Calls Try.prog 78 #[.agg #[.slice A s.M.W.length c, .slice B s.M.G.length d, .bool s.M.bad, .slice AC s.C.length cC, .slice AL s.L.length cL], .int .i64 i, .int .i64 z, .int .i64 er] w (RetSysN w s) := by
  obtain ⟨b1, b2, bs⟩ := heap2 w (.cells #[.slice A s.M.W.length c, .slice B s.M.G.length d, .bool s.M.bad, .slice AC s.C.length cC, .slice AL s.L.length cL] 28) (.cells #[.slice none 0 0, .slice none 0 0, .bool false, .slice none 0 0, .slice none 0 0] 28)
  have hw2 : Below w.heap.size w ((w.alloc (.cells #[.slice A s.M.W.length c, .slice B s.M.G.length d, .bool s.M.bad, .slice AC s.C.length cC, .slice AL s.L.length cL] 28)).alloc (.cells #[.slice none 0 0, .slice none 0 0, .bool false, .slice none 0 0, .slice none 0 0] 28)) := bstep (boxed _ _) (boxed _ _)
  have H4 := hid h4
  clear h4
  go_enter Try.func78, Try.ntmps78
  go_wp2_with fail
  generalize ((w.alloc (.cells #[.slice A s.M.W.length c, .slice B s.M.G.length d, .bool s.M.bad, .slice AC s.C.length cC, .slice AL s.L.length cL] 28)).alloc (.cells #[.slice none 0 0, .slice none 0 0, .bool false, .slice none 0 0, .slice none 0 0] 28)) = w2 at *
  refine (copied_any A B AC AL c d cC cL s w2 (hW.step hw2) (hG.step hw2) (hC.step hw2) (hL.step hw2) h0 h1 h2 h3 H4.out).mono ?_
  rintro e w3 ⟨lo, hm, own, vs, AW, AG, cW, cG, vC, vL, rfl, hlo, SI, hk⟩
  have hmv : hm ≤ w3.heap.size := SI.hw
  have SI := SI.seal
  have hside : ∀ b, w3.heap.size ≤ b → Side s lo hm (fun b => if b < w3.heap.size then own b else s.C.length) b := fun b hb => .inr ⟨by omega, if_neg (by omega)⟩
  generalize (fun b => if b < w3.heap.size then own b else s.C.length) = own2 at *
  obtain ⟨AC', cC', rfl⟩ := own_val SI.co
  obtain ⟨AL', cL', rfl⟩ := own_val SI.ev
  replace b1 := (hk.block w.heap.size (by omega)).trans b1
  replace b2 := (hk.block (w.heap.size + 1) (by omega)).trans b2
  have hb := bstep hw2 hk
  have hz : w.heap.size + 1 < w3.heap.size := by have := hk.size; omega
  have hz0 : w.heap.size < w3.heap.size := by omega
  have hlo2 : w.heap.size + 1 < lo := by omega
  clear hk hw2 bs hlo hW hG hL h0 h1
  obtain ⟨p0, p1, p2, p3, p4⟩ := cells5 b1
  go_wp2_with fail
  have bv := heap_alloc_new w3 (.cells #[.slice AW s.M.W.length cW, .slice AG s.M.G.length cG, .bool s.M.bad, .slice AC' s.C.length cC', .slice AL' s.L.length cL'] 28)
  have t4 : Turn (fun _ => False) w3 (w3.alloc (.cells #[.slice AW s.M.W.length cW, .slice AG s.M.G.length cG, .bool s.M.bad, .slice AC' s.C.length cC', .slice AL' s.L.length cL'] 28)) := (Turn.refl _ _).alloc _
  replace SI := SI.turn t4 (fun _ _ h => h)
  replace b1 := (t4.block w.heap.size hz0 id).trans b1
  replace b2 := (t4.block (w.heap.size + 1) hz id).trans b2
  skip
  replace hb := bstep hb (boxed w3 (.cells #[.slice AW s.M.W.length cW, .slice AG s.M.G.length cG, .bool s.M.bad, .slice AC' s.C.length cC', .slice AL' s.L.length cL'] 28))
  have vx : w3.heap.size < (w3.alloc (.cells #[.slice AW s.M.W.length cW, .slice AG s.M.G.length cG, .bool s.M.bad, .slice AC' s.C.length cC', .slice AL' s.L.length cL'] 28)).heap.size := by simp
  clear t4 p0 p1 p2 p3 p4
  obtain ⟨v, hv⟩ : ∃ v, w3.heap.size = v := ⟨_, rfl⟩
  generalize (w3.alloc (.cells #[.slice AW s.M.W.length cW, .slice AG s.M.G.length cG, .bool s.M.bad, .slice AC' s.C.length cC', .slice AL' s.L.length cL'] 28)) = w4 at *
  rw [hv] at bv vx hz hz0 hmv hside ⊢
  have HSD := hid hside
  clear hside
  clear hv
  refine (hasFrame_out _ _ _ _ _ _ _ _ s i _ h2 hi).mono ?_
  rintro e w5 ⟨rfl, hk⟩
  replace b1 := (hk.block w.heap.size (by omega)).trans b1
  replace b2 := (hk.block (w.heap.size + 1) (by omega)).trans b2
  replace bv := (hk.block v vx).trans bv
  replace SI := SI.turn (Turn.below (Turn.refl (fun _ => False) _) hk) (fun _ _ h => h)
  replace hb := bstep hb hk
  replace vx := Nat.lt_of_lt_of_le vx hk.size
  clear hk
  obtain ⟨m0, m1, m2, m3, m4⟩ := cells5 bv
  obtain ⟨mf0, mf1, mf2, mf3, mf4⟩ := frz5 bv
  obtain ⟨q0, q1, q2, q3, q4⟩ := cells5 b2
  obtain ⟨qf0, qf1, qf2, qf3, qf4⟩ := frz5 b2
  clear b1 b2 bv
  go_wp2
  refine bodyPost_ret (v := .agg #[.slice AW s.M.W.length cW, .slice AG s.M.G.length cG, .bool s.M.bad, .slice AC' s.C.length cC', .slice AL' s.L.length cL']) (by simp [results, Try.results78, go_sem, q0, q1, q2, q3, q4]) rfl ?_
  have key : ∀ w', Turn (fun b => (b = w.heap.size + 1) ∨ b < w.heap.size) w5 w' → RetSys w' s (.returned (.agg #[.slice AW s.M.W.length cW, .slice AG s.M.G.length cG, .bool s.M.bad, .slice AC' s.C.length cC', .slice AL' s.L.length cL'])) w' := fun w' hT => (SI.turn hT (fun b hb e => by omega)).told cW cG (Below.refl _ _)
  exact retN (p := fun b => b = w.heap.size + 1) key (turn5 _ _ _ _ _ _ _) (hb.trans ((turn5 _ _ _ _ _ _ _).to_below hb.size (fun g hg => by omega)))



set_option maxRecDepth 100000 in
set_option maxHeartbeats 8000000 in
theorem back_noneN (A B AC AL : Option Addr) (c d cC cL : Nat) (s : Sy) (k : Nat) (x : Co) (z er : Int) (hx : s.C[k]? = some x) (hF : x.F.length = 0) (w : World) (hW : Row w A s.M.W) (hG : Row w B s.M.G) (hC : RowC w AC s.C) (hL : RowE w AL s.L) (h0 : s.M.W.length ≤ 1000000) (h1 : s.M.G.length ≤ 1000000) (h2 : s.C.length ≤ 1000000) (h3 : s.L.length ≤ 1000000) (h4 : ∀ x ∈ s.C, x.ret.length ≤ 1000000 ∧ x.F.length ≤ 1000000 ∧ ∀ f ∈ x.F, f.S.length ≤ 1000000) :
    Calls Try.prog 78 #[.agg #[.slice A s.M.W.length c, .slice B s.M.G.length d, .bool s.M.bad, .slice AC s.C.length cC, .slice AL s.L.length cL], .int .i64 k, .int .i64 z, .int .i64 er] w (RetSysN w s) := by
  have hxF : ¬ 0 < x.F.length := by omega
  obtain ⟨b1, b2, bs⟩ := heap2 w (.cells #[.slice A s.M.W.length c, .slice B s.M.G.length d, .bool s.M.bad, .slice AC s.C.length cC, .slice AL s.L.length cL] 28) (.cells #[.slice none 0 0, .slice none 0 0, .bool false, .slice none 0 0, .slice none 0 0] 28)
  have hw2 : Below w.heap.size w ((w.alloc (.cells #[.slice A s.M.W.length c, .slice B s.M.G.length d, .bool s.M.bad, .slice AC s.C.length cC, .slice AL s.L.length cL] 28)).alloc (.cells #[.slice none 0 0, .slice none 0 0, .bool false, .slice none 0 0, .slice none 0 0] 28)) := bstep (boxed _ _) (boxed _ _)
  have H4 := hid h4
  clear h4
  go_enter Try.func78, Try.ntmps78
  go_wp2_with fail
  generalize ((w.alloc (.cells #[.slice A s.M.W.length c, .slice B s.M.G.length d, .bool s.M.bad, .slice AC s.C.length cC, .slice AL s.L.length cL] 28)).alloc (.cells #[.slice none 0 0, .slice none 0 0, .bool false, .slice none 0 0, .slice none 0 0] 28)) = w2 at *
  refine (copied_any A B AC AL c d cC cL s w2 (hW.step hw2) (hG.step hw2) (hC.step hw2) (hL.step hw2) h0 h1 h2 h3 H4.out).mono ?_
  rintro e w3 ⟨lo, hm, own, vs, AW, AG, cW, cG, vC, vL, rfl, hlo, SI, hk⟩
  have hmv : hm ≤ w3.heap.size := SI.hw
  have SI := SI.seal
  have hside : ∀ b, w3.heap.size ≤ b → Side s lo hm (fun b => if b < w3.heap.size then own b else s.C.length) b := fun b hb => .inr ⟨by omega, if_neg (by omega)⟩
  generalize (fun b => if b < w3.heap.size then own b else s.C.length) = own2 at *
  obtain ⟨AC', cC', rfl⟩ := own_val SI.co
  obtain ⟨AL', cL', rfl⟩ := own_val SI.ev
  replace b1 := (hk.block w.heap.size (by omega)).trans b1
  replace b2 := (hk.block (w.heap.size + 1) (by omega)).trans b2
  have hb := bstep hw2 hk
  have hz : w.heap.size + 1 < w3.heap.size := by have := hk.size; omega
  have hz0 : w.heap.size < w3.heap.size := by omega
  have hlo2 : w.heap.size + 1 < lo := by omega
  clear hk hw2 bs hlo hW hG hL h0 h1
  obtain ⟨p0, p1, p2, p3, p4⟩ := cells5 b1
  go_wp2_with fail
  have bv := heap_alloc_new w3 (.cells #[.slice AW s.M.W.length cW, .slice AG s.M.G.length cG, .bool s.M.bad, .slice AC' s.C.length cC', .slice AL' s.L.length cL'] 28)
  have t4 : Turn (fun _ => False) w3 (w3.alloc (.cells #[.slice AW s.M.W.length cW, .slice AG s.M.G.length cG, .bool s.M.bad, .slice AC' s.C.length cC', .slice AL' s.L.length cL'] 28)) := (Turn.refl _ _).alloc _
  replace SI := SI.turn t4 (fun _ _ h => h)
  replace b1 := (t4.block w.heap.size hz0 id).trans b1
  replace b2 := (t4.block (w.heap.size + 1) hz id).trans b2
  skip
  replace hb := bstep hb (boxed w3 (.cells #[.slice AW s.M.W.length cW, .slice AG s.M.G.length cG, .bool s.M.bad, .slice AC' s.C.length cC', .slice AL' s.L.length cL'] 28))
  have vx : w3.heap.size < (w3.alloc (.cells #[.slice AW s.M.W.length cW, .slice AG s.M.G.length cG, .bool s.M.bad, .slice AC' s.C.length cC', .slice AL' s.L.length cL'] 28)).heap.size := by simp
  clear t4 p0 p1 p2 p3 p4
  obtain ⟨v, hv⟩ : ∃ v, w3.heap.size = v := ⟨_, rfl⟩
  generalize (w3.alloc (.cells #[.slice AW s.M.W.length cW, .slice AG s.M.G.length cG, .bool s.M.bad, .slice AC' s.C.length cC', .slice AL' s.L.length cL'] 28)) = w4 at *
  rw [hv] at bv vx hz hz0 hmv hside ⊢
  have HSD := hid hside
  clear hside
  clear hv
  refine (hasFrame_at _ _ _ _ _ _ _ _ s k x _ (hC.step hb) h2 hx (H4.out x (List.mem_of_getElem? hx)).2.1).mono ?_
  rintro e w5 ⟨rfl, hk⟩
  rw [decide_eq_false hxF]
  replace b1 := (hk.block w.heap.size (by omega)).trans b1
  replace b2 := (hk.block (w.heap.size + 1) (by omega)).trans b2
  replace bv := (hk.block v vx).trans bv
  replace SI := SI.turn (Turn.below (Turn.refl (fun _ => False) _) hk) (fun _ _ h => h)
  replace hb := bstep hb hk
  replace vx := Nat.lt_of_lt_of_le vx hk.size
  clear hk
  obtain ⟨m0, m1, m2, m3, m4⟩ := cells5 bv
  obtain ⟨mf0, mf1, mf2, mf3, mf4⟩ := frz5 bv
  obtain ⟨q0, q1, q2, q3, q4⟩ := cells5 b2
  obtain ⟨qf0, qf1, qf2, qf3, qf4⟩ := frz5 b2
  clear b1 b2 bv
  go_wp2
  refine bodyPost_ret (v := .agg #[.slice AW s.M.W.length cW, .slice AG s.M.G.length cG, .bool s.M.bad, .slice AC' s.C.length cC', .slice AL' s.L.length cL']) (by simp [results, Try.results78, go_sem, q0, q1, q2, q3, q4]) rfl ?_
  have key : ∀ w', Turn (fun b => (b = w.heap.size + 1) ∨ b < w.heap.size) w5 w' → RetSys w' s (.returned (.agg #[.slice AW s.M.W.length cW, .slice AG s.M.G.length cG, .bool s.M.bad, .slice AC' s.C.length cC', .slice AL' s.L.length cL'])) w' := fun w' hT => (SI.turn hT (fun b hb e => by omega)).told cW cG (Below.refl _ _)
  exact retN (p := fun b => b = w.heap.size + 1) key (turn5 _ _ _ _ _ _ _) (hb.trans ((turn5 _ _ _ _ _ _ _).to_below hb.size (fun g hg => by omega)))



end Go.Proofs.Ythpflcknommpdaa
