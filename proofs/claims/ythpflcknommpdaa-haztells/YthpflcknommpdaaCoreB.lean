/- Contract: core.Back; the rows stand whatever becomes of older blocks. -/
import Derived.Test.YthpflcknommpdaaKCoT
import Derived.Deep.DrawnRows
import Derived.Deep.RegionWith
import Derived.Test.YthpflcknommpdaaCoreB0
namespace Go.Proofs.Ythpflcknommpdaa
open Go.RowKit
set_option linter.unusedVariables false
set_option linter.unusedSimpArgs false

set_option maxRecDepth 100000 in
set_option maxHeartbeats 16000000 in
theorem back_yesN (A B AC AL : Option Addr) (c d cC cL : Nat) (s : Sy) (k n : Nat) (x : Co) (z er : Int) (hx : s.C[k]? = some x) (hn : x.F.length = n + 1) (w : World) (hW : Row w A s.M.W) (hG : Row w B s.M.G) (hC : RowC w AC s.C) (hL : RowE w AL s.L) (h0 : s.M.W.length ≤ 1000000) (h1 : s.M.G.length ≤ 1000000) (h2 : s.C.length ≤ 1000000) (h3 : s.L.length ≤ 1000000) (h4 : ∀ x ∈ s.C, x.ret.length ≤ 1000000 ∧ x.F.length ≤ 1000000 ∧ ∀ f ∈ x.F, f.S.length ≤ 1000000) :
    Calls Try.prog 78 #[.agg #[.slice A s.M.W.length c, .slice B s.M.G.length d, .bool s.M.bad, .slice AC s.C.length cC, .slice AL s.L.length cL], .int .i64 k, .int .i64 z, .int .i64 er] w (RetSysN w (syWith s k (coBack x n z er))) := by
  have hxF : 0 < x.F.length := by omega
  have hkl : k < s.C.length := (List.getElem?_eq_some_iff.1 hx).1
  have HX := hid hx
  clear hx
  obtain ⟨b1, b2, bs⟩ := heap2 w (.cells #[.slice A s.M.W.length c, .slice B s.M.G.length d, .bool s.M.bad, .slice AC s.C.length cC, .slice AL s.L.length cL] 28) (.cells #[.slice none 0 0, .slice none 0 0, .bool false, .slice none 0 0, .slice none 0 0] 28)
  have hw2 : Below w.heap.size w ((w.alloc (.cells #[.slice A s.M.W.length c, .slice B s.M.G.length d, .bool s.M.bad, .slice AC s.C.length cC, .slice AL s.L.length cL] 28)).alloc (.cells #[.slice none 0 0, .slice none 0 0, .bool false, .slice none 0 0, .slice none 0 0] 28)) := bstep (boxed _ _) (boxed _ _)
  have H4 := hid h4
  clear h4
  go_enter Try.func78, Try.ntmps78
  go_wp2_with fail
  generalize ((w.alloc (.cells #[.slice A s.M.W.length c, .slice B s.M.G.length d, .bool s.M.bad, .slice AC s.C.length cC, .slice AL s.L.length cL] 28)).alloc (.cells #[.slice none 0 0, .slice none 0 0, .bool false, .slice none 0 0, .slice none 0 0] 28)) = w2 at *
  refine (copied_any A B AC AL c d cC cL s w2 (hW.step hw2) (hG.step hw2) (hC.step hw2) (hL.step hw2) h0 h1 h2 h3 H4.out).mono ?_
  rintro e w3 ⟨lo, hm, own, vs, AW, AG, cW, cG, vC, vL, rfl, hlo, SI, hk⟩
  have hmv : hm ≤ w3.heap.size := SI.hw
  have SI := SI.seal
  have hside : ∀ b, w3.heap.size ≤ b → Side s lo hm (fun b => if b < w3.heap.size then own b else s.C.length) b := fun b hb => .inr ⟨by omega, if_neg (by omega)⟩
  generalize (fun b => if b < w3.heap.size then own b else s.C.length) = own2 at *
  obtain ⟨AC', cC', rfl⟩ := own_val SI.co
  obtain ⟨AL', cL', rfl⟩ := own_val SI.ev
  replace b1 := (hk.block w.heap.size (by omega)).trans b1
  replace b2 := (hk.block (w.heap.size + 1) (by omega)).trans b2
  have hb := bstep hw2 hk
  have hz : w.heap.size + 1 < w3.heap.size := by have := hk.size; omega
  have hz0 : w.heap.size < w3.heap.size := by omega
  have hlo2 : w.heap.size + 1 < lo := by omega
  clear hk hw2 bs hlo hW hG hL h0 h1
  obtain ⟨p0, p1, p2, p3, p4⟩ := cells5 b1
  go_wp2_with fail
  have bv := heap_alloc_new w3 (.cells #[.slice AW s.M.W.length cW, .slice AG s.M.G.length cG, .bool s.M.bad, .slice AC' s.C.length cC', .slice AL' s.L.length cL'] 28)
  have t4 : Turn (fun _ => False) w3 (w3.alloc (.cells #[.slice AW s.M.W.length cW, .slice AG s.M.G.length cG, .bool s.M.bad, .slice AC' s.C.length cC', .slice AL' s.L.length cL'] 28)) := (Turn.refl _ _).alloc _
  replace SI := SI.turn t4 (fun _ _ h => h)
  replace b1 := (t4.block w.heap.size hz0 id).trans b1
  replace b2 := (t4.block (w.heap.size + 1) hz id).trans b2
  skip
  replace hb := bstep hb (boxed w3 (.cells #[.slice AW s.M.W.length cW, .slice AG s.M.G.length cG, .bool s.M.bad, .slice AC' s.C.length cC', .slice AL' s.L.length cL'] 28))
  have vx : w3.heap.size < (w3.alloc (.cells #[.slice AW s.M.W.length cW, .slice AG s.M.G.length cG, .bool s.M.bad, .slice AC' s.C.length cC', .slice AL' s.L.length cL'] 28)).heap.size := by simp
  clear t4 p0 p1 p2 p3 p4
  obtain ⟨v, hv⟩ : ∃ v, w3.heap.size = v := ⟨_, rfl⟩
  generalize (w3.alloc (.cells #[.slice AW s.M.W.length cW, .slice AG s.M.G.length cG, .bool s.M.bad, .slice AC' s.C.length cC', .slice AL' s.L.length cL'] 28)) = w4 at *
  rw [hv] at bv vx hz hz0 hmv hside ⊢
  have HSD := hid hside
  clear hside
  clear hv
  refine (hasFrame_at _ _ _ _ _ _ _ _ s k x _ (hC.step hb) h2 HX.out (H4.out x (List.mem_of_getElem? HX.out)).2.1).mono ?_
  rintro e w5 ⟨rfl, hk⟩
  rw [decide_eq_true hxF]
  replace b1 := (hk.block w.heap.size (by omega)).trans b1
  replace b2 := (hk.block (w.heap.size + 1) (by omega)).trans b2
  replace bv := (hk.block v vx).trans bv
  replace SI := SI.turn (Turn.below (Turn.refl (fun _ => False) _) hk) (fun _ _ h => h)
  replace hb := bstep hb hk
  replace vx := Nat.lt_of_lt_of_le vx hk.size
  clear hk
  obtain ⟨g, cap, AF, AR, cF, cR, ps, eC, hvk, hg1, hg2, CI, hcell, hfz⟩ := SI.look HX.out
  obtain ⟨rfl, rfl⟩ : AC' = some ⟨g, 0, none⟩ ∧ cC' = cap := by simpa using eC
  obtain ⟨gF, capF, eF, _, _⟩ := CI.fr.form hxF
  obtain ⟨rfl, rfl⟩ : AF = some ⟨gF, 0, none⟩ ∧ cF = capF := by simpa using eF
  have hcap : n + 1 ≤ cF := by
    rcases CI.fr.2 with ⟨h, _⟩ | ⟨_, _, _, h, _, _, h6, _⟩
    · cases h
    · injection h with _ _ h; omega
  clear eC eF
  have u0 : w5.cell? ⟨g, k * 7, none⟩ = some (.slice (some ⟨gF, 0, none⟩) (n + 1) cF) := by rw [← hn]; exact hcell 0 _ rfl
  have u1 : w5.cell? ⟨g, k * 7 + 1, none⟩ = some (.int .i64 x.v) := hcell 1 _ rfl
  have u2 : w5.cell? ⟨g, k * 7 + 2, none⟩ = some (.int .i64 x.e) := hcell 2 _ rfl
  have HC5 := hid (hC.step hb)
  obtain ⟨p0, p1, p2, p3, p4⟩ := cells5 b1
  obtain ⟨-, -, -, m3⟩ := cells4 bv
  have gl5 : g < w5.heap.size := World.block_lt_of_cell? w5 _ u0
  have n5 : w.heap.size < w5.heap.size := by omega
  have h5 : x.F.length ≤ 1000000 := (H4.out x (List.mem_of_getElem? HX.out)).2.1
  have HN := hid (show (x.F.length : Int) - 1 = (n : Int) by omega)
  have kl : (k : Int) < (s.C.length : Int) := by omega
  have nl : (n : Int) ≤ (cF : Int) := by omega
  have HFZ := hid hfz
  have Hhn := hid hn
  clear hcell hfz hn
  go_upto_region 3 with (fail)
  go_cut [9] from 10 (fun s0 wx => s0 = .pointer (some ⟨v, 0, none⟩) ∧ ∃ w6, Below w5.heap.size w5 w6 ∧ wx = w6.setCell ⟨g, k * 7, none⟩ (.slice (some ⟨gF, 0, none⟩) n cF))
  case first =>
    clear SI CI b1 b2 bv u1 u2 hvk
    go_region_with (first
      | (go_at_call 76; (with_reducible refine (last_at A B AC AL c d cC cL s k x _ (HC5.out.step ((Below.refl _ _).drew)) h2 HX.out h5).mono ?_); rintro e w6 ⟨rfl, hk6⟩; rw [HN.out]; have hj : Below w5.heap.size w5 w6 := bstep ((Below.refl _ _).drew) hk6; have m36 := (hj.cell vx).trans m3; have u06 := (hj.cell gl5).trans u0; have f06 := (hj.frozen gl5).trans (HFZ.out (k * 7))))
    all_goals go_wp2_with fail
    all_goals go_meet
    all_goals exact ⟨rfl, _, hj, rfl⟩
  case rest =>
    obtain ⟨rfl, w6, hj, rfl⟩ := hcut
    have SI6 := SI.turn (Turn.below (Turn.refl (fun _ => False) _) hj) (fun _ _ h => h)
    have CI6 := CI.keep hj.size (fun b hl _ => hj.block b hl)
    replace b2 := (hj.block (w.heap.size + 1) (by omega)).trans b2
    replace bv := (hj.block v vx).trans bv
    replace hb := bstep hb hj
    obtain ⟨m0, m1, m2, m3, m4⟩ := cells5 bv
    obtain ⟨mf0, mf1, mf2, mf3, mf4⟩ := frz5 bv
    obtain ⟨q0, q1, q2, q3, q4⟩ := cells5 b2
    obtain ⟨qf0, qf1, qf2, qf3, qf4⟩ := frz5 b2
    have x0 := (hj.cell gl5).trans u0
    have x1 := (hj.cell gl5).trans u1
    have x2 := (hj.cell gl5).trans u2
    have xf0 := (hj.frozen gl5).trans (HFZ.out (k * 7))
    have xf1 := (hj.frozen gl5).trans (HFZ.out (k * 7 + 1))
    have xf2 := (hj.frozen gl5).trans (HFZ.out (k * 7 + 2))
    have ne1 : v ≠ g := by omega
    have ne2 : w.heap.size + 1 ≠ g := by omega
    have ne3 : g ≠ v := by omega
    have ne4 : g ≠ w.heap.size + 1 := by omega
    have ne5 : v ≠ w.heap.size + 1 := by omega
    clear SI CI hj b1 b2 bv u0 u1 u2 p0 p1 p2 p3 p4
    go_wp2
    refine bodyPost_ret (v := .agg #[.slice AW s.M.W.length cW, .slice AG s.M.G.length cG, .bool s.M.bad, .slice (some ⟨g, 0, none⟩) s.C.length cC', .slice AL' s.L.length cL']) (by simp [results, Try.results78, go_sem, q0, q1, q2, q3, q4]) rfl ?_
    have key : ∀ w', Turn (fun b => (b = w.heap.size + 1) ∨ b < w.heap.size) (((w6.setCell ⟨g, k * 7, none⟩ (.slice (some ⟨gF, 0, none⟩) n cF)).setCell ⟨g, k * 7 + 1, none⟩ (.int .i64 z)).setCell ⟨g, k * 7 + 2, none⟩ (.int .i64 er)) w' → RetSys w' (syWith s k (coBack x n z er)) (.returned (.agg #[.slice AW s.M.W.length cW, .slice AG s.M.G.length cG, .bool s.M.bad, .slice (some ⟨g, 0, none⟩) s.C.length cC', .slice AL' s.L.length cL'])) w' := fun w' hT => by
      have t1 : Turn (fun b => b = g) w6 (((w6.setCell ⟨g, k * 7, none⟩ (.slice (some ⟨gF, 0, none⟩) n cF)).setCell ⟨g, k * 7 + 1, none⟩ (.int .i64 z)).setCell ⟨g, k * 7 + 2, none⟩ (.int .i64 er)) := (((Turn.refl (fun b => b = g) w6).set rfl _ _).set rfl _ _).set rfl _ _
      have h1 := (((SI6.co.stored (k * 7) (.slice (some ⟨gF, 0, none⟩) n cF)).1.stored (k * 7 + 1) (.int .i64 z)).1.stored (k * 7 + 2) (.int .i64 er)).1
      rw [csV_set3 SI6.len HX.out hvk] at h1
      have tt : Turn (fun b => b = g ∨ b = w.heap.size + 1 ∨ b < w.heap.size) w6 w' := (t1.mono (fun b _ h => .inl h)).trans (hT.mono (fun b _ h => .inr h))
      refine SI6.put (x' := coBack x n z er) (vF' := (.slice (some ⟨gF, 0, none⟩) n cF)) (vR' := .slice AR x.ret.length cR) HX.out hvk (tt.mono (fun b _ h => ?_)) (own_turn h1 hT (fun b hb h => ?_)) ?_ cW cG (Below.refl _ _)
      · rcases h with rfl | rfl | h
        · exact .inl rfl
        · exact .inr (.inr (.inl hlo2))
        · exact .inr (.inr (.inl (by omega)))
      · simp [Value.ownBlock] at hb; omega
      · obtain ⟨AF2, cF2, AR2, cR2, e1, e2, r1, r2⟩ := (CI6.turn tt (fun b _ hb h => by omega)).told
        obtain ⟨rfl, rfl⟩ : some ⟨gF, 0, none⟩ = AF2 ∧ cF = cF2 := by simpa using e1
        obtain ⟨rfl, rfl⟩ : AR = AR2 ∧ cR = cR2 := by simpa using e2
        exact ⟨_, cF, _, cR, by simp [coBack]; have := Hhn.out; omega, rfl, r1.take n, r2.1, by simp [coBack]; omega, by simpa [coBack] using r2.2.2⟩
    have t1 : Turn (fun b => b = g ∨ b = w.heap.size + 1) w6 (((w6.setCell ⟨g, k * 7, none⟩ (.slice (some ⟨gF, 0, none⟩) n cF)).setCell ⟨g, k * 7 + 1, none⟩ (.int .i64 z)).setCell ⟨g, k * 7 + 2, none⟩ (.int .i64 er)) := (((Turn.refl (fun b => b = g ∨ b = w.heap.size + 1) w6).set (.inl rfl) _ _).set (.inl rfl) _ _).set (.inl rfl) _ _
    exact retN (p := fun b => b = w.heap.size + 1) key (turn5 _ _ _ _ _ _ _) (hb.trans ((t1.trans ((turn5 _ _ _ _ _ _ _).mono (fun _ _ h => .inr h))).to_below hb.size (fun b h => by omega)))

end Go.Proofs.Ythpflcknommpdaa
