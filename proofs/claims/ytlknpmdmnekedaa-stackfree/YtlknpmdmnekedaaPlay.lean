/- Contract: cores pop and push by picks (hazellaw04.play). -/
import Derived.Test.YtlknpmdmnekedaaPlay0
import Derived.Test.YtlknpmdmnekedaaStk9
import Derived.Test.YtlknpmdmnekedaaNew4
import Derived.Deep.CutRange
import Derived.Deep.RegionLaw
namespace Go.Proofs.Ytlknpmdmnekedaa
open Go.RowKit
set_option linter.unusedVariables false
set_option linter.unusedSimpArgs false
attribute [local go_sem] Oper.semAt_some

/-- A slice of 16-bit numbers. -/
def RowU (w : World) (A : Option Addr) (us : List Nat) : Prop :=
  0 < us.length → ∃ b o, A = some ⟨b, o, none⟩ ∧ b < w.heap.size ∧ ∀ (j u : Nat), us[j]? = some u → w.cell? ⟨b, o + j, none⟩ = some (.int .u16 (u : Int)) ∧ u ≤ 65535
theorem RowU.step {w w' : World} {A : Option Addr} {us : List Nat} (h : RowU w A us) (hb : Below w.heap.size w w') : RowU w' A us := fun hn => by
  obtain ⟨b, o, e, hl, hc⟩ := h hn
  exact ⟨b, o, e, Nat.lt_of_lt_of_le hl hb.size, fun j u hu => ⟨(hb.cell hl).trans (hc j u hu).1, (hc j u hu).2⟩⟩
/-- What play returns. -/
def RetPlay (w : World) (y : PS) (e : Ending) (w' : World) : Prop := ∃ (A B C L : Option Addr) (a b c d g : Nat) (qs : List (Option Addr × Nat)), e = .returned (.tuple #[.agg #[.slice A y.s.M.W.length a, .slice B y.s.M.G.length b, .bool y.s.M.bad, .slice C y.s.C.length c, .slice L y.s.L.length d], .slice (some ⟨g, 0, none⟩) y.own.length y.own.length, .bool true]) ∧ RS w' y.s A B C L ∧ OwnsAt w' g y.own qs ∧ Below w.heap.size w w'
theorem infoPt : (Try.prog.info? 24).map (fun i => (i.zero, i.size, i.bytes)) = some (some (.slice none 0 0), 1, 24) := by kernel_rfl
/-- make([][]int, n), in any world. -/
theorem make_parts (n : Nat) (hn : n ≤ 1000000) (w : World) :
    (Instr.makeSlice 31 (.int .i64 (n : Int)) (.int .i64 (n : Int))).run Try.prog w = .ok (.slice (some ⟨w.heap.size, 0, none⟩) n n) (w.alloc (.cells (madeCells #[.slice none 0 0] n) 24)) := by
  obtain ⟨i0, hi0, hz0, hz1, hz2⟩ := info_parts infoPt
  have hr := run_make (P := Try.prog) w 31 24 i0 _ Try.underlying31 hi0 hz0 .i64 .i64 n n (by omega) (by omega) (by rw [hz2]; omega) (by omega)
  simp only [Int.toNat_natCast, hz1, Nat.mul_one] at hr
  exact hr
def RPlay (w0 : World) (v g r c n : Nat) (us : List Nat) (i : Value) (wr : World) : Prop := ∃ k : Nat, k ≤ us.length ∧ i = .int .i64 (k : Int) ∧ PHas w0 v g r #[.slice none 0 0, .slice none 0 0, .bool false, .slice none 0 0, .slice none 0 0] (pPlay c n (us.take k)) wr
set_option maxRecDepth 100000 in
set_option maxHeartbeats 16000000 in
theorem play_any (c n : Nat) (us : List Nat) (AP : Option Addr) (cp : Nat) (w0 : World) (c1 : 1 ≤ c) (c2 : c ≤ 8) (n1 : 1 ≤ n) (n2 : n ≤ 200) (hu : us.length ≤ 300) (hP : RowU w0 AP us) :
    Calls Try.prog 12 #[.int .i64 (c : Int), .int .i64 (n : Int), .slice AP us.length cp] w0 (RetPlay w0 (pPlay c n us)) := by
  have hb : Below w0.heap.size w0 w0 := Below.refl _ _
  have HN := hid (show ∀ w, Calls Try.prog 26 #[.int .i64 (c : Int), .int .i64 (n : Int)] w (RetSys w (syFill c n)) from fun w => rnew4_any c n w n1 n2 c1 c2)
  go_enter Try.func12, Try.ntmps12
  go_upto_region 1 with (fail)
  have BkR := heap_alloc_new w0 (.cells #[.slice none 0 0, .slice none 0 0, .bool false, .slice none 0 0, .slice none 0 0] 30)
  have ltR : w0.heap.size < (w0.alloc (.cells #[.slice none 0 0, .slice none 0 0, .bool false, .slice none 0 0, .slice none 0 0] 30)).heap.size := by simp
  have hk : Below w0.heap.size w0 (w0.alloc (.cells #[.slice none 0 0, .slice none 0 0, .bool false, .slice none 0 0, .slice none 0 0] 30)) := boxed _ _
  have nwR : w0.heap.size ≤ w0.heap.size := hb.size
  replace hb := bstep hb hk
  clear hk
  obtain ⟨vR, hv⟩ : ∃ v, w0.heap.size = v := ⟨_, rfl⟩
  replace nwR := Nat.le_trans nwR (Nat.le_of_eq hv)
  rw [hv] at BkR ltR ⊢
  clear hv
  generalize (w0.alloc (.cells #[.slice none 0 0, .slice none 0 0, .bool false, .slice none 0 0, .slice none 0 0] 30)) = w1 at *
  go_upto_region 2 with (go_at_call 26; (with_reducible refine (HN.out _).mono ?_); rintro e w2 ⟨A5, B5, C5, L5, a5, b5, c5, d5, rfl, rW, rG, rC, rL, hk⟩)
  replace BkR := (hk.block vR ltR).trans BkR
  replace ltR := Nat.lt_of_lt_of_le ltR hk.size
  replace hb := bstep hb hk
  clear hk
  have S5 : RS w2 (syFill c n) A5 B5 C5 L5 := ⟨rW, rG, rC, rL⟩
  clear rW rG rC rL
  have Bk5 := heap_alloc_new w2 (.cells #[.slice A5 (syFill c n).M.W.length a5, .slice B5 (syFill c n).M.G.length b5, .bool (syFill c n).M.bad, .slice C5 (syFill c n).C.length c5, .slice L5 (syFill c n).L.length d5] 30)
  have lt5 : w2.heap.size < (w2.alloc (.cells #[.slice A5 (syFill c n).M.W.length a5, .slice B5 (syFill c n).M.G.length b5, .bool (syFill c n).M.bad, .slice C5 (syFill c n).C.length c5, .slice L5 (syFill c n).L.length d5] 30)).heap.size := by simp
  have hk : Below w2.heap.size w2 (w2.alloc (.cells #[.slice A5 (syFill c n).M.W.length a5, .slice B5 (syFill c n).M.G.length b5, .bool (syFill c n).M.bad, .slice C5 (syFill c n).C.length c5, .slice L5 (syFill c n).L.length d5] 30)) := boxed _ _
  have neR_5 : vR ≠ w2.heap.size := Nat.ne_of_lt ltR
  have nw5 : w0.heap.size ≤ w2.heap.size := hb.size
  replace BkR := (hk.block vR ltR).trans BkR
  replace ltR := Nat.lt_of_lt_of_le ltR hk.size
  replace S5 := S5.step hk
  replace hb := bstep hb hk
  clear hk
  obtain ⟨v5, hv⟩ : ∃ v, w2.heap.size = v := ⟨_, rfl⟩
  replace nw5 := Nat.le_trans nw5 (Nat.le_of_eq hv)
  rw [hv] at Bk5 lt5 neR_5 ⊢
  clear hv
  generalize (w2.alloc (.cells #[.slice A5 (syFill c n).M.W.length a5, .slice B5 (syFill c n).M.G.length b5, .bool (syFill c n).M.bad, .slice C5 (syFill c n).C.length c5, .slice L5 (syFill c n).L.length d5] 30)) = w3 at *
  have HM := make_parts c (by omega)
  go_upto_region 3 with (fail)
  clear HM
  have hgr := heap_alloc_new w3 (.cells (madeCells #[.slice none 0 0] c) 24)
  have hk : Below w3.heap.size w3 (w3.alloc (.cells (madeCells #[.slice none 0 0] c) 24)) := boxed _ _
  have HS : PHas w0 v5 w3.heap.size vR #[.slice none 0 0, .slice none 0 0, .bool false, .slice none 0 0, .slice none 0 0] (pPlay c n (us.take 0)) (w3.alloc (.cells (madeCells #[.slice none 0 0] c) 24)) := ⟨List.replicate c (none, 0), A5, B5, C5, L5, a5, b5, c5, d5, PHolds.fresh S5 Bk5 hb BkR neR_5⟩
  have nwg : w0.heap.size ≤ w3.heap.size := hb.size
  replace hb := bstep hb hk
  clear hk
  clear S5 Bk5 lt5 HN hgr BkR ltR neR_5
  obtain ⟨g, hg⟩ : ∃ g, w3.heap.size = g := ⟨_, rfl⟩
  rw [hg] at HS nwg ⊢
  clear hg
  generalize (w3.alloc (.cells (madeCells #[.slice none 0 0] c) 24)) = w4 at *
  go_wp2_with fail
  clear hb
  go_loopw [11] (fun i wr => RPlay w0 v5 g vR c n us i wr) (fun i _ => us.length - (intOf i).toNat)
  case atStart => exact ⟨0, by omega, rfl, HS⟩
  case round =>
    clear HS
    obtain ⟨k, hk1, rfl, qs, A, B, C, L, a, b, e, d, H⟩ := hrel
    by_cases hlt : k < us.length
    · have kl : (k : Int) < (us.length : Int) := by omega
      obtain ⟨u, hu1⟩ : ∃ u, us[k]? = some u := ⟨_, List.getElem?_eq_getElem hlt⟩
      obtain ⟨bP, oP, eP, lP, hcP⟩ := hP (by omega)
      obtain ⟨xP, u2⟩ := hcP k u hu1
      subst eP
      have y1 : wr.cell? ⟨bP, oP + k, none⟩ = some (.int .u16 (u : Int)) := (H.be.cell lP).trans xP
      obtain ⟨j, hj⟩ : ∃ j, j = u % c := ⟨_, rfl⟩
      have hjc : j < c := by rw [hj]; exact Nat.mod_lt _ (by omega)
      have hmod : (u : Int) % (c : Int) = (j : Int) := by rw [hj]; exact (Int.natCast_emod u c).symm
      have c1i : 1 ≤ (c : Int) := by omega
      have u2i : (u : Int) ≤ 65535 := by omega
      have u0i : 0 ≤ (u : Int) := by omega
      have hI := PInv.play n1 n2 c1 c2 us k (by omega) (by omega)
      have hnx := play_succ c n us hu1
      obtain ⟨y, hy⟩ : ∃ y, y = pPlay c n (us.take k) := ⟨_, rfl⟩
      rw [← hy] at H hI hnx
      have HJ := hid hj
      have HNX := hid hnx
      have HUS := hid hu1
      clear hy hj hnx hu1 hcP
      go_upto_region 7 with (fail)
      rw [hmod]
      obtain ⟨bz, hbz⟩ : ∃ z : Bool, z = (pTop y.s (j : Int)).isSome := ⟨_, rfl⟩
      have p0 : wr.cell? ⟨v5, 0, none⟩ = some (.slice A y.s.M.W.length a) := cell_of_row wr _ 0 _ _ _ H.sv
      have p1 : wr.cell? ⟨v5, 1, none⟩ = some (.slice B y.s.M.G.length b) := cell_of_row wr _ 1 _ _ _ H.sv
      have p2 : wr.cell? ⟨v5, 2, none⟩ = some (.bool y.s.M.bad) := cell_of_row wr _ 2 _ _ _ H.sv
      have p3 : wr.cell? ⟨v5, 3, none⟩ = some (.slice C y.s.C.length e) := cell_of_row wr _ 3 _ _ _ H.sv
      have p4 : wr.cell? ⟨v5, 4, none⟩ = some (.slice L y.s.L.length d) := cell_of_row wr _ 4 _ _ _ H.sv
      have pf0 : wr.frozen? ⟨v5, 0, none⟩ = false := frozen_of_row wr _ 0 _ _ H.sv
      have pf1 : wr.frozen? ⟨v5, 1, none⟩ = false := frozen_of_row wr _ 1 _ _ H.sv
      have pf2 : wr.frozen? ⟨v5, 2, none⟩ = false := frozen_of_row wr _ 2 _ _ H.sv
      have pf3 : wr.frozen? ⟨v5, 3, none⟩ = false := frozen_of_row wr _ 3 _ _ H.sv
      have pf4 : wr.frozen? ⟨v5, 4, none⟩ = false := frozen_of_row wr _ 4 _ _ H.sv
      go_cut [13, 14] from 23 to 132 (fun y13 y14 wx => y14 = .bool bz ∧ PHolds w0 v5 g vR #[.slice none 0 0, .slice none 0 0, .bool false, .slice none 0 0, .slice none 0 0]  y qs A B C L a b e d wx)
      case first =>
        rcases pTop_cases y.s (j : Int) hI.ok.few H.rs.C with hp | ⟨op, pc, r0, r1, r2, r3, r4, r5, r6, r7, xs, hp, h6⟩
        · have hz : bz = false := by rw [hbz, hp]; rfl
          have HT := hid (show ∀ w, RS w y.s A B C L → Calls Try.prog 14 #[.agg #[.slice A y.s.M.W.length a, .slice B y.s.M.G.length b, .bool y.s.M.bad, .slice C y.s.C.length e, .slice L y.s.L.length d], .int .i64 (j : Int)] w _ from fun w k1 => rtop_no A B C L a b e d y.s (j : Int) w hI.ok.few k1 hp)
          clear hbz hp
          go_wp2_with (go_at_call 14; (with_reducible refine (HT.out _ H.rs).mono ?_); rintro e wk ⟨rfl, hk⟩)
          go_meet
          exact ⟨by rw [hz], H.step (bstep hk (boxed _ _))⟩
        · have hz : bz = true := by rw [hbz, hp]; rfl
          have HT := hid (show ∀ w, RS w y.s A B C L → Calls Try.prog 14 #[.agg #[.slice A y.s.M.W.length a, .slice B y.s.M.G.length b, .bool y.s.M.bad, .slice C y.s.C.length e, .slice L y.s.L.length d], .int .i64 (j : Int)] w _ from fun w k1 => rtop_is A B C L a b e d y.s (j : Int) op pc r0 r1 r2 r3 r4 r5 r6 r7 xs w hI.ok.few k1 hp h6)
          clear hbz hp
          go_wp2_with (go_at_call 14; (with_reducible refine (HT.out _ H.rs).mono ?_); rintro e wk ⟨A2, c2, rfl, _, hk⟩)
          go_meet
          exact ⟨by rw [hz], H.step (bstep hk (boxed _ _))⟩
      case rest =>
        clear p0 pf0 p1 pf1 p2 pf2 p3 pf3 p4 pf4 H
        obtain ⟨rfl, H⟩ := hcut
        go_upto_if 43 with (fail)
        go_cut [12, 15] from 23 to 132 (fun y12 y15 wx => y12 = .int .i64 (j : Int) ∧ PHas w0 v5 g vR #[.slice none 0 0, .slice none 0 0, .bool false, .slice none 0 0, .slice none 0 0]  (pBegin y j u) wx)
        case first =>
          clear y1
          rcases hpt : pTop y.s (j : Int) with _ | f9
          · have hz : bz = false := by rw [hbz, hpt]; rfl
            subst hz
            clear hbz
            have jl : (j : Int) < (c : Int) := by omega
            have j0 : 0 ≤ (j : Int) := by omega
            obtain ⟨o, ho⟩ : ∃ o, y.own[j]? = some o := ⟨_, List.getElem?_eq_getElem (by have := hI.ti.ol; omega)⟩
            obtain ⟨⟨qA, qc⟩, hq, hPt, cg, fg⟩ := H.ow.at_ ho
            have xw : wc.cell? ⟨bP, oP + k, none⟩ = some (.int .u16 (u : Int)) := (H.be.cell lP).trans xP
            clear xP
            rcases o with _ | ⟨x, r⟩
            · have hbe : pBegin y j u = ⟨pCall y.s (j : Int) (fr1 1 0 0 0), y.own⟩ := by unfold pBegin; rw [hpt, getD_at ho]
              replace cg : wc.cell? ⟨g, j, none⟩ = some (.slice qA 0 qc) := cg
              clear hPt hpt
              obtain ⟨t, ht⟩ : ∃ t, t = pCall y.s (j : Int) (fr1 1 0 0 0) := ⟨_, rfl⟩
              rw [← ht] at hbe
              have HC := hid (show ∀ w, RS w y.s A B C L → Calls Try.prog 16 #[.agg #[.slice A y.s.M.W.length a, .slice B y.s.M.G.length b, .bool y.s.M.bad, .slice C y.s.C.length e, .slice L y.s.L.length d], .int .i64 (j : Int), .int .i64 1, .int .i64 0, .int .i64 0, .int .i64 0] w (RetSys w t) from fun w k1 => by rw [ht]; exact rcall_u A B C L a b e d y.s (j : Int) 1 0 0 0 w hI.ok.few k1)
              clear ht
              have HBE := hid hbe
              clear hbe
              have p0 : wc.cell? ⟨v5, 0, none⟩ = some (.slice A y.s.M.W.length a) := cell_of_row wc _ 0 _ _ _ H.sv
              have p1 : wc.cell? ⟨v5, 1, none⟩ = some (.slice B y.s.M.G.length b) := cell_of_row wc _ 1 _ _ _ H.sv
              have p2 : wc.cell? ⟨v5, 2, none⟩ = some (.bool y.s.M.bad) := cell_of_row wc _ 2 _ _ _ H.sv
              have p3 : wc.cell? ⟨v5, 3, none⟩ = some (.slice C y.s.C.length e) := cell_of_row wc _ 3 _ _ _ H.sv
              have p4 : wc.cell? ⟨v5, 4, none⟩ = some (.slice L y.s.L.length d) := cell_of_row wc _ 4 _ _ _ H.sv
              have pf0 : wc.frozen? ⟨v5, 0, none⟩ = false := frozen_of_row wc _ 0 _ _ H.sv
              have pf1 : wc.frozen? ⟨v5, 1, none⟩ = false := frozen_of_row wc _ 1 _ _ H.sv
              have pf2 : wc.frozen? ⟨v5, 2, none⟩ = false := frozen_of_row wc _ 2 _ _ H.sv
              have pf3 : wc.frozen? ⟨v5, 3, none⟩ = false := frozen_of_row wc _ 3 _ _ H.sv
              have pf4 : wc.frozen? ⟨v5, 4, none⟩ = false := frozen_of_row wc _ 4 _ _ H.sv
              go_wp2_with (go_at_call 16; (with_reducible refine (HC.out _ H.rs).mono ?_); rintro e9 wk ⟨A9, B9, C9, L9, a9, b9, e9x, d9, rfl, rW, rG, rC, rL, hk⟩; have K9 := (H.step hk).sv; have q0 : wk.cell? ⟨v5, 0, none⟩ = some (.slice A y.s.M.W.length a) := cell_of_row wk _ 0 _ _ _ K9; have q1 : wk.cell? ⟨v5, 1, none⟩ = some (.slice B y.s.M.G.length b) := cell_of_row wk _ 1 _ _ _ K9; have q2 : wk.cell? ⟨v5, 2, none⟩ = some (.bool y.s.M.bad) := cell_of_row wk _ 2 _ _ _ K9; have q3 : wk.cell? ⟨v5, 3, none⟩ = some (.slice C y.s.C.length e) := cell_of_row wk _ 3 _ _ _ K9; have q4 : wk.cell? ⟨v5, 4, none⟩ = some (.slice L y.s.L.length d) := cell_of_row wk _ 4 _ _ _ K9; have qf0 : wk.frozen? ⟨v5, 0, none⟩ = false := frozen_of_row wk _ 0 _ _ K9; have qf1 : wk.frozen? ⟨v5, 1, none⟩ = false := frozen_of_row wk _ 1 _ _ K9; have qf2 : wk.frozen? ⟨v5, 2, none⟩ = false := frozen_of_row wk _ 2 _ _ K9; have qf3 : wk.frozen? ⟨v5, 3, none⟩ = false := frozen_of_row wk _ 3 _ _ K9; have qf4 : wk.frozen? ⟨v5, 4, none⟩ = false := frozen_of_row wk _ 4 _ _ K9)
              go_meet
              exact ⟨rfl, by rw [HBE.out]; exact ⟨_, _, _, _, _, _, _, _, _, H.put nw5 _ _ _ _ hk rW rG rC rL⟩⟩
            · obtain ⟨m, hm⟩ : ∃ m, m = (x :: r).length := ⟨_, rfl⟩
              rw [← hm] at cg
              have m0 : (0 : Int) < (m : Int) := by simp at hm; omega
              have m1 : 0 < m := by simp at hm; omega
              have HMM := hid (show r.length = m - 1 by simp at hm; omega)
              have mc : m ≤ qc := by rw [hm]; exact hPt.1
              clear hm
              obtain ⟨b1, o1, eA, hcx⟩ := hPt.cell (by simp)
              obtain rfl : qA = some ⟨b1, o1, none⟩ := eA
              have cx : wc.cell? ⟨b1, o1, none⟩ = some (.int .i64 x) := hcx 0 x rfl
              clear hcx hPt
              by_cases hbit : u / 8 % 2 = 1
              · have hbe : pBegin y j u = ⟨pCall y.s (j : Int) (fr1 2 0 x 0), y.own.set j r⟩ := by unfold pBegin; rw [hpt, getD_at ho]; simp [hbit]
                have hb1 : ((u : Int) / 8 % 2 == 1) = true := by simp; omega
                clear hbit hpt
                by_cases hc1 : qc = 1
                · subst hc1
                  have m2 : m = 1 := by omega
                  subst m2
                  go_upto_region 12 with (fail)
                  have hr0 : r.length = 0 := by have := HMM.out; omega
                  have H2 := H.last nwg ho hq (A' := some ⟨b1, o1, none⟩)
                  rw [hr0] at H2
                  clear hr0
                  clear cg fg cx xw ho hq
                  generalize (wc.setCell ⟨g, j, none⟩ (.slice (some ⟨b1, o1, none⟩) 0 0)) = wd at *
                  obtain ⟨t, ht⟩ : ∃ t, t = pCall y.s (j : Int) (fr1 2 0 x 0) := ⟨_, rfl⟩
                  rw [← ht] at hbe
                  have HC := hid (show ∀ w, RS w y.s A B C L → Calls Try.prog 16 #[.agg #[.slice A y.s.M.W.length a, .slice B y.s.M.G.length b, .bool y.s.M.bad, .slice C y.s.C.length e, .slice L y.s.L.length d], .int .i64 (j : Int), .int .i64 2, .int .i64 x, .int .i64 0, .int .i64 0] w (RetSys w t) from fun w k1 => by rw [ht]; exact rcall_u A B C L a b e d y.s (j : Int) 2 x 0 0 w hI.ok.few k1)
                  clear ht
                  have HBE := hid hbe
                  clear hbe
                  have p0 : wd.cell? ⟨v5, 0, none⟩ = some (.slice A y.s.M.W.length a) := cell_of_row wd _ 0 _ _ _ H2.sv
                  have p1 : wd.cell? ⟨v5, 1, none⟩ = some (.slice B y.s.M.G.length b) := cell_of_row wd _ 1 _ _ _ H2.sv
                  have p2 : wd.cell? ⟨v5, 2, none⟩ = some (.bool y.s.M.bad) := cell_of_row wd _ 2 _ _ _ H2.sv
                  have p3 : wd.cell? ⟨v5, 3, none⟩ = some (.slice C y.s.C.length e) := cell_of_row wd _ 3 _ _ _ H2.sv
                  have p4 : wd.cell? ⟨v5, 4, none⟩ = some (.slice L y.s.L.length d) := cell_of_row wd _ 4 _ _ _ H2.sv
                  have pf0 : wd.frozen? ⟨v5, 0, none⟩ = false := frozen_of_row wd _ 0 _ _ H2.sv
                  have pf1 : wd.frozen? ⟨v5, 1, none⟩ = false := frozen_of_row wd _ 1 _ _ H2.sv
                  have pf2 : wd.frozen? ⟨v5, 2, none⟩ = false := frozen_of_row wd _ 2 _ _ H2.sv
                  have pf3 : wd.frozen? ⟨v5, 3, none⟩ = false := frozen_of_row wd _ 3 _ _ H2.sv
                  have pf4 : wd.frozen? ⟨v5, 4, none⟩ = false := frozen_of_row wd _ 4 _ _ H2.sv
                  go_wp2_with (go_at_call 16; (with_reducible refine (HC.out _ H2.rs).mono ?_); rintro e9 wk ⟨A9, B9, C9, L9, a9, b9, e9x, d9, rfl, rW, rG, rC, rL, hk⟩; have K9 := (H2.step hk).sv; have q0 : wk.cell? ⟨v5, 0, none⟩ = some (.slice A y.s.M.W.length a) := cell_of_row wk _ 0 _ _ _ K9; have q1 : wk.cell? ⟨v5, 1, none⟩ = some (.slice B y.s.M.G.length b) := cell_of_row wk _ 1 _ _ _ K9; have q2 : wk.cell? ⟨v5, 2, none⟩ = some (.bool y.s.M.bad) := cell_of_row wk _ 2 _ _ _ K9; have q3 : wk.cell? ⟨v5, 3, none⟩ = some (.slice C y.s.C.length e) := cell_of_row wk _ 3 _ _ _ K9; have q4 : wk.cell? ⟨v5, 4, none⟩ = some (.slice L y.s.L.length d) := cell_of_row wk _ 4 _ _ _ K9; have qf0 : wk.frozen? ⟨v5, 0, none⟩ = false := frozen_of_row wk _ 0 _ _ K9; have qf1 : wk.frozen? ⟨v5, 1, none⟩ = false := frozen_of_row wk _ 1 _ _ K9; have qf2 : wk.frozen? ⟨v5, 2, none⟩ = false := frozen_of_row wk _ 2 _ _ K9; have qf3 : wk.frozen? ⟨v5, 3, none⟩ = false := frozen_of_row wk _ 3 _ _ K9; have qf4 : wk.frozen? ⟨v5, 4, none⟩ = false := frozen_of_row wk _ 4 _ _ K9)
                  go_meet
                  exact ⟨rfl, by rw [HBE.out]; exact ⟨_, _, _, _, _, _, _, _, _, H2.put nw5 _ _ _ _ hk rW rG rC rL⟩⟩
                · have hc2 : 1 < qc := by omega
                  have hc3 : (1 : Int) < (qc : Int) := by omega
                  have hm1 : (1 : Int) ≤ (m : Int) := by omega
                  go_upto_region 12 with (fail)
                  have H2 := H.tail nwg ho hq (by omega)
                  rw [HMM.out] at H2
                  clear cg fg cx xw ho hq
                  generalize (wc.setCell ⟨g, j, none⟩ (.slice (some ⟨b1, o1 + 1, none⟩) (m - 1) (qc - 1))) = wd at *
                  obtain ⟨t, ht⟩ : ∃ t, t = pCall y.s (j : Int) (fr1 2 0 x 0) := ⟨_, rfl⟩
                  rw [← ht] at hbe
                  have HC := hid (show ∀ w, RS w y.s A B C L → Calls Try.prog 16 #[.agg #[.slice A y.s.M.W.length a, .slice B y.s.M.G.length b, .bool y.s.M.bad, .slice C y.s.C.length e, .slice L y.s.L.length d], .int .i64 (j : Int), .int .i64 2, .int .i64 x, .int .i64 0, .int .i64 0] w (RetSys w t) from fun w k1 => by rw [ht]; exact rcall_u A B C L a b e d y.s (j : Int) 2 x 0 0 w hI.ok.few k1)
                  clear ht
                  have HBE := hid hbe
                  clear hbe
                  have p0 : wd.cell? ⟨v5, 0, none⟩ = some (.slice A y.s.M.W.length a) := cell_of_row wd _ 0 _ _ _ H2.sv
                  have p1 : wd.cell? ⟨v5, 1, none⟩ = some (.slice B y.s.M.G.length b) := cell_of_row wd _ 1 _ _ _ H2.sv
                  have p2 : wd.cell? ⟨v5, 2, none⟩ = some (.bool y.s.M.bad) := cell_of_row wd _ 2 _ _ _ H2.sv
                  have p3 : wd.cell? ⟨v5, 3, none⟩ = some (.slice C y.s.C.length e) := cell_of_row wd _ 3 _ _ _ H2.sv
                  have p4 : wd.cell? ⟨v5, 4, none⟩ = some (.slice L y.s.L.length d) := cell_of_row wd _ 4 _ _ _ H2.sv
                  have pf0 : wd.frozen? ⟨v5, 0, none⟩ = false := frozen_of_row wd _ 0 _ _ H2.sv
                  have pf1 : wd.frozen? ⟨v5, 1, none⟩ = false := frozen_of_row wd _ 1 _ _ H2.sv
                  have pf2 : wd.frozen? ⟨v5, 2, none⟩ = false := frozen_of_row wd _ 2 _ _ H2.sv
                  have pf3 : wd.frozen? ⟨v5, 3, none⟩ = false := frozen_of_row wd _ 3 _ _ H2.sv
                  have pf4 : wd.frozen? ⟨v5, 4, none⟩ = false := frozen_of_row wd _ 4 _ _ H2.sv
                  go_wp2_with (go_at_call 16; (with_reducible refine (HC.out _ H2.rs).mono ?_); rintro e9 wk ⟨A9, B9, C9, L9, a9, b9, e9x, d9, rfl, rW, rG, rC, rL, hk⟩; have K9 := (H2.step hk).sv; have q0 : wk.cell? ⟨v5, 0, none⟩ = some (.slice A y.s.M.W.length a) := cell_of_row wk _ 0 _ _ _ K9; have q1 : wk.cell? ⟨v5, 1, none⟩ = some (.slice B y.s.M.G.length b) := cell_of_row wk _ 1 _ _ _ K9; have q2 : wk.cell? ⟨v5, 2, none⟩ = some (.bool y.s.M.bad) := cell_of_row wk _ 2 _ _ _ K9; have q3 : wk.cell? ⟨v5, 3, none⟩ = some (.slice C y.s.C.length e) := cell_of_row wk _ 3 _ _ _ K9; have q4 : wk.cell? ⟨v5, 4, none⟩ = some (.slice L y.s.L.length d) := cell_of_row wk _ 4 _ _ _ K9; have qf0 : wk.frozen? ⟨v5, 0, none⟩ = false := frozen_of_row wk _ 0 _ _ K9; have qf1 : wk.frozen? ⟨v5, 1, none⟩ = false := frozen_of_row wk _ 1 _ _ K9; have qf2 : wk.frozen? ⟨v5, 2, none⟩ = false := frozen_of_row wk _ 2 _ _ K9; have qf3 : wk.frozen? ⟨v5, 3, none⟩ = false := frozen_of_row wk _ 3 _ _ K9; have qf4 : wk.frozen? ⟨v5, 4, none⟩ = false := frozen_of_row wk _ 4 _ _ K9)
                  go_meet
                  exact ⟨rfl, by rw [HBE.out]; exact ⟨_, _, _, _, _, _, _, _, _, H2.put nw5 _ _ _ _ hk rW rG rC rL⟩⟩
              · have hbe : pBegin y j u = ⟨pCall y.s (j : Int) (fr1 1 0 0 0), y.own⟩ := by unfold pBegin; rw [hpt, getD_at ho]; simp [hbit]
                have hb1 : ((u : Int) / 8 % 2 == 1) = false := by simp; omega
                clear hbit hpt
                obtain ⟨t, ht⟩ : ∃ t, t = pCall y.s (j : Int) (fr1 1 0 0 0) := ⟨_, rfl⟩
                rw [← ht] at hbe
                have HC := hid (show ∀ w, RS w y.s A B C L → Calls Try.prog 16 #[.agg #[.slice A y.s.M.W.length a, .slice B y.s.M.G.length b, .bool y.s.M.bad, .slice C y.s.C.length e, .slice L y.s.L.length d], .int .i64 (j : Int), .int .i64 1, .int .i64 0, .int .i64 0, .int .i64 0] w (RetSys w t) from fun w k1 => by rw [ht]; exact rcall_u A B C L a b e d y.s (j : Int) 1 0 0 0 w hI.ok.few k1)
                clear ht
                have HBE := hid hbe
                clear hbe
                have p0 : wc.cell? ⟨v5, 0, none⟩ = some (.slice A y.s.M.W.length a) := cell_of_row wc _ 0 _ _ _ H.sv
                have p1 : wc.cell? ⟨v5, 1, none⟩ = some (.slice B y.s.M.G.length b) := cell_of_row wc _ 1 _ _ _ H.sv
                have p2 : wc.cell? ⟨v5, 2, none⟩ = some (.bool y.s.M.bad) := cell_of_row wc _ 2 _ _ _ H.sv
                have p3 : wc.cell? ⟨v5, 3, none⟩ = some (.slice C y.s.C.length e) := cell_of_row wc _ 3 _ _ _ H.sv
                have p4 : wc.cell? ⟨v5, 4, none⟩ = some (.slice L y.s.L.length d) := cell_of_row wc _ 4 _ _ _ H.sv
                have pf0 : wc.frozen? ⟨v5, 0, none⟩ = false := frozen_of_row wc _ 0 _ _ H.sv
                have pf1 : wc.frozen? ⟨v5, 1, none⟩ = false := frozen_of_row wc _ 1 _ _ H.sv
                have pf2 : wc.frozen? ⟨v5, 2, none⟩ = false := frozen_of_row wc _ 2 _ _ H.sv
                have pf3 : wc.frozen? ⟨v5, 3, none⟩ = false := frozen_of_row wc _ 3 _ _ H.sv
                have pf4 : wc.frozen? ⟨v5, 4, none⟩ = false := frozen_of_row wc _ 4 _ _ H.sv
                go_wp2_with (go_at_call 16; (with_reducible refine (HC.out _ H.rs).mono ?_); rintro e9 wk ⟨A9, B9, C9, L9, a9, b9, e9x, d9, rfl, rW, rG, rC, rL, hk⟩; have K9 := (H.step hk).sv; have q0 : wk.cell? ⟨v5, 0, none⟩ = some (.slice A y.s.M.W.length a) := cell_of_row wk _ 0 _ _ _ K9; have q1 : wk.cell? ⟨v5, 1, none⟩ = some (.slice B y.s.M.G.length b) := cell_of_row wk _ 1 _ _ _ K9; have q2 : wk.cell? ⟨v5, 2, none⟩ = some (.bool y.s.M.bad) := cell_of_row wk _ 2 _ _ _ K9; have q3 : wk.cell? ⟨v5, 3, none⟩ = some (.slice C y.s.C.length e) := cell_of_row wk _ 3 _ _ _ K9; have q4 : wk.cell? ⟨v5, 4, none⟩ = some (.slice L y.s.L.length d) := cell_of_row wk _ 4 _ _ _ K9; have qf0 : wk.frozen? ⟨v5, 0, none⟩ = false := frozen_of_row wk _ 0 _ _ K9; have qf1 : wk.frozen? ⟨v5, 1, none⟩ = false := frozen_of_row wk _ 1 _ _ K9; have qf2 : wk.frozen? ⟨v5, 2, none⟩ = false := frozen_of_row wk _ 2 _ _ K9; have qf3 : wk.frozen? ⟨v5, 3, none⟩ = false := frozen_of_row wk _ 3 _ _ K9; have qf4 : wk.frozen? ⟨v5, 4, none⟩ = false := frozen_of_row wk _ 4 _ _ K9)
                go_meet
                exact ⟨rfl, by rw [HBE.out]; exact ⟨_, _, _, _, _, _, _, _, _, H.put nw5 _ _ _ _ hk rW rG rC rL⟩⟩
          · have hz : bz = true := by rw [hbz, hpt]; rfl
            have hbe : pBegin y j u = y := by unfold pBegin; rw [hpt]
            subst hz
            clear hbz hpt
            go_wp2_with fail
            go_meet
            exact ⟨rfl, by rw [hbe]; exact ⟨_, _, _, _, _, _, _, _, _, H⟩⟩
        case rest =>
          clear H
          obtain ⟨rfl, H⟩ := hcut
          obtain ⟨qs, A, B, C, L, a, b, e, d, H⟩ := H
          have hI1 := hI.begin hjc u
          obtain ⟨_, x, f, hx, hF⟩ := hI.ti.begins hjc u
          have hI2 := hI.pick n2 (by omega) c1 u
          have hpk : pPick c y u = ⟨pStep (pBegin y j u).s (j : Int), pKeep j ((pTop (pBegin y j u).s (j : Int)).getD (fr1 0 0 0 0)) (pStep (pBegin y j u).s (j : Int)) (pBegin y j u).own⟩ := by rw [HJ.out]; rfl
          have HNX2 := hid (HNX.out.trans hpk)
          rw [hpk] at hI2
          clear hpk HNX HJ
          generalize pBegin y j u = y1 at *
          have htp := top_core hx hF
          rcases pTop_cases y1.s (j : Int) hI1.ok.few H.rs.C with hp | ⟨op, pc, r0, r1, r2, r3, r4, r5, r6, r7, xs, hp, h6⟩
          · rw [htp] at hp; cases hp
          rw [hp] at htp
          injection htp with htp
          rw [hp] at HNX2 hI2
          dsimp only [Option.getD_some] at HNX2 hI2
          obtain ⟨t, ht⟩ : ∃ t, t = pStep y1.s (j : Int) := ⟨_, rfl⟩
          have HT := hid (show ∀ w, RS w y1.s A B C L → Calls Try.prog 14 #[.agg #[.slice A y1.s.M.W.length a, .slice B y1.s.M.G.length b, .bool y1.s.M.bad, .slice C y1.s.C.length e, .slice L y1.s.L.length d], .int .i64 (j : Int)] w _ from fun w k1 => rtop_is A B C L a b e d y1.s (j : Int) op pc r0 r1 r2 r3 r4 r5 r6 r7 xs w hI1.ok.few k1 hp h6)
          have HST := hid (show ∀ w, RS w y1.s A B C L → Calls Try.prog 17 #[.agg #[.slice A y1.s.M.W.length a, .slice B y1.s.M.G.length b, .bool y1.s.M.bad, .slice C y1.s.C.length e, .slice L y1.s.L.length d], .int .i64 (j : Int)] w (RetSysN w t) from fun w k1 => by rw [ht]; exact step_anyN A B C L a b e d y1.s (j : Int) w hI1.ok.few hI1.ok.g k1 (by have := hI1.ok.l; omega))
          rw [← ht] at HNX2 hI2
          have HTL := hid (show t.C.length = c from hI2.ti.cl)
          have HOL := hid (show y1.own.length = c from hI1.ti.ol)
          have HOB := hid (show ∀ o ∈ y1.own, o.length ≤ 1000 from fun o ho => by have := hI1.ol o ho; omega)
          clear ht htp hp hx hF hI hI1 hI2 h6
          have p0 : wc.cell? ⟨v5, 0, none⟩ = some (.slice A y1.s.M.W.length a) := cell_of_row wc _ 0 _ _ _ H.sv
          have p1 : wc.cell? ⟨v5, 1, none⟩ = some (.slice B y1.s.M.G.length b) := cell_of_row wc _ 1 _ _ _ H.sv
          have p2 : wc.cell? ⟨v5, 2, none⟩ = some (.bool y1.s.M.bad) := cell_of_row wc _ 2 _ _ _ H.sv
          have p3 : wc.cell? ⟨v5, 3, none⟩ = some (.slice C y1.s.C.length e) := cell_of_row wc _ 3 _ _ _ H.sv
          have p4 : wc.cell? ⟨v5, 4, none⟩ = some (.slice L y1.s.L.length d) := cell_of_row wc _ 4 _ _ _ H.sv
          have pf0 : wc.frozen? ⟨v5, 0, none⟩ = false := frozen_of_row wc _ 0 _ _ H.sv
          have pf1 : wc.frozen? ⟨v5, 1, none⟩ = false := frozen_of_row wc _ 1 _ _ H.sv
          have pf2 : wc.frozen? ⟨v5, 2, none⟩ = false := frozen_of_row wc _ 2 _ _ H.sv
          have pf3 : wc.frozen? ⟨v5, 3, none⟩ = false := frozen_of_row wc _ 3 _ _ H.sv
          have pf4 : wc.frozen? ⟨v5, 4, none⟩ = false := frozen_of_row wc _ 4 _ _ H.sv
          go_upto_region 15 with (go_at_call 14; (with_reducible refine (HT.out _ H.rs).mono ?_); rintro e9 wk ⟨A2, c2, rfl, _, hk⟩)
          clear p0 pf0 p1 pf1 p2 pf2 p3 pf3 p4 pf4 HT
          have hj2 : Below wc.heap.size wc (wk.alloc (.cells #[.int .i64 op, .int .i64 pc, .int .i64 r0, .int .i64 r1, .int .i64 r2, .int .i64 r3, .int .i64 r4, .int .i64 r5, .int .i64 r6, .int .i64 r7, .slice A2 xs.length c2] 38)) := bstep hk (boxed _ _)
          have bF := heap_alloc_new wk (.cells #[.int .i64 op, .int .i64 pc, .int .i64 r0, .int .i64 r1, .int .i64 r2, .int .i64 r3, .int .i64 r4, .int .i64 r5, .int .i64 r6, .int .i64 r7, .slice A2 xs.length c2] 38)
          have lv := H.lv
          have nF : v5 < wk.heap.size := Nat.lt_of_lt_of_le lv hk.size
          replace H := H.step hj2
          clear lv hk hj2
          obtain ⟨vF, hv⟩ : ∃ v, wk.heap.size = v := ⟨_, rfl⟩
          rw [hv] at bF nF ⊢
          clear hv
          generalize (wk.alloc (.cells #[.int .i64 op, .int .i64 pc, .int .i64 r0, .int .i64 r1, .int .i64 r2, .int .i64 r3, .int .i64 r4, .int .i64 r5, .int .i64 r6, .int .i64 r7, .slice A2 xs.length c2] 38)) = wd at *
          have p0 : wd.cell? ⟨v5, 0, none⟩ = some (.slice A y1.s.M.W.length a) := cell_of_row wd _ 0 _ _ _ H.sv
          have p1 : wd.cell? ⟨v5, 1, none⟩ = some (.slice B y1.s.M.G.length b) := cell_of_row wd _ 1 _ _ _ H.sv
          have p2 : wd.cell? ⟨v5, 2, none⟩ = some (.bool y1.s.M.bad) := cell_of_row wd _ 2 _ _ _ H.sv
          have p3 : wd.cell? ⟨v5, 3, none⟩ = some (.slice C y1.s.C.length e) := cell_of_row wd _ 3 _ _ _ H.sv
          have p4 : wd.cell? ⟨v5, 4, none⟩ = some (.slice L y1.s.L.length d) := cell_of_row wd _ 4 _ _ _ H.sv
          have pf0 : wd.frozen? ⟨v5, 0, none⟩ = false := frozen_of_row wd _ 0 _ _ H.sv
          have pf1 : wd.frozen? ⟨v5, 1, none⟩ = false := frozen_of_row wd _ 1 _ _ H.sv
          have pf2 : wd.frozen? ⟨v5, 2, none⟩ = false := frozen_of_row wd _ 2 _ _ H.sv
          have pf3 : wd.frozen? ⟨v5, 3, none⟩ = false := frozen_of_row wd _ 3 _ _ H.sv
          have pf4 : wd.frozen? ⟨v5, 4, none⟩ = false := frozen_of_row wd _ 4 _ _ H.sv
          go_upto_region 16 with (go_at_call 17; (with_reducible refine (HST.out _ H.rs).mono ?_); rintro e9 wk hN; obtain ⟨A9, B9, C9, L9, a9, b9, e9x, d9, he, hR9, hS9, hk9⟩ := hN.open; subst he; clear hN; have K9 := (H.step hk9).sv; have q0 : wk.cell? ⟨v5, 0, none⟩ = some (.slice A y1.s.M.W.length a) := cell_of_row wk _ 0 _ _ _ K9; have q1 : wk.cell? ⟨v5, 1, none⟩ = some (.slice B y1.s.M.G.length b) := cell_of_row wk _ 1 _ _ _ K9; have q2 : wk.cell? ⟨v5, 2, none⟩ = some (.bool y1.s.M.bad) := cell_of_row wk _ 2 _ _ _ K9; have q3 : wk.cell? ⟨v5, 3, none⟩ = some (.slice C y1.s.C.length e) := cell_of_row wk _ 3 _ _ _ K9; have q4 : wk.cell? ⟨v5, 4, none⟩ = some (.slice L y1.s.L.length d) := cell_of_row wk _ 4 _ _ _ K9; have qf0 : wk.frozen? ⟨v5, 0, none⟩ = false := frozen_of_row wk _ 0 _ _ K9; have qf1 : wk.frozen? ⟨v5, 1, none⟩ = false := frozen_of_row wk _ 1 _ _ K9; have qf2 : wk.frozen? ⟨v5, 2, none⟩ = false := frozen_of_row wk _ 2 _ _ K9; have qf3 : wk.frozen? ⟨v5, 3, none⟩ = false := frozen_of_row wk _ 3 _ _ K9; have qf4 : wk.frozen? ⟨v5, 4, none⟩ = false := frozen_of_row wk _ 4 _ _ K9)
          have HS := H.stands nw5 a9 b9 e9x d9 hk9 hR9 hS9
          have bF2 := ((turn5 wk v5 (.slice A9 t.M.W.length a9) (.slice B9 t.M.G.length b9) (.bool t.M.bad) (.slice C9 t.C.length e9x) (.slice L9 t.L.length d9)).block vF (Nat.lt_of_lt_of_le (heap_lt bF) hk9.size) (by omega)).trans ((hk9.block vF (heap_lt bF)).trans bF)
          clear p0 pf0 p1 pf1 p2 pf2 p3 pf3 p4 pf4 q0 qf0 q1 qf1 q2 qf2 q3 qf3 q4 qf4 K9 hk9 hR9 hS9 H HST bF nF
          generalize wd.heap.size = lo at *
          generalize (((((wk.setCell ⟨v5, 0, none⟩ (.slice A9 t.M.W.length a9)).setCell ⟨v5, 1, none⟩ (.slice B9 t.M.G.length b9)).setCell ⟨v5, 2, none⟩ (.bool t.M.bad)).setCell ⟨v5, 3, none⟩ (.slice C9 t.C.length e9x)).setCell ⟨v5, 4, none⟩ (.slice L9 t.L.length d9)) = we at *
          have sv : we.heap[v5]? = some (.cells #[.slice A9 t.M.W.length a9, .slice B9 t.M.G.length b9, .bool t.M.bad, .slice C9 t.C.length e9x, .slice L9 t.L.length d9] 30 (0, 0)) := HS.ph.sv
          have rc : RowC we C9 t.C := HS.ph.rs.C
          have htl := HTL.out
          have hol := HOL.out
          have hoB := HOB.out
          obtain ⟨x9, hx9⟩ : ∃ x, t.C[j]? = some x := ⟨_, List.getElem?_eq_getElem (by omega)⟩
          obtain ⟨bC, oC, eC, hbC, hatC⟩ := rc (by omega)
          obtain ⟨AFx, ARx, cFx, cRx, hcx, _, _⟩ := (hatC j _ hx9).cs
          subst eC
          clear hatC
          have z0 : we.cell? ⟨bC, oC + j * 7, none⟩ = some (.slice AFx x9.F.length cFx) := by have h := hcx 0 _ rfl; simpa using h
          have z1 : we.cell? ⟨bC, oC + j * 7 + 1, none⟩ = some (.int .i64 x9.v) := by have h := hcx 1 _ rfl; simpa using h
          have z2 : we.cell? ⟨bC, oC + j * 7 + 2, none⟩ = some (.int .i64 x9.e) := by have h := hcx 2 _ rfl; simpa using h
          clear hcx
          rw [htl] at sv
          have p0 : we.cell? ⟨v5, 0, none⟩ = some (.slice A9 t.M.W.length a9) := cell_of_row we _ 0 _ _ _ sv
          have p1 : we.cell? ⟨v5, 1, none⟩ = some (.slice B9 t.M.G.length b9) := cell_of_row we _ 1 _ _ _ sv
          have p2 : we.cell? ⟨v5, 2, none⟩ = some (.bool t.M.bad) := cell_of_row we _ 2 _ _ _ sv
          have p3 : we.cell? ⟨v5, 3, none⟩ = some (.slice (some ⟨bC, oC, none⟩) c e9x) := cell_of_row we _ 3 _ _ _ sv
          have p4 : we.cell? ⟨v5, 4, none⟩ = some (.slice L9 t.L.length d9) := cell_of_row we _ 4 _ _ _ sv
          have pf0 : we.frozen? ⟨v5, 0, none⟩ = false := frozen_of_row we _ 0 _ _ sv
          have pf1 : we.frozen? ⟨v5, 1, none⟩ = false := frozen_of_row we _ 1 _ _ sv
          have pf2 : we.frozen? ⟨v5, 2, none⟩ = false := frozen_of_row we _ 2 _ _ sv
          have pf3 : we.frozen? ⟨v5, 3, none⟩ = false := frozen_of_row we _ 3 _ _ sv
          have pf4 : we.frozen? ⟨v5, 4, none⟩ = false := frozen_of_row we _ 4 _ _ sv
          have zo : we.cell? ⟨vF, 0, none⟩ = some (.int .i64 op) := cell_of_row we _ 0 _ _ _ bF2
          have j0 : 0 ≤ (j : Int) := by omega
          have kb : (us.length : Int) ≤ 300 := by omega
          have jc : (j : Int) < (c : Int) := by omega
          clear htl sv bF2 rc
          by_cases hF9 : x9.F = []
          · have l0 : x9.F.length = 0 := by rw [hF9]; rfl
            rw [l0] at z0
            clear l0
            by_cases hop : op = 1
            · have l1 : (op == 1) = true := by simpa using hop
              by_cases her : x9.e = 0
              · have l2 : (x9.e == 0) = true := by simpa using her
                have HK := hid (show pKeep j ⟨op, pc, [r0, r1, r2, r3, r4, r5, r6, r7], xs⟩ t y1.own = y1.own.set j (y1.own.getD j [] ++ [x9.v]) from by unfold pKeep; rw [hx9]; dsimp only; rw [if_pos ⟨hF9, hop, her⟩])
                clear hop her hx9
                obtain ⟨o, ho⟩ : ∃ o, y1.own[j]? = some o := ⟨_, List.getElem?_eq_getElem (by omega)⟩
                obtain ⟨⟨qA, qc⟩, hq, hPt, cg, fg⟩ := HS.ph.ow.at_ ho
                have ol : o.length ≤ 1000 := hoB o (List.mem_of_getElem? ho)
                rw [getD_at ho] at HK
                have HF9 := hid hF9
                clear hF9 hoB hol
                obtain ⟨vz, hvz⟩ : ∃ z, z = x9.v := ⟨_, rfl⟩
                rw [← hvz] at HK z1
                clear hvz
                have RL := hid (show ∀ (wA : World), Below we.heap.size we wA → ∀ (A8 : Option Addr) (c8 : Nat) (w8 : World), PartAt w8 A8 c8 (o ++ [vz]) → Turn (fun b => pBlk qA qc = some b) wA w8 → (∀ b, pBlk A8 c8 = some b → pBlk qA qc = some b ∨ b = wA.heap.size) → RPlay w0 v5 g vR c n us (.int .i64 ((k : Int) + 1)) (w8.setCell ⟨g, j, none⟩ (.slice A8 (o.length + 1) c8)) from fun wA hA A8 c8 w8 h1 h2 h3 => by rw [show o.length + 1 = (o ++ [vz]).length by simp]; exact ⟨k + 1, by omega, by go_num, by rw [HNX2.out, HK.out]; exact ⟨_, _, _, _, _, _, _, _, _, (HS.step hA).push nwg ho hq h1 h2 (fun b hb => (h3 b hb).imp id (fun e => Nat.le_of_eq e.symm))⟩⟩)
                have RW := hid (show ∀ (wA w8 : World), Below we.heap.size we wA → Turn (fun b => pBlk qA qc = some b) wA w8 → w8.cell? ⟨g, j, none⟩ = some (.slice qA o.length qc) ∧ w8.frozen? ⟨g, j, none⟩ = false from fun wA w8 hA h => (HS.step hA).rowCell ho hq h)
                have PA := hid (show ∀ (wA : World), Below we.heap.size we wA → PartAt wA qA qc o from fun wA hA => hPt.keep (fun b hb hl => hA.block b hl))
                have CA := hid (show ∀ (wA : World), Below we.heap.size we wA → wA.cell? ⟨g, j, none⟩ = some (.slice qA o.length qc) from fun wA hA => (hA.cell HS.ph.lg).trans cg)
                have LG : g < we.heap.size := HS.ph.lg
                clear HS HNX2 HK ho hq hPt
                go_wp2_with fail
                go_region_law ((refine step_append_part rfl (.tmp 123) (.tmp 130) 24 rfl infoInt Try.underlying24 qA qc o (by first | rfl | (simp [Act.eval, Act.put]; done)) (PA.out _ (by repeat (first | (with_reducible exact Below.refl _ _) | (with_reducible refine Below.drew ?_) | (with_reducible refine bstep ?_ (boxed _ _))))) (by omega) ⟨we.heap.size, 0, none⟩ 1 vz (by first | rfl | (simp [Act.eval, Act.put]; done)) (by simp) ?_; intro A8 c8 w8 hP8 hT8 hn8; obtain ⟨g8, f8⟩ := RW.out _ _ (by repeat (first | (with_reducible exact Below.refl _ _) | (with_reducible refine Below.drew ?_) | (with_reducible refine bstep ?_ (boxed _ _)))) hT8; have R8 := hid (RL.out _ (by repeat (first | (with_reducible exact Below.refl _ _) | (with_reducible refine Below.drew ?_) | (with_reducible refine bstep ?_ (boxed _ _)))) _ _ _ hP8 hT8 hn8)))
                all_goals go_wp2_with fail
                all_goals go_roundw
                all_goals first
                  | exact R8.out
                  | ((repeat apply Exists.intro); exact ⟨R8.out, rfl⟩)
                  | (simp [intOf]; omega)
                  | (trace_state; fail)
              · have l2 : (x9.e == 0) = false := by simpa using her
                have HK := hid (show pKeep j ⟨op, pc, [r0, r1, r2, r3, r4, r5, r6, r7], xs⟩ t y1.own = y1.own from by unfold pKeep; rw [hx9]; dsimp only; rw [if_neg (fun q => her q.2.2)])
                clear her hF9 hop
                clear hx9 hoB hol
                have REL : ∀ i, i = .int .i64 ((k : Int) + 1) → RPlay w0 v5 g vR c n us i we := fun i hi => ⟨k + 1, by omega, by rw [hi]; go_num, by rw [HNX2.out, HK.out]; exact ⟨_, _, _, _, _, _, _, _, _, HS.ph⟩⟩
                have RL := hid (REL _ rfl)
                clear REL HS HNX2 HK
                go_wp2_with fail
                go_roundw
                case rel => first | exact RL.out | ((repeat apply Exists.intro); exact ⟨RL.out, rfl⟩)
                case measure => simp [intOf]; omega
            · have l1 : (op == 1) = false := by simpa using hop
              have HK := hid (show pKeep j ⟨op, pc, [r0, r1, r2, r3, r4, r5, r6, r7], xs⟩ t y1.own = y1.own from by unfold pKeep; rw [hx9]; dsimp only; rw [if_neg (fun q => hop q.2.1)])
              clear hop hF9
              clear hx9 hoB hol
              have REL : ∀ i, i = .int .i64 ((k : Int) + 1) → RPlay w0 v5 g vR c n us i we := fun i hi => ⟨k + 1, by omega, by rw [hi]; go_num, by rw [HNX2.out, HK.out]; exact ⟨_, _, _, _, _, _, _, _, _, HS.ph⟩⟩
              have RL := hid (REL _ rfl)
              clear REL HS HNX2 HK
              go_wp2_with fail
              go_roundw
              case rel => first | exact RL.out | ((repeat apply Exists.intro); exact ⟨RL.out, rfl⟩)
              case measure => simp [intOf]; omega
          · have fl0 : ¬ x9.F.length = 0 := by simpa using hF9
            have HK := hid (show pKeep j ⟨op, pc, [r0, r1, r2, r3, r4, r5, r6, r7], xs⟩ t y1.own = y1.own from by unfold pKeep; rw [hx9]; dsimp only; rw [if_neg (fun q => hF9 q.1)])
            clear hF9
            generalize x9.F.length = fl at *
            have l0 : ((fl : Int) == 0) = false := by simp; omega
            have l1 : (fl == 0) = false := by simp; omega
            clear hx9 hoB hol
            have REL : ∀ i, i = .int .i64 ((k : Int) + 1) → RPlay w0 v5 g vR c n us i we := fun i hi => ⟨k + 1, by omega, by rw [hi]; go_num, by rw [HNX2.out, HK.out]; exact ⟨_, _, _, _, _, _, _, _, _, HS.ph⟩⟩
            have RL := hid (REL _ rfl)
            clear REL HS HNX2 HK
            go_wp2_with fail
            go_roundw
            case rel => first | exact RL.out | ((repeat apply Exists.intro); exact ⟨RL.out, rfl⟩)
            case measure => simp [intOf]; omega
    · have kl : ¬ (k : Int) < (us.length : Int) := by omega
      have kn : k = us.length := by omega
      rw [kn, List.take_length] at H
      have HO := hid (PInv.play n1 n2 c1 c2 us us.length (Nat.le_refl _) (by omega)).ti.ol
      rw [List.take_length] at HO
      clear kn
      obtain ⟨y, hy⟩ : ∃ y, y = pPlay c n us := ⟨_, rfl⟩
      rw [← hy] at H HO
      have HY := hid hy
      clear hy
      have p0 : wr.cell? ⟨v5, 0, none⟩ = some (.slice A y.s.M.W.length a) := cell_of_row wr _ 0 _ _ _ H.sv
      have p1 : wr.cell? ⟨v5, 1, none⟩ = some (.slice B y.s.M.G.length b) := cell_of_row wr _ 1 _ _ _ H.sv
      have p2 : wr.cell? ⟨v5, 2, none⟩ = some (.bool y.s.M.bad) := cell_of_row wr _ 2 _ _ _ H.sv
      have p3 : wr.cell? ⟨v5, 3, none⟩ = some (.slice C y.s.C.length e) := cell_of_row wr _ 3 _ _ _ H.sv
      have p4 : wr.cell? ⟨v5, 4, none⟩ = some (.slice L y.s.L.length d) := cell_of_row wr _ 4 _ _ _ H.sv
      have pf0 : wr.frozen? ⟨v5, 0, none⟩ = false := frozen_of_row wr _ 0 _ _ H.sv
      have pf1 : wr.frozen? ⟨v5, 1, none⟩ = false := frozen_of_row wr _ 1 _ _ H.sv
      have pf2 : wr.frozen? ⟨v5, 2, none⟩ = false := frozen_of_row wr _ 2 _ _ H.sv
      have pf3 : wr.frozen? ⟨v5, 3, none⟩ = false := frozen_of_row wr _ 3 _ _ H.sv
      have pf4 : wr.frozen? ⟨v5, 4, none⟩ = false := frozen_of_row wr _ 4 _ _ H.sv
      have q0 : wr.cell? ⟨vR, 0, none⟩ = some (.slice none 0 0) := cell_of_row wr _ 0 _ _ _ H.rv
      have q1 : wr.cell? ⟨vR, 1, none⟩ = some (.slice none 0 0) := cell_of_row wr _ 1 _ _ _ H.rv
      have q2 : wr.cell? ⟨vR, 2, none⟩ = some (.bool false) := cell_of_row wr _ 2 _ _ _ H.rv
      have q3 : wr.cell? ⟨vR, 3, none⟩ = some (.slice none 0 0) := cell_of_row wr _ 3 _ _ _ H.rv
      have q4 : wr.cell? ⟨vR, 4, none⟩ = some (.slice none 0 0) := cell_of_row wr _ 4 _ _ _ H.rv
      have qf0 : wr.frozen? ⟨vR, 0, none⟩ = false := frozen_of_row wr _ 0 _ _ H.rv
      have qf1 : wr.frozen? ⟨vR, 1, none⟩ = false := frozen_of_row wr _ 1 _ _ H.rv
      have qf2 : wr.frozen? ⟨vR, 2, none⟩ = false := frozen_of_row wr _ 2 _ _ H.rv
      have qf3 : wr.frozen? ⟨vR, 3, none⟩ = false := frozen_of_row wr _ 3 _ _ H.rv
      have qf4 : wr.frozen? ⟨vR, 4, none⟩ = false := frozen_of_row wr _ 4 _ _ H.rv
      go_wp2_with fail
      refine bodyPost_ret (v := .tuple #[.agg #[.slice A y.s.M.W.length a, .slice B y.s.M.G.length b, .bool y.s.M.bad, .slice C y.s.C.length e, .slice L y.s.L.length d], .slice (some ⟨g, 0, none⟩) c c, .bool true]) (by simp [results, Try.results12, go_sem, q0, q1, q2, q3, q4]) rfl ?_
      show RetPlay w0 (pPlay c n us) _ _
      rw [← HY.out]
      exact ⟨A, B, C, L, a, b, e, d, g, qs, by rw [HO.out], H.rs.turnN (turn5 wr vR (.slice A y.s.M.W.length a) (.slice B y.s.M.G.length b) (.bool y.s.M.bad) (.slice C y.s.C.length e) (.slice L y.s.L.length d)) (noInt_sys H.rv), H.ow.turn (turn5 wr vR (.slice A y.s.M.W.length a) (.slice B y.s.M.G.length b) (.bool y.s.M.bad) (.slice C y.s.C.length e) (.slice L y.s.L.length d)) H.rv sys_ne.1 sys_ne.2, H.be.trans ((turn5 wr vR (.slice A y.s.M.W.length a) (.slice B y.s.M.G.length b) (.bool y.s.M.bad) (.slice C y.s.C.length e) (.slice L y.s.L.length d)).to_below H.be.size (fun x hx => by rw [hx]; exact nwR))⟩
end Go.Proofs.Ytlknpmdmnekedaa
