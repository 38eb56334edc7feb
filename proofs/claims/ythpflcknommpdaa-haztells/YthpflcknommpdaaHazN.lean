/- Contract: which nodes are named, by the program (haz.Named). -/
import Derived.Test.YthpflcknommpdaaHazI
import Derived.Test.YthpflcknommpdaaKHzA
import Derived.Test.YthpflcknommpdaaRoundR
import Derived.Sort.CutIn
namespace Go.Proofs.Ythpflcknommpdaa
open Go.RowKit Go.Shelf
set_option linter.unusedVariables false
set_option linter.unusedSimpArgs false
attribute [local go_sem] Oper.semAt_some

theorem bool_info5 : (Try.prog.info? 4).map (fun i => (i.zero, i.size, i.bytes)) = some (some (.bool false), 1, 1) := by kernel_rfl
/-- make([]bool, n), in any world. -/
theorem make_bools (n : Nat) (hn : n ≤ 1000000) (w : World) :
    (Instr.makeSlice 36 (.int .i64 (n : Int)) (.int .i64 (n : Int))).run Try.prog w = .ok (.slice (some ⟨w.heap.size, 0, none⟩) n n) (w.alloc (.cells (madeCells #[.bool false] n) 4)) := by
  obtain ⟨i0, hi0, hz0, hz1, hz2⟩ := info_parts bool_info5
  have hr := run_make (P := Try.prog) w 36 4 i0 _ Try.underlying36 hi0 hz0 .i64 .i64 n n (by omega) (by omega) (by rw [hz2]; omega) (by omega)
  simp only [Int.toNat_natCast, hz1, Nat.mul_one] at hr
  exact hr
/-- Behind so many slots. -/
def pNameds (m : Ar) (pre : List (Int × Int)) : List Bool := pre.foldl (fun bs p => pNote bs (mVal m (pPlace p.1 p.2))) (List.replicate m.G.length false)
theorem pNameds_snoc (m : Ar) (pre : List (Int × Int)) (x : Int × Int) : pNameds m (pre ++ [x]) = pNote (pNameds m pre) (mVal m (pPlace x.1 x.2)) := by simp [pNameds]

theorem heap4h (w : World) (o1 o2 o3 o4 : Obj) : ((((w.alloc o1).alloc o2).alloc o3).alloc o4).heap[w.heap.size]? = some o1 ∧ ((((w.alloc o1).alloc o2).alloc o3).alloc o4).heap[w.heap.size + 1]? = some o2 ∧ ((((w.alloc o1).alloc o2).alloc o3).alloc o4).heap[w.heap.size + 1 + 1]? = some o3 ∧ ((((w.alloc o1).alloc o2).alloc o3).alloc o4).heap[w.heap.size + 1 + 1 + 1]? = some o4 ∧ ((((w.alloc o1).alloc o2).alloc o3).alloc o4).heap.size = w.heap.size + 1 + 1 + 1 + 1 ∧ Below w.heap.size w ((((w.alloc o1).alloc o2).alloc o3).alloc o4) := by
  obtain ⟨e1, e2, e3, _⟩ := heap3b w o1 o2 o3
  have hb := boxed (((w.alloc o1).alloc o2).alloc o3) o4
  have hz : (((w.alloc o1).alloc o2).alloc o3).heap.size = w.heap.size + 1 + 1 + 1 := by simp
  refine ⟨(hb.block _ (by omega)).trans e1, (hb.block _ (by omega)).trans e2, (hb.block _ (by omega)).trans e3, ?_, by simp, bstep (bstep (bstep (boxed _ _) (boxed _ _)) (boxed _ _)) hb⟩
  have := heap_alloc_new (((w.alloc o1).alloc o2).alloc o3) o4
  rw [hz] at this
  exact this
theorem made_bools (n : Nat) : madeCells #[Value.bool false] n = ((List.replicate n false).map Value.bool).toArray := by
  apply Array.ext
  · simp [madeCells]
  · intro i h1 h2
    simp [madeCells, Nat.mod_one]
/-- What the rounds over slots keep: the system's variable, the row, its variable. -/
structure NB (w : World) (s : Sy) (A B C L : Option Addr) (a b c d : Nat) (pre : List (Int × Int)) (W : World) : Prop where
  b0 : W.heap[w.heap.size]? = some (.cells #[.slice A s.M.W.length a, .slice B s.M.G.length b, .bool s.M.bad, .slice C s.C.length c, .slice L s.L.length d] 28 (0, 0))
  b1 : W.heap[w.heap.size + 1]? = some (.cells ((pNameds s.M pre).map Value.bool).toArray 4 (0, 0))
  b2 : W.heap[w.heap.size + 1 + 1]? = some (.cells #[.slice (some ⟨w.heap.size + 1, 0, none⟩) s.M.G.length s.M.G.length] 36 (0, 0))
  be : Below w.heap.size w W
theorem NB.own {w : World} {s : Sy} {A B C L : Option Addr} {a b c d z : Nat} (hz : w.heap.size ≤ z) : OwnFrom z (NB w s A B C L a b c d) := fun pre W W' row hs hg hr =>
  ⟨(grownBy_keeps_cells hg (fun r e => (hr r e).2) hs.b0 rfl).trans hs.b0, (grownBy_keeps_cells hg (fun r e => (hr r e).2) hs.b1 rfl).trans hs.b1, (grownBy_keeps_cells hg (fun r e => (hr r e).2) hs.b2 rfl).trans hs.b2, ownFrom_below (β := Unit) (Nat.le_refl _) hz () W W' row hs.be hg hr⟩
theorem pNameds_len (m : Ar) (pre : List (Int × Int)) : (pNameds m pre).length = m.G.length := by
  unfold pNameds
  suffices h : ∀ (l : List (Int × Int)) (bs : List Bool), (l.foldl (fun bs p => pNote bs (mVal m (pPlace p.1 p.2))) bs).length = bs.length by rw [h]; simp
  intro l
  induction l with
  | nil => intro bs; rfl
  | cons x l ih => intro bs; rw [List.foldl_cons, ih, pNote_len]
theorem NB.lt {w : World} {s : Sy} {A B C L : Option Addr} {a b c d : Nat} {pre : List (Int × Int)} {W : World} (h : NB w s A B C L a b c d pre W) : w.heap.size + 1 + 1 < W.heap.size := (Array.getElem?_eq_some_iff.1 h.b2).1
theorem NB.next {w : World} {s : Sy} {A B C L : Option Addr} {a b c d : Nat} {pre : List (Int × Int)} {W W5 : World} {x : Int × Int} {v : Int} (h : NB w s A B C L a b c d pre W) (hj : Below W.heap.size W W5) (hv : v = mVal s.M (pPlace x.1 x.2)) (hn : ¬ (0 < v ∧ v < s.M.G.length)) : NB w s A B C L a b c d (pre ++ [x]) W5 := by
  have hl := h.lt
  have e : pNameds s.M (pre ++ [x]) = pNameds s.M pre := by rw [pNameds_snoc, ← hv]; unfold pNote; rw [pNameds_len, if_neg hn]
  exact ⟨(hj.block _ (by omega)).trans h.b0, by rw [e]; exact (hj.block _ (by omega)).trans h.b1, (hj.block _ hl).trans h.b2, bstep h.be hj⟩
theorem NB.mark {w : World} {s : Sy} {A B C L : Option Addr} {a b c d : Nat} {pre : List (Int × Int)} {W W5 : World} {x : Int × Int} {k : Nat} (h : NB w s A B C L a b c d pre W) (hj : Below W.heap.size W W5) (hv : (k : Int) = mVal s.M (pPlace x.1 x.2)) (hn : (0 < (k : Int) ∧ (k : Int) < s.M.G.length)) : NB w s A B C L a b c d (pre ++ [x]) (W5.setCell ⟨w.heap.size + 1, k, none⟩ (.bool true)) := by
  have hl := h.lt
  have t : Turn (fun x => x = w.heap.size + 1) W5 (W5.setCell ⟨w.heap.size + 1, k, none⟩ (.bool true)) := Turn.set (p := fun x => x = w.heap.size + 1) (Turn.refl _ _) rfl _ _
  have e : pNameds s.M (pre ++ [x]) = (pNameds s.M pre).set k true := by rw [pNameds_snoc, ← hv]; unfold pNote; rw [pNameds_len, if_pos hn]; rfl
  have e1 := heap_setCell_same W5 (w.heap.size + 1) k _ _ (.bool true) ((hj.block _ (by omega)).trans h.b1)
  have hz := hj.size
  refine ⟨(t.block _ (by omega) (by omega)).trans ((hj.block _ (by omega)).trans h.b0), ?_, (t.block _ (by omega) (by omega)).trans ((hj.block _ hl).trans h.b2), (bstep h.be hj).trans (t.to_below (bstep h.be hj).size (fun g hg => by omega))⟩
  rw [e1, e]
  congr 2
  simp
theorem below_set3 {W W4 : World} (hj : Below W.heap.size W W4) (x0 x1 x2 : Value) : Below W.heap.size W (((W4.setCell ⟨W.heap.size, 0, none⟩ x0).setCell ⟨W.heap.size, 1, none⟩ x1).setCell ⟨W.heap.size, 2, none⟩ x2) :=
  hj.trans ((Turn.set (p := fun x => x = W.heap.size) (Turn.set (p := fun x => x = W.heap.size) (Turn.set (p := fun x => x = W.heap.size) (Turn.refl _ _) rfl _ _) rfl _ _) rfl _ _).to_below hj.size (fun g hg => by omega))
theorem cell_of_bools {w : World} {g k : Nat} {bs : List Bool} (h : w.heap[g]? = some (.cells (bs.map Value.bool).toArray 4 (0, 0))) (hk : k < bs.length) : w.cell? ⟨g, k, none⟩ = some (.bool (bs.getD k false)) := by
  rw [cell_of_row w g k _ _ _ h]
  simp [hk]
theorem KeepsOthers.of_below {W W' : World} (hk : Below W.heap.size W W') : KeepsOthers W W' := ⟨hk.size, fun k o h _ => (hk.block k (Array.getElem?_eq_some_iff.1 h).1).trans h⟩
theorem KeepsOthers.walks {W W' : World} (hk : KeepsOthers W W') : KeepsWalks W W' := ⟨hk.size, fun k o h hw => hk.same k o h (Obj.not_cells_of_walk hw)⟩

set_option maxRecDepth 100000 in
set_option maxHeartbeats 4000000 in
theorem named_wg (A B C L : Option Addr) (a b c d : Nat) (s : Sy) (w : World) (hs : SyFew s) (hg : 2 ≤ s.M.G.length) (hW0 : Row w A s.M.W) (hG0 : Row w B s.M.G) :
    Calls Try.prog 14 #[.agg #[.slice A s.M.W.length a, .slice B s.M.G.length b, .bool s.M.bad, .slice C s.C.length c, .slice L s.L.length d]] w fun e w' => ∃ g, e = .returned (.slice (some ⟨g, 0, none⟩) s.M.G.length s.M.G.length) ∧ w'.heap[g]? = some (.cells ((pNameds s.M (prs (3 * s.C.length))).map Value.bool).toArray 4 (0, 0)) ∧ w.heap.size ≤ g ∧ Below w.heap.size w w' := by
  have k1 := make_bools s.M.G.length hs.2.1
  refine (callsIn_wide (n := 5)).1 ?_
  refine callsIn_of_wp_marks Try.func14 rfl trivial ?_ rfl
  simp only [Try.ntmps14, List.size_toArray, List.length_cons, List.length_nil, Nat.reduceAdd, Nat.reduceSub, Array.replicate_succ, Array.replicate_zero, List.push_toArray, List.append_toArray, List.nil_append, List.cons_append]
  gi_wp2_with (refine ⟨trivial, ?_⟩; gi_at_call 37; refine (callsIn_wide.2 (slots_w _ _)).mono ?_; rintro e w' ⟨rfl, rfl⟩)
  obtain ⟨e0, e1, e2, e3, hz, hb⟩ := heap4h w (.cells #[.slice A s.M.W.length a, .slice B s.M.G.length b, .bool s.M.bad, .slice C s.C.length c, .slice L s.L.length d] 28) (.cells (madeCells #[Value.bool false] s.M.G.length) 4) (.cells #[.slice (some ⟨w.heap.size + 1, 0, none⟩) s.M.G.length s.M.G.length] 36) (.cells #[.int .i64 (s.C.length : Int)] 3)
  generalize ((((w.alloc (.cells #[.slice A s.M.W.length a, .slice B s.M.G.length b, .bool s.M.bad, .slice C s.C.length c, .slice L s.L.length d] 28)).alloc (.cells (madeCells #[Value.bool false] s.M.G.length) 4)).alloc (.cells #[.slice (some ⟨w.heap.size + 1, 0, none⟩) s.M.G.length s.M.G.length] 36)).alloc (.cells #[.int .i64 (s.C.length : Int)] 3)) = w1 at *
  rw [made_bools] at e1
  have hc3 := cells1 e3
  have n0 : NB w s A B C L a b c d [] w1 := ⟨e0, e1, e2, hb⟩
  have hcl := hs.2.2.1
  clear e0 e1 e2 e3 hb k1
  refine wpIn_rangeFunc_ownF rfl (by omega) (gf := 70) (lb := #[.pointer (some ⟨w.heap.size + 1 + 1 + 1, 0, none⟩)]) rfl trivial (enters_of Try.func70 (by kernel_rfl) rfl)
    (seqStopsA_iff.1 (slots_stops _ _ trivial rfl (by omega) (w.heap.size + 1 + 1 + 1) s.C.length (by omega) w1 hc3 (by omega))) walksK_t walksK_b (Below.refl _ _) (fun _ => rfl)
    (NB w s A B C L a b c d) (fun _ _ _ => False) (NB.own (by omega)) (fun _ _ _ _ _ hs _ _ => hs) n0
    (fun x => { tmps := #[.agg #[.slice A s.M.W.length a, .slice B s.M.G.length b, .bool s.M.bad, .slice C s.C.length c, .slice L s.L.length d], .pointer (some ⟨w.heap.size, 0, none⟩), .slice none 0 0, .pointer (some ⟨w.heap.size + 1 + 1, 0, none⟩), .int .i64 x.1, .int .i64 x.2, undef, undef, .pointer (some ⟨w.heap.size, 0, none⟩), .pointer (some ⟨w.heap.size, 1, none⟩), .slice B s.M.G.length b, .int .i64 (s.M.G.length : Int), .slice (some ⟨w.heap.size + 1, 0, none⟩) s.M.G.length s.M.G.length, .pointer (some ⟨w.heap.size, 3, none⟩), .slice C s.C.length c, .int .i64 (s.C.length : Int), .func (.func 70) #[] #[.pointer (some ⟨w.heap.size + 1 + 1 + 1, 0, none⟩)], .int .i64 x.1, .int .i64 x.2, undef, undef, undef, undef, undef, undef, undef, undef, undef, undef, undef, undef, undef, undef, undef, undef, undef, undef, undef, undef, undef], defers := [] }) ?assign ?body ?done ?stop
  case assign =>
    intro l x W K hK
    gi_wp2
    exact hK
  case body =>
    rintro l pre x W hN hlen
    clear hlen n0 hc3 hz
    have hmx : Try.prog.follows .mixedOrders = true := by kernel_rfl
    obtain ⟨vv, hv⟩ : ∃ v, v = mVal s.M (pPlace x.1 x.2) := ⟨_, rfl⟩
    obtain ⟨m2, hm2⟩ : ∃ m, m = mLoad s.M (pPlace x.1 x.2) := ⟨_, rfl⟩
    have HC := hid (show ∀ w', Row w' A s.M.W → Row w' B s.M.G → Calls Try.prog 38 #[.agg #[.slice A s.M.W.length a, .slice B s.M.G.length b, .bool s.M.bad], .int .i64 (pPlace x.1 x.2)] w' (RetMem2O w' A B m2 (.int .i64 vv)) from fun w' k1 k2 => by have h9 := load_o A B a b s.M (pPlace x.1 x.2) w' k1 k2 hs.1 hs.2.1 hg (pPlace_bd _ _).1 (pPlace_bd _ _).2; rw [← hv, ← hm2] at h9; exact h9)
    have HV := hid hv
    clear hv hm2
    have rW : Row W.drew A s.M.W := (hW0.step hN.be).step ((Below.refl _ _).drew)
    have rG : Row W.drew B s.M.G := (hG0.step hN.be).step ((Below.refl _ _).drew)
    have hl := hN.lt
    obtain ⟨p0, p1, p2⟩ := cells3 hN.b0
    have pa0 : ∀ o, (W.drew.alloc o).cell? ⟨w.heap.size, 0, none⟩ = some (.slice A s.M.W.length a) := fun o => cell_of_row _ _ 0 _ _ _ (((bstep ((Below.refl W.heap.size W).drew) (boxed _ o)).block _ (by omega)).trans hN.b0)
    have pa1 : ∀ o, (W.drew.alloc o).cell? ⟨w.heap.size, 1, none⟩ = some (.slice B s.M.G.length b) := fun o => cell_of_row _ _ 1 _ _ _ (((bstep ((Below.refl W.heap.size W).drew) (boxed _ o)).block _ (by omega)).trans hN.b0)
    have pa2 : ∀ o, (W.drew.alloc o).cell? ⟨w.heap.size, 2, none⟩ = some (.bool s.M.bad) := fun o => cell_of_row _ _ 2 _ _ _ (((bstep ((Below.refl W.heap.size W).drew) (boxed _ o)).block _ (by omega)).trans hN.b0)
    try dsimp only
    gi_upto_region 5 with (fail)
    gi_cut [7] from 28 (fun s0 wx => s0 = .int .i64 vv ∧ Below W.heap.size W wx)
    case first =>
      have n1 : w.heap.size < W.heap.size := by omega
      have n2 : (w.heap.size == W.heap.size) = false := by simp; omega
      have n3 : ¬ (w.heap.size = W.heap.size) := by omega
      refine wpIn_region_any (by assumption) ?_
      try (change wpAnyIn _ _ _ _ _ _ _ _ _ (World.drew _))
      refine wpAnyIn_round l (by kernel_rfl) _ _ _ _ ?_
      refine wpAnyIn_take (i := 0) (v := ?v1) rfl rfl (by kernel_rfl) (by kernel_rfl) (by kernel_rfl) (fun _ _ _ h => h) ⟨Or.inl ⟨by rfl, ?h1⟩, fun _ => rfl⟩ ?_
      case h1 => intro w; go_simp; try with_reducible rfl
      refine wpAnyIn_take (i := 2) (v := ?v2) rfl rfl (by kernel_rfl) (by kernel_rfl) (by kernel_rfl) (fun _ _ _ h => h) ⟨Or.inl ⟨by rfl, ?h2⟩, fun _ => rfl⟩ ?_
      case h2 => intro w; go_simp; try with_reducible rfl
      refine wpAnyIn_take (i := 3) (v := ?v3) rfl rfl (by kernel_rfl) (by kernel_rfl) (by kernel_rfl) (fun _ _ _ h => h) ⟨Or.inl ⟨by rfl, ?h3⟩, fun _ => rfl⟩ ?_
      case h3 => intro w; go_simp; try with_reducible rfl
      refine wpAnyIn_ready (rs := [1, 4, 9]) (by kernel_rfl) (by simp) ?_
      refine AllReadyIn.cons rfl (fun K hK => ?_) ?_
      · go_simp
        first | (refine hK _ _ ?_; clear hK K) | skip
        refine wpAnyIn_ready (rs := [4, 9]) (by kernel_rfl) (by simp) ?_
        refine AllReadyIn.cons rfl (fun K hK => ?_) ?_
        · go_simp
          gi_wp2_with (refine ⟨trivial, ?_⟩; gi_at_call 9; refine (callsIn_wide.2 (place_w _ _ _)).mono ?_; rintro e w3 ⟨rfl, rfl⟩)
          first | (refine hK _ _ ?_; clear hK K) | skip
          refine wpAnyIn_ready (rs := [5, 9]) (by kernel_rfl) (by simp) ?_
          refine AllReadyIn.cons rfl (fun K hK => ?_) ?_
          · go_simp
            gi_wp2_with (refine ⟨trivial, ?_⟩; gi_at_call 38; refine (callsIn_wide.2 (HC.out W.drew rW rG)).mono ?_; rintro e w4 ⟨A2, B2, a2, b2, rfl, s1, s3, hk4, _, _⟩; have hj : Below W.heap.size W w4 := bstep ((Below.refl _ _).drew) hk4)
            first | (refine hK _ _ ?_; clear hK K) | skip
            refine wpAnyIn_take (i := 6) (v := ?v4) rfl rfl (by kernel_rfl) (by kernel_rfl) (by kernel_rfl) (fun _ _ _ h => h) ⟨Or.inl ⟨by rfl, ?h4⟩, fun _ => rfl⟩ ?_
            case h4 => intro w; go_simp; try with_reducible rfl
            refine wpAnyIn_take (i := 7) (v := ?v5) rfl rfl (by kernel_rfl) (by kernel_rfl) (by kernel_rfl) (fun _ _ _ h => h) ⟨Or.inl ⟨by rfl, ?h5⟩, fun _ => rfl⟩ ?_
            case h5 => intro w; go_simp; try with_reducible rfl
            refine wpAnyIn_take (i := 8) (v := ?v6) rfl rfl (by kernel_rfl) (by kernel_rfl) (by kernel_rfl) (fun _ _ _ h => h) ⟨Or.inl ⟨by rfl, ?h6⟩, fun _ => rfl⟩ ?_
            case h6 => intro w; go_simp; try with_reducible rfl
            refine wpAnyIn_ready (rs := [9]) (by kernel_rfl) (by simp) ?_
            refine AllReadyIn.cons rfl (fun K hK => ?_) ?_
            · go_simp
              first | (refine hK _ _ ?_; clear hK K) | skip
              refine wpAnyIn_ready (rs := [10]) (by kernel_rfl) (by simp) ?_
              refine AllReadyIn.cons rfl (fun K hK => ?_) ?_
              · go_simp
                first | (refine hK _ _ ?_; clear hK K) | skip
                refine wpAnyIn_take (i := 11) (v := ?v7) rfl rfl (by kernel_rfl) (by kernel_rfl) (by kernel_rfl) (fun _ _ _ h => h) ⟨Or.inl ⟨by rfl, ?h7⟩, fun _ => rfl⟩ ?_
                case h7 => intro w; go_simp; try with_reducible rfl
                refine wpAnyIn_done (by kernel_rfl) ?_ _
                gi_wp2
                gi_meet
                first | exact ⟨rfl, bstep hj (boxed _ _)⟩ | exact ⟨rfl, below_set3 hj _ _ _⟩
              exact AllReadyIn.nil
            exact AllReadyIn.nil
          refine AllReadyIn.cons rfl (fun K hK => ?_) ?_
          · go_simp
            first | (refine hK _ _ ?_; clear hK K) | skip
            refine wpAnyIn_ready (rs := [5]) (by kernel_rfl) (by simp) ?_
            refine AllReadyIn.cons rfl (fun K hK => ?_) ?_
            · go_simp
              gi_wp2_with (refine ⟨trivial, ?_⟩; gi_at_call 38; refine (callsIn_wide.2 (HC.out (W.drew.alloc (.cells #[.slice none 0 0, .slice none 0 0, .bool false] 24)) (rW.alloc _) (rG.alloc _))).mono ?_; rintro e w4 ⟨A2, B2, a2, b2, rfl, s1, s3, hk4, _, _⟩; have hj : Below W.heap.size W w4 := bstep (bstep ((Below.refl _ _).drew) (boxed _ _)) hk4; have hy : w4.heap[W.heap.size]? = some (.cells #[.slice none 0 0, .slice none 0 0, .bool false] 24 (0, 0)) := (hk4.block _ (by simp)).trans (heap_alloc_new W.drew _); have y0 := cells1 hy; have yf0 := frz1 hy; obtain ⟨-, y1⟩ := cells2 hy; obtain ⟨-, yf1⟩ := frz2 hy; obtain ⟨-, -, y2⟩ := cells3 hy; obtain ⟨-, -, yf2⟩ := frz3 hy)
              first | (refine hK _ _ ?_; clear hK K) | skip
              refine wpAnyIn_take (i := 6) (v := ?v8) rfl rfl (by kernel_rfl) (by kernel_rfl) (by kernel_rfl) (fun _ _ _ h => h) ⟨Or.inl ⟨by rfl, ?h8⟩, fun _ => rfl⟩ ?_
              case h8 => intro w; go_simp; try with_reducible rfl
              refine wpAnyIn_take (i := 7) (v := ?v9) rfl rfl (by kernel_rfl) (by kernel_rfl) (by kernel_rfl) (fun _ _ _ h => h) ⟨Or.inl ⟨by rfl, ?h9⟩, fun _ => rfl⟩ ?_
              case h9 => intro w; go_simp; try with_reducible rfl
              refine wpAnyIn_take (i := 8) (v := ?v10) rfl rfl (by kernel_rfl) (by kernel_rfl) (by kernel_rfl) (fun _ _ _ h => h) ⟨Or.inl ⟨by rfl, ?h10⟩, fun _ => rfl⟩ ?_
              case h10 => intro w; go_simp; try with_reducible rfl
              refine wpAnyIn_ready (rs := [10]) (by kernel_rfl) (by simp) ?_
              refine AllReadyIn.cons rfl (fun K hK => ?_) ?_
              · go_simp
                first | (refine hK _ _ ?_; clear hK K) | skip
                refine wpAnyIn_take (i := 11) (v := ?v11) rfl rfl (by kernel_rfl) (by kernel_rfl) (by kernel_rfl) (fun _ _ _ h => h) ⟨Or.inl ⟨by rfl, ?h11⟩, fun _ => rfl⟩ ?_
                case h11 => intro w; go_simp; try with_reducible rfl
                refine wpAnyIn_done (by kernel_rfl) ?_ _
                gi_wp2
                gi_meet
                first | exact ⟨rfl, bstep hj (boxed _ _)⟩ | exact ⟨rfl, below_set3 hj _ _ _⟩
              exact AllReadyIn.nil
            exact AllReadyIn.nil
          exact AllReadyIn.nil
        refine AllReadyIn.cons rfl (fun K hK => ?_) ?_
        · go_simp
          first | (refine hK _ _ ?_; clear hK K) | skip
          refine wpAnyIn_ready (rs := [4]) (by kernel_rfl) (by simp) ?_
          refine AllReadyIn.cons rfl (fun K hK => ?_) ?_
          · go_simp
            gi_wp2_with (refine ⟨trivial, ?_⟩; gi_at_call 9; refine (callsIn_wide.2 (place_w _ _ _)).mono ?_; rintro e w3 ⟨rfl, rfl⟩)
            first | (refine hK _ _ ?_; clear hK K) | skip
            refine wpAnyIn_ready (rs := [5]) (by kernel_rfl) (by simp) ?_
            refine AllReadyIn.cons rfl (fun K hK => ?_) ?_
            · go_simp
              gi_wp2_with (refine ⟨trivial, ?_⟩; gi_at_call 38; refine (callsIn_wide.2 (HC.out (W.drew.alloc (.cells #[.slice none 0 0, .slice none 0 0, .bool false] 24)) (rW.alloc _) (rG.alloc _))).mono ?_; rintro e w4 ⟨A2, B2, a2, b2, rfl, s1, s3, hk4, _, _⟩; have hj : Below W.heap.size W w4 := bstep (bstep ((Below.refl _ _).drew) (boxed _ _)) hk4; have hy : w4.heap[W.heap.size]? = some (.cells #[.slice none 0 0, .slice none 0 0, .bool false] 24 (0, 0)) := (hk4.block _ (by simp)).trans (heap_alloc_new W.drew _); have y0 := cells1 hy; have yf0 := frz1 hy; obtain ⟨-, y1⟩ := cells2 hy; obtain ⟨-, yf1⟩ := frz2 hy; obtain ⟨-, -, y2⟩ := cells3 hy; obtain ⟨-, -, yf2⟩ := frz3 hy)
              first | (refine hK _ _ ?_; clear hK K) | skip
              refine wpAnyIn_take (i := 6) (v := ?v12) rfl rfl (by kernel_rfl) (by kernel_rfl) (by kernel_rfl) (fun _ _ _ h => h) ⟨Or.inl ⟨by rfl, ?h12⟩, fun _ => rfl⟩ ?_
              case h12 => intro w; go_simp; try with_reducible rfl
              refine wpAnyIn_take (i := 7) (v := ?v13) rfl rfl (by kernel_rfl) (by kernel_rfl) (by kernel_rfl) (fun _ _ _ h => h) ⟨Or.inl ⟨by rfl, ?h13⟩, fun _ => rfl⟩ ?_
              case h13 => intro w; go_simp; try with_reducible rfl
              refine wpAnyIn_take (i := 8) (v := ?v14) rfl rfl (by kernel_rfl) (by kernel_rfl) (by kernel_rfl) (fun _ _ _ h => h) ⟨Or.inl ⟨by rfl, ?h14⟩, fun _ => rfl⟩ ?_
              case h14 => intro w; go_simp; try with_reducible rfl
              refine wpAnyIn_ready (rs := [10]) (by kernel_rfl) (by simp) ?_
              refine AllReadyIn.cons rfl (fun K hK => ?_) ?_
              · go_simp
                first | (refine hK _ _ ?_; clear hK K) | skip
                refine wpAnyIn_take (i := 11) (v := ?v15) rfl rfl (by kernel_rfl) (by kernel_rfl) (by kernel_rfl) (fun _ _ _ h => h) ⟨Or.inl ⟨by rfl, ?h15⟩, fun _ => rfl⟩ ?_
                case h15 => intro w; go_simp; try with_reducible rfl
                refine wpAnyIn_done (by kernel_rfl) ?_ _
                gi_wp2
                gi_meet
                first | exact ⟨rfl, bstep hj (boxed _ _)⟩ | exact ⟨rfl, below_set3 hj _ _ _⟩
              exact AllReadyIn.nil
            exact AllReadyIn.nil
          exact AllReadyIn.nil
        exact AllReadyIn.nil
      refine AllReadyIn.cons rfl (fun K hK => ?_) ?_
      · go_simp
        gi_wp2_with (refine ⟨trivial, ?_⟩; gi_at_call 9; refine (callsIn_wide.2 (place_w _ _ _)).mono ?_; rintro e w3 ⟨rfl, rfl⟩)
        first | (refine hK _ _ ?_; clear hK K) | skip
        refine wpAnyIn_ready (rs := [1, 9]) (by kernel_rfl) (by simp) ?_
        refine AllReadyIn.cons rfl (fun K hK => ?_) ?_
        · go_simp
          first | (refine hK _ _ ?_; clear hK K) | skip
          refine wpAnyIn_ready (rs := [5, 9]) (by kernel_rfl) (by simp) ?_
          refine AllReadyIn.cons rfl (fun K hK => ?_) ?_
          · go_simp
            gi_wp2_with (refine ⟨trivial, ?_⟩; gi_at_call 38; refine (callsIn_wide.2 (HC.out W.drew rW rG)).mono ?_; rintro e w4 ⟨A2, B2, a2, b2, rfl, s1, s3, hk4, _, _⟩; have hj : Below W.heap.size W w4 := bstep ((Below.refl _ _).drew) hk4)
            first | (refine hK _ _ ?_; clear hK K) | skip
            refine wpAnyIn_take (i := 6) (v := ?v16) rfl rfl (by kernel_rfl) (by kernel_rfl) (by kernel_rfl) (fun _ _ _ h => h) ⟨Or.inl ⟨by rfl, ?h16⟩, fun _ => rfl⟩ ?_
            case h16 => intro w; go_simp; try with_reducible rfl
            refine wpAnyIn_take (i := 7) (v := ?v17) rfl rfl (by kernel_rfl) (by kernel_rfl) (by kernel_rfl) (fun _ _ _ h => h) ⟨Or.inl ⟨by rfl, ?h17⟩, fun _ => rfl⟩ ?_
            case h17 => intro w; go_simp; try with_reducible rfl
            refine wpAnyIn_take (i := 8) (v := ?v18) rfl rfl (by kernel_rfl) (by kernel_rfl) (by kernel_rfl) (fun _ _ _ h => h) ⟨Or.inl ⟨by rfl, ?h18⟩, fun _ => rfl⟩ ?_
            case h18 => intro w; go_simp; try with_reducible rfl
            refine wpAnyIn_ready (rs := [9]) (by kernel_rfl) (by simp) ?_
            refine AllReadyIn.cons rfl (fun K hK => ?_) ?_
            · go_simp
              first | (refine hK _ _ ?_; clear hK K) | skip
              refine wpAnyIn_ready (rs := [10]) (by kernel_rfl) (by simp) ?_
              refine AllReadyIn.cons rfl (fun K hK => ?_) ?_
              · go_simp
                first | (refine hK _ _ ?_; clear hK K) | skip
                refine wpAnyIn_take (i := 11) (v := ?v19) rfl rfl (by kernel_rfl) (by kernel_rfl) (by kernel_rfl) (fun _ _ _ h => h) ⟨Or.inl ⟨by rfl, ?h19⟩, fun _ => rfl⟩ ?_
                case h19 => intro w; go_simp; try with_reducible rfl
                refine wpAnyIn_done (by kernel_rfl) ?_ _
                gi_wp2
                gi_meet
                first | exact ⟨rfl, bstep hj (boxed _ _)⟩ | exact ⟨rfl, below_set3 hj _ _ _⟩
              exact AllReadyIn.nil
            exact AllReadyIn.nil
          refine AllReadyIn.cons rfl (fun K hK => ?_) ?_
          · go_simp
            first | (refine hK _ _ ?_; clear hK K) | skip
            refine wpAnyIn_ready (rs := [5]) (by kernel_rfl) (by simp) ?_
            refine AllReadyIn.cons rfl (fun K hK => ?_) ?_
            · go_simp
              gi_wp2_with (refine ⟨trivial, ?_⟩; gi_at_call 38; refine (callsIn_wide.2 (HC.out (W.drew.alloc (.cells #[.slice none 0 0, .slice none 0 0, .bool false] 24)) (rW.alloc _) (rG.alloc _))).mono ?_; rintro e w4 ⟨A2, B2, a2, b2, rfl, s1, s3, hk4, _, _⟩; have hj : Below W.heap.size W w4 := bstep (bstep ((Below.refl _ _).drew) (boxed _ _)) hk4; have hy : w4.heap[W.heap.size]? = some (.cells #[.slice none 0 0, .slice none 0 0, .bool false] 24 (0, 0)) := (hk4.block _ (by simp)).trans (heap_alloc_new W.drew _); have y0 := cells1 hy; have yf0 := frz1 hy; obtain ⟨-, y1⟩ := cells2 hy; obtain ⟨-, yf1⟩ := frz2 hy; obtain ⟨-, -, y2⟩ := cells3 hy; obtain ⟨-, -, yf2⟩ := frz3 hy)
              first | (refine hK _ _ ?_; clear hK K) | skip
              refine wpAnyIn_take (i := 6) (v := ?v20) rfl rfl (by kernel_rfl) (by kernel_rfl) (by kernel_rfl) (fun _ _ _ h => h) ⟨Or.inl ⟨by rfl, ?h20⟩, fun _ => rfl⟩ ?_
              case h20 => intro w; go_simp; try with_reducible rfl
              refine wpAnyIn_take (i := 7) (v := ?v21) rfl rfl (by kernel_rfl) (by kernel_rfl) (by kernel_rfl) (fun _ _ _ h => h) ⟨Or.inl ⟨by rfl, ?h21⟩, fun _ => rfl⟩ ?_
              case h21 => intro w; go_simp; try with_reducible rfl
              refine wpAnyIn_take (i := 8) (v := ?v22) rfl rfl (by kernel_rfl) (by kernel_rfl) (by kernel_rfl) (fun _ _ _ h => h) ⟨Or.inl ⟨by rfl, ?h22⟩, fun _ => rfl⟩ ?_
              case h22 => intro w; go_simp; try with_reducible rfl
              refine wpAnyIn_ready (rs := [10]) (by kernel_rfl) (by simp) ?_
              refine AllReadyIn.cons rfl (fun K hK => ?_) ?_
              · go_simp
                first | (refine hK _ _ ?_; clear hK K) | skip
                refine wpAnyIn_take (i := 11) (v := ?v23) rfl rfl (by kernel_rfl) (by kernel_rfl) (by kernel_rfl) (fun _ _ _ h => h) ⟨Or.inl ⟨by rfl, ?h23⟩, fun _ => rfl⟩ ?_
                case h23 => intro w; go_simp; try with_reducible rfl
                refine wpAnyIn_done (by kernel_rfl) ?_ _
                gi_wp2
                gi_meet
                first | exact ⟨rfl, bstep hj (boxed _ _)⟩ | exact ⟨rfl, below_set3 hj _ _ _⟩
              exact AllReadyIn.nil
            exact AllReadyIn.nil
          exact AllReadyIn.nil
        refine AllReadyIn.cons rfl (fun K hK => ?_) ?_
        · go_simp
          first | (refine hK _ _ ?_; clear hK K) | skip
          refine wpAnyIn_ready (rs := [1]) (by kernel_rfl) (by simp) ?_
          refine AllReadyIn.cons rfl (fun K hK => ?_) ?_
          · go_simp
            first | (refine hK _ _ ?_; clear hK K) | skip
            refine wpAnyIn_ready (rs := [5]) (by kernel_rfl) (by simp) ?_
            refine AllReadyIn.cons rfl (fun K hK => ?_) ?_
            · go_simp
              gi_wp2_with (refine ⟨trivial, ?_⟩; gi_at_call 38; refine (callsIn_wide.2 (HC.out (W.drew.alloc (.cells #[.slice none 0 0, .slice none 0 0, .bool false] 24)) (rW.alloc _) (rG.alloc _))).mono ?_; rintro e w4 ⟨A2, B2, a2, b2, rfl, s1, s3, hk4, _, _⟩; have hj : Below W.heap.size W w4 := bstep (bstep ((Below.refl _ _).drew) (boxed _ _)) hk4; have hy : w4.heap[W.heap.size]? = some (.cells #[.slice none 0 0, .slice none 0 0, .bool false] 24 (0, 0)) := (hk4.block _ (by simp)).trans (heap_alloc_new W.drew _); have y0 := cells1 hy; have yf0 := frz1 hy; obtain ⟨-, y1⟩ := cells2 hy; obtain ⟨-, yf1⟩ := frz2 hy; obtain ⟨-, -, y2⟩ := cells3 hy; obtain ⟨-, -, yf2⟩ := frz3 hy)
              first | (refine hK _ _ ?_; clear hK K) | skip
              refine wpAnyIn_take (i := 6) (v := ?v24) rfl rfl (by kernel_rfl) (by kernel_rfl) (by kernel_rfl) (fun _ _ _ h => h) ⟨Or.inl ⟨by rfl, ?h24⟩, fun _ => rfl⟩ ?_
              case h24 => intro w; go_simp; try with_reducible rfl
              refine wpAnyIn_take (i := 7) (v := ?v25) rfl rfl (by kernel_rfl) (by kernel_rfl) (by kernel_rfl) (fun _ _ _ h => h) ⟨Or.inl ⟨by rfl, ?h25⟩, fun _ => rfl⟩ ?_
              case h25 => intro w; go_simp; try with_reducible rfl
              refine wpAnyIn_take (i := 8) (v := ?v26) rfl rfl (by kernel_rfl) (by kernel_rfl) (by kernel_rfl) (fun _ _ _ h => h) ⟨Or.inl ⟨by rfl, ?h26⟩, fun _ => rfl⟩ ?_
              case h26 => intro w; go_simp; try with_reducible rfl
              refine wpAnyIn_ready (rs := [10]) (by kernel_rfl) (by simp) ?_
              refine AllReadyIn.cons rfl (fun K hK => ?_) ?_
              · go_simp
                first | (refine hK _ _ ?_; clear hK K) | skip
                refine wpAnyIn_take (i := 11) (v := ?v27) rfl rfl (by kernel_rfl) (by kernel_rfl) (by kernel_rfl) (fun _ _ _ h => h) ⟨Or.inl ⟨by rfl, ?h27⟩, fun _ => rfl⟩ ?_
                case h27 => intro w; go_simp; try with_reducible rfl
                refine wpAnyIn_done (by kernel_rfl) ?_ _
                gi_wp2
                gi_meet
                first | exact ⟨rfl, bstep hj (boxed _ _)⟩ | exact ⟨rfl, below_set3 hj _ _ _⟩
              exact AllReadyIn.nil
            exact AllReadyIn.nil
          exact AllReadyIn.nil
        exact AllReadyIn.nil
      refine AllReadyIn.cons rfl (fun K hK => ?_) ?_
      · go_simp
        first | (refine hK _ _ ?_; clear hK K) | skip
        refine wpAnyIn_ready (rs := [1, 4]) (by kernel_rfl) (by simp) ?_
        refine AllReadyIn.cons rfl (fun K hK => ?_) ?_
        · go_simp
          first | (refine hK _ _ ?_; clear hK K) | skip
          refine wpAnyIn_ready (rs := [4]) (by kernel_rfl) (by simp) ?_
          refine AllReadyIn.cons rfl (fun K hK => ?_) ?_
          · go_simp
            gi_wp2_with (refine ⟨trivial, ?_⟩; gi_at_call 9; refine (callsIn_wide.2 (place_w _ _ _)).mono ?_; rintro e w3 ⟨rfl, rfl⟩)
            first | (refine hK _ _ ?_; clear hK K) | skip
            refine wpAnyIn_ready (rs := [5]) (by kernel_rfl) (by simp) ?_
            refine AllReadyIn.cons rfl (fun K hK => ?_) ?_
            · go_simp
              gi_wp2_with (refine ⟨trivial, ?_⟩; gi_at_call 38; refine (callsIn_wide.2 (HC.out (W.drew.alloc (.cells #[.slice none 0 0, .slice none 0 0, .bool false] 24)) (rW.alloc _) (rG.alloc _))).mono ?_; rintro e w4 ⟨A2, B2, a2, b2, rfl, s1, s3, hk4, _, _⟩; have hj : Below W.heap.size W w4 := bstep (bstep ((Below.refl _ _).drew) (boxed _ _)) hk4; have hy : w4.heap[W.heap.size]? = some (.cells #[.slice none 0 0, .slice none 0 0, .bool false] 24 (0, 0)) := (hk4.block _ (by simp)).trans (heap_alloc_new W.drew _); have y0 := cells1 hy; have yf0 := frz1 hy; obtain ⟨-, y1⟩ := cells2 hy; obtain ⟨-, yf1⟩ := frz2 hy; obtain ⟨-, -, y2⟩ := cells3 hy; obtain ⟨-, -, yf2⟩ := frz3 hy)
              first | (refine hK _ _ ?_; clear hK K) | skip
              refine wpAnyIn_take (i := 6) (v := ?v28) rfl rfl (by kernel_rfl) (by kernel_rfl) (by kernel_rfl) (fun _ _ _ h => h) ⟨Or.inl ⟨by rfl, ?h28⟩, fun _ => rfl⟩ ?_
              case h28 => intro w; go_simp; try with_reducible rfl
              refine wpAnyIn_take (i := 7) (v := ?v29) rfl rfl (by kernel_rfl) (by kernel_rfl) (by kernel_rfl) (fun _ _ _ h => h) ⟨Or.inl ⟨by rfl, ?h29⟩, fun _ => rfl⟩ ?_
              case h29 => intro w; go_simp; try with_reducible rfl
              refine wpAnyIn_take (i := 8) (v := ?v30) rfl rfl (by kernel_rfl) (by kernel_rfl) (by kernel_rfl) (fun _ _ _ h => h) ⟨Or.inl ⟨by rfl, ?h30⟩, fun _ => rfl⟩ ?_
              case h30 => intro w; go_simp; try with_reducible rfl
              refine wpAnyIn_ready (rs := [10]) (by kernel_rfl) (by simp) ?_
              refine AllReadyIn.cons rfl (fun K hK => ?_) ?_
              · go_simp
                first | (refine hK _ _ ?_; clear hK K) | skip
                refine wpAnyIn_take (i := 11) (v := ?v31) rfl rfl (by kernel_rfl) (by kernel_rfl) (by kernel_rfl) (fun _ _ _ h => h) ⟨Or.inl ⟨by rfl, ?h31⟩, fun _ => rfl⟩ ?_
                case h31 => intro w; go_simp; try with_reducible rfl
                refine wpAnyIn_done (by kernel_rfl) ?_ _
                gi_wp2
                gi_meet
                first | exact ⟨rfl, bstep hj (boxed _ _)⟩ | exact ⟨rfl, below_set3 hj _ _ _⟩
              exact AllReadyIn.nil
            exact AllReadyIn.nil
          exact AllReadyIn.nil
        refine AllReadyIn.cons rfl (fun K hK => ?_) ?_
        · go_simp
          gi_wp2_with (refine ⟨trivial, ?_⟩; gi_at_call 9; refine (callsIn_wide.2 (place_w _ _ _)).mono ?_; rintro e w3 ⟨rfl, rfl⟩)
          first | (refine hK _ _ ?_; clear hK K) | skip
          refine wpAnyIn_ready (rs := [1]) (by kernel_rfl) (by simp) ?_
          refine AllReadyIn.cons rfl (fun K hK => ?_) ?_
          · go_simp
            first | (refine hK _ _ ?_; clear hK K) | skip
            refine wpAnyIn_ready (rs := [5]) (by kernel_rfl) (by simp) ?_
            refine AllReadyIn.cons rfl (fun K hK => ?_) ?_
            · go_simp
              gi_wp2_with (refine ⟨trivial, ?_⟩; gi_at_call 38; refine (callsIn_wide.2 (HC.out (W.drew.alloc (.cells #[.slice none 0 0, .slice none 0 0, .bool false] 24)) (rW.alloc _) (rG.alloc _))).mono ?_; rintro e w4 ⟨A2, B2, a2, b2, rfl, s1, s3, hk4, _, _⟩; have hj : Below W.heap.size W w4 := bstep (bstep ((Below.refl _ _).drew) (boxed _ _)) hk4; have hy : w4.heap[W.heap.size]? = some (.cells #[.slice none 0 0, .slice none 0 0, .bool false] 24 (0, 0)) := (hk4.block _ (by simp)).trans (heap_alloc_new W.drew _); have y0 := cells1 hy; have yf0 := frz1 hy; obtain ⟨-, y1⟩ := cells2 hy; obtain ⟨-, yf1⟩ := frz2 hy; obtain ⟨-, -, y2⟩ := cells3 hy; obtain ⟨-, -, yf2⟩ := frz3 hy)
              first | (refine hK _ _ ?_; clear hK K) | skip
              refine wpAnyIn_take (i := 6) (v := ?v32) rfl rfl (by kernel_rfl) (by kernel_rfl) (by kernel_rfl) (fun _ _ _ h => h) ⟨Or.inl ⟨by rfl, ?h32⟩, fun _ => rfl⟩ ?_
              case h32 => intro w; go_simp; try with_reducible rfl
              refine wpAnyIn_take (i := 7) (v := ?v33) rfl rfl (by kernel_rfl) (by kernel_rfl) (by kernel_rfl) (fun _ _ _ h => h) ⟨Or.inl ⟨by rfl, ?h33⟩, fun _ => rfl⟩ ?_
              case h33 => intro w; go_simp; try with_reducible rfl
              refine wpAnyIn_take (i := 8) (v := ?v34) rfl rfl (by kernel_rfl) (by kernel_rfl) (by kernel_rfl) (fun _ _ _ h => h) ⟨Or.inl ⟨by rfl, ?h34⟩, fun _ => rfl⟩ ?_
              case h34 => intro w; go_simp; try with_reducible rfl
              refine wpAnyIn_ready (rs := [10]) (by kernel_rfl) (by simp) ?_
              refine AllReadyIn.cons rfl (fun K hK => ?_) ?_
              · go_simp
                first | (refine hK _ _ ?_; clear hK K) | skip
                refine wpAnyIn_take (i := 11) (v := ?v35) rfl rfl (by kernel_rfl) (by kernel_rfl) (by kernel_rfl) (fun _ _ _ h => h) ⟨Or.inl ⟨by rfl, ?h35⟩, fun _ => rfl⟩ ?_
                case h35 => intro w; go_simp; try with_reducible rfl
                refine wpAnyIn_done (by kernel_rfl) ?_ _
                gi_wp2
                gi_meet
                first | exact ⟨rfl, bstep hj (boxed _ _)⟩ | exact ⟨rfl, below_set3 hj _ _ _⟩
              exact AllReadyIn.nil
            exact AllReadyIn.nil
          exact AllReadyIn.nil
        exact AllReadyIn.nil
      exact AllReadyIn.nil
    case rest =>
      obtain ⟨rfl, hj⟩ := hcut
      have v1 : wc.cell? ⟨w.heap.size + 1 + 1, 0, none⟩ = some (.slice (some ⟨w.heap.size + 1, 0, none⟩) s.M.G.length s.M.G.length) := cell_of_row _ _ 0 _ _ _ ((hj.block _ hl).trans hN.b2)
      by_cases q1 : 1 ≤ vv
      · by_cases q2 : vv < (s.M.G.length : Int)
        · obtain ⟨k, rfl⟩ : ∃ k : Nat, vv = (k : Int) := ⟨vv.toNat, by omega⟩
          have d1 : decide ((1 : Int) ≤ (k : Int)) = true := by simpa using q1
          have d2 : decide ((k : Int) < (s.M.G.length : Int)) = true := by simpa using q2
          have hkl : k < s.M.G.length := by omega
          have v2 : wc.cell? ⟨w.heap.size + 1, k, none⟩ = some (.bool ((pNameds s.M pre).getD k false)) := cell_of_bools ((hj.block _ (by omega)).trans hN.b1) (by rw [pNameds_len]; exact hkl)
          have v3 : wc.frozen? ⟨w.heap.size + 1, k, none⟩ = false := frozen_of_row _ _ k _ _ ((hj.block _ (by omega)).trans hN.b1)
          gi_wp2
          exact ⟨(KeepsOthers.of_below hj).trans (KeepsOthers.setCell _ _ _), ((KeepsOthers.of_below hj).trans (KeepsOthers.setCell _ _ _)).walks, hN.mark hj HV.out ⟨by omega, q2⟩⟩
        · have d1 : decide ((1 : Int) ≤ vv) = true := by simpa using q1
          have d2 : decide (vv < (s.M.G.length : Int)) = false := by simp; omega
          gi_wp2
          exact ⟨KeepsOthers.of_below hj, (KeepsOthers.of_below hj).walks, hN.next hj HV.out (by omega)⟩
      · have d1 : decide ((1 : Int) ≤ vv) = false := by simp; omega
        gi_wp2
        exact ⟨KeepsOthers.of_below hj, (KeepsOthers.of_below hj).walks, hN.next hj HV.out (by omega)⟩
  case done =>
    rintro D ys W hD rfl hN hK
    have c2 := cells1 hN.b2
    gi_wp2
    refine ⟨by simp, .inl ⟨_, _, rfl, run_takeDeferred hK, ?_⟩⟩
    have hN2 := (NB.own (w := w) (s := s) (A := A) (B := B) (C := C) (L := L) (a := a) (b := b) (c := c) (d := d) (z := w1.heap.size) (by omega)).putObj (.deferred none) hN hD hK rfl
    exact ⟨_, results_tmp rfl _ _ _, ⟨w.heap.size + 1, rfl, hN2.b1, by omega, hN2.be⟩⟩
  case stop =>
    rintro D c pre W _ _ h _
    exact h.elim
theorem named_any (A B C L : Option Addr) (a b c d : Nat) (s : Sy) (w : World) (hs : SyFew s) (hg : 2 ≤ s.M.G.length) (h : RS w s A B C L) :
    Calls Try.prog 14 #[.agg #[.slice A s.M.W.length a, .slice B s.M.G.length b, .bool s.M.bad, .slice C s.C.length c, .slice L s.L.length d]] w fun e w' => ∃ g, e = .returned (.slice (some ⟨g, 0, none⟩) s.M.G.length s.M.G.length) ∧ w'.heap[g]? = some (.cells ((pNameds s.M (prs (3 * s.C.length))).map Value.bool).toArray 4 (0, 0)) ∧ w.heap.size ≤ g ∧ Below w.heap.size w w' := named_wg A B C L a b c d s w hs hg h.W h.G
end Go.Proofs.Ythpflcknommpdaa
