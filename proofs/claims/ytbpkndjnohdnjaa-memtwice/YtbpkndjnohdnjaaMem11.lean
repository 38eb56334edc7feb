/- Contracts: stores and swaps, by the document. -/
import Derived.Test.YtbpkndjnohdnjaaMem10
namespace Go.Proofs.Ytbpkndjnohdnjaa
open Go.RowKit
set_option linter.unusedVariables false
set_option linter.unusedSimpArgs false

theorem undrew0 {a w : World} (h : Below a.drew.heap.size a.drew w) : Below a.heap.size a w := ⟨h.os, h.tape, h.output, h.size, h.block⟩

theorem mStore_no {m : Ar} {p v : Int} (h : mIn m.W p = false) : (mStore m p v).W = m.W ∧ (mStore m p v).G = m.G ∧ (mStore m p v).bad = true := by
  unfold mStore
  simp [h, mBad_no h]
theorem mStore_yes {m : Ar} {k : Nat} {v : Int} (h : mIn m.W k = true) : (mStore m k v).W = m.W.set k v ∧ (mStore m k v).G = m.G ∧ (mStore m k v).bad = mBad m k := by
  unfold mStore
  simp [h]

set_option maxHeartbeats 2000000 in
theorem rstore_any (A A' : Option Addr) (c c' : Nat) (m : Ar) (p v : Int) (w : World) (hW : Row w A m.W) (hG : Row w A' m.G) (h0 : m.W.length ≤ 1000000) (h1 : m.G.length ≤ 1000000) (h2 : 1 ≤ m.G.length) :
    Calls Try.prog 31 #[.agg #[.slice A m.W.length c, .slice A' m.G.length c', .bool m.bad], .int .i64 p, .int .i64 v] w (RetMem w (mStore m p v)) := by
  by_cases q1 : p < 0
  · have T := hid (mStore_no (m := m) (v := v) (mIn_no (.inl q1)))
    go_enter Try.func31, Try.ntmps31
    go_wp2
    refine bodyPost_ret (v := .agg #[.slice A m.W.length c, .slice A' m.G.length c', .bool true]) (by simp [results, Try.results31, go_sem]) rfl ?_
    obtain ⟨t1, t2, t3⟩ := T.out
    exact RetMem.mk (by rw [t1]) (by rw [t2]) t3.symm (by rw [t1]; exact (hW.alloc _).alloc _) (by rw [t2]; exact (hG.alloc _).alloc _) (bstep (boxed _ _) (boxed _ _))
  · have q2 : 0 ≤ p := by omega
    clear q1
    by_cases q3 : (m.W.length : Int) ≤ p
    · have T := hid (mStore_no (m := m) (v := v) (mIn_no (.inr q3)))
      go_enter Try.func31, Try.ntmps31
      go_wp2
      refine bodyPost_ret (v := .agg #[.slice A m.W.length c, .slice A' m.G.length c', .bool true]) (by simp [results, Try.results31, go_sem]) rfl ?_
      obtain ⟨t1, t2, t3⟩ := T.out
      exact RetMem.mk (by rw [t1]) (by rw [t2]) t3.symm (by rw [t1]; exact (hW.alloc _).alloc _) (by rw [t2]; exact (hG.alloc _).alloc _) (bstep (boxed _ _) (boxed _ _))
    · obtain ⟨k, rfl⟩ : ∃ k : Nat, p = k := ⟨p.toNat, by omega⟩
      have q4 : (k : Int) < (m.W.length : Int) := by omega
      have hkl : k < m.W.length := by omega
      have T := hid (mStore_yes (m := m) (v := v) (mIn_yes q2 q4))
      clear q3
      go_enter Try.func31, Try.ntmps31
      go_wp2_with (at_builtin; refine wpList_append_new rfl (.tmp 22) (.tmp 24) _ rfl int_info Try.underlying22 (w.heap.size + 1 + 1) rfl ?_ _ m.W c rfl (((hW.alloc _).alloc _).alloc _) (by omega) h0 ?_; (rw [show w.heap.size + 1 + 1 = ((w.alloc (.cells #[.slice A m.W.length c, .slice A' m.G.length c', .bool m.bad] 24)).alloc (.cells #[.slice none 0 0, .slice none 0 0, .bool false] 24)).heap.size by simp]; exact heap_alloc_new _ _); intro g cap w2 O2 hg2 hb2; have d1 := O2.cellD k hkl; have d2 := O2.frozen k; obtain ⟨gc, gf⟩ := bcellB hb2; have n1 : g ≠ w.heap.size := (by omega); have n2 : g ≠ w.heap.size + 1 := (by omega); have n3 := n1.symm; have n4 := n2.symm; have n5 : w.heap.size < w.heap.size + 1 + 1 := (by omega); have n6 : w.heap.size + 1 < w.heap.size + 1 + 1 := (by omega); have n7 := O2.lt; have n8 : w.heap.size + 1 < w2.heap.size := (by omega); have n9 : w.heap.size < w2.heap.size := (by omega))
      have hb : Below w.heap.size w w2 := (bstep (bstep (boxed _ _) (boxed _ _)) (boxed _ _)).trans (hb2.mono (by omega))
      have hb' := hb.setCell (p := ⟨g, k, none⟩) (by simp; omega) (.int .i64 v)
      have c0 : (w2.setCell ⟨g, k, none⟩ (.int .i64 v)).cell? ⟨w.heap.size, 0, none⟩ = some (.slice A m.W.length c) := by simp [go_sem, n1, n3, gc, n5]
      have c1 : (w2.setCell ⟨g, k, none⟩ (.int .i64 v)).cell? ⟨w.heap.size, 1, none⟩ = some (.slice A' m.G.length c') := by simp [go_sem, n1, n3, gc, n5]
      have c2 : (w2.setCell ⟨g, k, none⟩ (.int .i64 v)).cell? ⟨w.heap.size, 2, none⟩ = some (.bool m.bad) := by simp [go_sem, n1, n3, gc, n5]
      have r0 : (w2.setCell ⟨g, k, none⟩ (.int .i64 v)).cell? ⟨w.heap.size + 1, 0, none⟩ = some (.slice none 0 0) := by simp [go_sem, n2, n4, gc, n6]
      have r1 : (w2.setCell ⟨g, k, none⟩ (.int .i64 v)).cell? ⟨w.heap.size + 1, 1, none⟩ = some (.slice none 0 0) := by simp [go_sem, n2, n4, gc, n6]
      have r2 : (w2.setCell ⟨g, k, none⟩ (.int .i64 v)).cell? ⟨w.heap.size + 1, 2, none⟩ = some (.bool false) := by simp [go_sem, n2, n4, gc, n6]
      have f0 : ∀ o, (w2.setCell ⟨g, k, none⟩ (.int .i64 v)).frozen? ⟨w.heap.size + 1, o, none⟩ = false := by intro o; simp [go_sem, n2, n4, gf, n6]
      have O3 := O2.set k v
      have s1 : w.heap.size + 1 < (w2.setCell ⟨g, k, none⟩ (.int .i64 v)).heap.size := by simpa [World.setCell] using n8
      have s0 : w.heap.size < (w2.setCell ⟨g, k, none⟩ (.int .i64 v)).heap.size := by simpa [World.setCell] using n9
      clear d1 d2 gc gf hb2 O2 n5 n6 n7 n8 n9 hb
      generalize w2.setCell ⟨g, k, none⟩ (.int .i64 v) = w3 at *
      go_region_held3 (fun w' => w'.cell? ⟨w.heap.size, 0, none⟩ = some (.slice A m.W.length c) ∧ w'.cell? ⟨w.heap.size, 1, none⟩ = some (.slice A' m.G.length c') ∧ w'.cell? ⟨w.heap.size, 2, none⟩ = some (.bool m.bad)) (first | go_keep | (refine keepS hk ?_; exact ⟨c0, c1, c2⟩) | exact keepT (by omega) (keepS hk ⟨c0, c1, c2⟩))
        (first
          | (go_at_call 39; refine (bad_any _ _ _ _ m k _ (hG.step hb'.drew) h0 h1 h2).mono ?_; rintro e wk ⟨rfl, hk⟩; replace hk := undrew0 hk; obtain ⟨gc, gf⟩ := bcell hk))
      all_goals go_wp2
      refine bodyPost_ret (v := .agg #[.slice (some ⟨g, 0, none⟩) m.W.length cap, .slice A' m.G.length c', .bool (mBad m k)]) (by simp [results, Try.results31, go_sem, gc, s1, r0, r1, r2]) rfl ?_
      obtain ⟨t1, t2, t3⟩ := T.out
      have hb3 := keep3 (bstep hb' hk) (r := w.heap.size + 1) (by omega) (.slice (some ⟨g, 0, none⟩) m.W.length cap) (.slice A' m.G.length c') (.bool (mBad m k))
      exact RetMem.mk (by rw [t1, List.length_set]) (by rw [t2]) t3.symm (by rw [t1]; exact ((O3.step hk O3.lt).keep3 n2 _ _ _).row) (by rw [t2]; exact hG.step hb3) hb3

theorem mIs_no {m : Ar} {p old : Int} (h : mIn m.W p = false) : mIs m p old = false := by unfold mIs; simp [h]
theorem mIs_yes {m : Ar} {k : Nat} {old : Int} (h : mIn m.W k = true) : mIs m k old = (m.W.getD k 0 == old) := by unfold mIs; simp [h]
theorem mCas_no {m : Ar} {p old now : Int} (h : mIs m p old = false) : mCas m p old now = mLoad m p := by unfold mCas mLoad; simp [h]
theorem mCas_yes {m : Ar} {p old now : Int} (h : mIs m p old = true) : mCas m p old now = mStore m p now := by
  have h2 : mIn m.W p = true := by unfold mIs at h; simp at h; exact h.1
  unfold mCas mStore
  simp [h, h2]

/-- A row of integers is no variable that holds an arena: a store there leaves it. -/
theorem Row.far3 {w : World} {A : Option Addr} {xs : List Int} (h : Row w A xs) {r : Nat} {a1 a2 : Option Addr} {n1 c1 n2 c2 : Nat} {b : Bool} {t : TypeId} (hr : w.heap[r]? = some (.cells #[.slice a1 n1 c1, .slice a2 n2 c2, .bool b] t (0, 0))) (x y z : Value) :
    Row (((w.setCell ⟨r, 0, none⟩ x).setCell ⟨r, 1, none⟩ y).setCell ⟨r, 2, none⟩ z) A xs := fun hn => by
  obtain ⟨g, o, e, hl, hc⟩ := h hn
  have hne : g ≠ r := by
    rintro rfl
    have h0 := hc 0 xs[0] (List.getElem?_eq_getElem hn)
    rw [cell_of_row w g _ _ _ _ hr] at h0
    match o, h0 with
    | 0, h0 => simp at h0
    | 1, h0 => simp at h0
    | 2, h0 => simp at h0
    | o + 3, h0 => simp at h0
  have e1 : ∀ (V : World) (i j : Nat) (q : Value), (V.setCell ⟨r, i, none⟩ q).cell? ⟨g, j, none⟩ = V.cell? ⟨g, j, none⟩ := fun V i j q => World.cell?_setCell_other V _ _ _ (fun h => hne (by injection h with h; exact h.symm))
  refine ⟨g, o, e, by simpa [World.setCell] using hl, fun j u hu => ?_⟩
  rw [e1, e1, e1]
  exact hc j u hu

set_option maxHeartbeats 2000000 in
theorem rcas_any (A A' : Option Addr) (c c' : Nat) (m : Ar) (p old now : Int) (w : World) (hW : Row w A m.W) (hG : Row w A' m.G) (h0 : m.W.length ≤ 1000000) (h1 : m.G.length ≤ 1000000) (h2 : 1 ≤ m.G.length) :
    Calls Try.prog 29 #[.agg #[.slice A m.W.length c, .slice A' m.G.length c', .bool m.bad], .int .i64 p, .int .i64 old, .int .i64 now] w (RetMem2 w (mCas m p old now) (.bool (mIs m p old))) := by
  by_cases q1 : p < 0
  · have T1 := hid (mIs_no (m := m) (p := p) (old := old) (mIn_no (.inl q1)))
    have T2 := hid (mCas_no (now := now) T1.out)
    go_enter Try.func29, Try.ntmps29
    go_wp2_with (go_at_call 27; refine (rload_any _ _ _ _ m p _ ((hW.alloc _).alloc _) ((hG.alloc _).alloc _) h0 h1 h2).mono ?_; rintro e wk ⟨B1, B2, d1, d2, rfl, R1, R2, hk⟩; obtain ⟨gc, gf⟩ := bcell hk; have hz : w.heap.size + 1 < wk.heap.size := (by have := hk.size; simp at this; omega); have hz0 : w.heap.size < wk.heap.size := (by omega))
    refine bodyPost_ret (v := .tuple #[.agg #[.slice B1 (mLoad m p).W.length d1, .slice B2 (mLoad m p).G.length d2, .bool (mLoad m p).bad], .bool false]) (by simp [results, Try.results29, go_sem, gc, hz]) rfl ?_
    rw [T1.out, T2.out]
    have hz1 : wk.heap[w.heap.size + 1]? = some (.cells #[.slice none 0 0, .slice none 0 0, .bool false] 24) := (hk.block _ (by simp)).trans (heap_alloc2_new w _ _)
    exact RetMem2.mk rfl rfl rfl ((R1.far3 hz1 _ _ _).alloc _) ((R2.far3 hz1 _ _ _).alloc _) (bstep (keep3 (bstep (bstep (boxed _ _) (boxed _ _)) hk) (by omega) _ _ _) (boxed _ _))
  · have q2 : 0 ≤ p := by omega
    clear q1
    by_cases q3 : (m.W.length : Int) ≤ p
    · have T1 := hid (mIs_no (m := m) (p := p) (old := old) (mIn_no (.inr q3)))
      have T2 := hid (mCas_no (now := now) T1.out)
      go_enter Try.func29, Try.ntmps29
      go_wp2_with (go_at_call 27; refine (rload_any _ _ _ _ m p _ ((hW.alloc _).alloc _) ((hG.alloc _).alloc _) h0 h1 h2).mono ?_; rintro e wk ⟨B1, B2, d1, d2, rfl, R1, R2, hk⟩; obtain ⟨gc, gf⟩ := bcell hk; have hz : w.heap.size + 1 < wk.heap.size := (by have := hk.size; simp at this; omega); have hz0 : w.heap.size < wk.heap.size := (by omega))
      refine bodyPost_ret (v := .tuple #[.agg #[.slice B1 (mLoad m p).W.length d1, .slice B2 (mLoad m p).G.length d2, .bool (mLoad m p).bad], .bool false]) (by simp [results, Try.results29, go_sem, gc, hz]) rfl ?_
      rw [T1.out, T2.out]
      have hz1 : wk.heap[w.heap.size + 1]? = some (.cells #[.slice none 0 0, .slice none 0 0, .bool false] 24) := (hk.block _ (by simp)).trans (heap_alloc2_new w _ _)
      exact RetMem2.mk rfl rfl rfl ((R1.far3 hz1 _ _ _).alloc _) ((R2.far3 hz1 _ _ _).alloc _) (bstep (keep3 (bstep (bstep (boxed _ _) (boxed _ _)) hk) (by omega) _ _ _) (boxed _ _))
    · obtain ⟨k, hkp⟩ : ∃ k : Nat, p = k := ⟨p.toNat, by omega⟩
      have q4 : p < (m.W.length : Int) := by omega
      have hkl : k < m.W.length := by omega
      have hI : mIs m p old = (m.W.getD k 0 == old) := by rw [hkp]; exact mIs_yes (mIn_yes (by omega) (by omega))
      have hV : mVal m p = m.W.getD k 0 := by rw [hkp]; exact mVal_yes (by omega)
      rw [← hV] at hI
      clear q3 hV
      obtain ⟨x, hx⟩ : ∃ x, mVal m p = x := ⟨_, rfl⟩
      rw [hx] at hI
      have HX := hid hx
      clear hx
      cases t : (x != old)
      · have T1 := hid (show mIs m p old = true by rw [hI]; simpa using t)
        have T2 := hid (mCas_yes (now := now) T1.out)
        clear hI hkp
        go_enter Try.func29, Try.ntmps29
        go_wp2_with (first
          | (go_at_call 27; refine (rload_any _ _ _ _ m p _ ((hW.alloc _).alloc _) ((hG.alloc _).alloc _) h0 h1 h2).mono ?_; rintro e wk ⟨B1, B2, d1, d2, rfl, R1, R2, hk⟩; rw [HX.out]; obtain ⟨gc, gf⟩ := bcell hk; have hz : w.heap.size + 1 < wk.heap.size := (by have := hk.size; simp at this; omega); have hz0 : w.heap.size < wk.heap.size := (by omega))
          | (go_at_call 31; refine (rstore_any _ _ _ _ m p now _ (Row.alloc (((hW.alloc _).alloc _).step hk) _) (Row.alloc (((hG.alloc _).alloc _).step hk) _) h0 h1 h2).mono ?_; rintro e wl ⟨C1, C2, e1, e2, rfl, S1, S2, hl⟩; obtain ⟨lc, lf⟩ := bcell hl; have hy : w.heap.size + 1 < wl.heap.size := (by have := hl.size; simp at this; omega); have hy1 : w.heap.size + 1 < wk.heap.size + 1 := (by omega)))
        refine bodyPost_ret (v := .tuple #[.agg #[.slice C1 (mStore m p now).W.length e1, .slice C2 (mStore m p now).G.length e2, .bool (mStore m p now).bad], .bool true]) (by simp [results, Try.results29, go_sem, gc, lc, hz, hy1]) rfl ?_
        rw [T1.out, T2.out]
        have hz1 : wl.heap[w.heap.size + 1]? = some (.cells #[.slice none 0 0, .slice none 0 0, .bool false] 24) := (hl.block _ (by simp; omega)).trans ((heap_alloc_old _ _ (by omega)).trans ((hk.block _ (by simp)).trans (heap_alloc2_new w _ _)))
        exact RetMem2.mk rfl rfl rfl (S1.far3 hz1 _ _ _) (S2.far3 hz1 _ _ _) (keep3 (bstep (bstep (bstep (bstep (boxed _ _) (boxed _ _)) hk) (boxed _ _)) hl) (by omega) _ _ _)
      · have T1 := hid (show mIs m p old = false by rw [hI]; simpa using t)
        have T2 := hid (mCas_no (now := now) T1.out)
        clear hI hkp
        go_enter Try.func29, Try.ntmps29
        go_wp2_with (go_at_call 27; refine (rload_any _ _ _ _ m p _ ((hW.alloc _).alloc _) ((hG.alloc _).alloc _) h0 h1 h2).mono ?_; rintro e wk ⟨B1, B2, d1, d2, rfl, R1, R2, hk⟩; rw [HX.out]; obtain ⟨gc, gf⟩ := bcell hk; have hz : w.heap.size + 1 < wk.heap.size := (by have := hk.size; simp at this; omega); have hz0 : w.heap.size < wk.heap.size := (by omega))
        refine bodyPost_ret (v := .tuple #[.agg #[.slice B1 (mLoad m p).W.length d1, .slice B2 (mLoad m p).G.length d2, .bool (mLoad m p).bad], .bool false]) (by simp [results, Try.results29, go_sem, gc, hz]) rfl ?_
        rw [T1.out, T2.out]
        have hz1 : wk.heap[w.heap.size + 1]? = some (.cells #[.slice none 0 0, .slice none 0 0, .bool false] 24) := (hk.block _ (by simp)).trans (heap_alloc2_new w _ _)
        exact RetMem2.mk rfl rfl rfl ((R1.far3 hz1 _ _ _).alloc _) ((R2.far3 hz1 _ _ _).alloc _) (bstep (keep3 (bstep (bstep (boxed _ _) (boxed _ _)) hk) (by omega) _ _ _) (boxed _ _))
end Go.Proofs.Ytbpkndjnohdnjaa
