/- Many cores pop and push: a step of one of them, and what the arena's list becomes: plain mathematics. No Go text. -/
import Derived.Test.YtnjleafhllepiaaStkP
namespace Go.Proofs.Ytnjleafhllepiaa
open Go.RowKit
set_option linter.unusedVariables false

/-- A core with other frames; a core that has ended an op. -/
def cF (x : Co) (F : List Fr) : Co := ⟨F, x.v, x.e, x.x0, x.x1, x.x2, x.ret⟩
def cB (x : Co) (v e : Int) : Co := ⟨[], v, e, x.x0, x.x1, x.x2, x.ret⟩
theorem at_core {s : Sy} {k : Nat} {x : Co} (h : s.C[k]? = some x) : pAt s (k : Int) = some x := by
  have hk := (List.getElem?_eq_some_iff.1 h).1
  have h1 : syHas s (k : Int) = true := by simp [syHas]; omega
  simp [pAt, h1, h]
theorem top_core {s : Sy} {k : Nat} {x : Co} {f : Fr} (h : s.C[k]? = some x) (hF : x.F = [f]) : pTop s (k : Int) = some f := by
  unfold pTop; rw [at_core h]; simp [hF]
theorem top_idle {s : Sy} {k : Nat} {x : Co} (h : s.C[k]? = some x) (hF : x.F = []) : pTop s (k : Int) = none := by
  unfold pTop; rw [at_core h]; simp [hF]
theorem mem_core {s : Sy} {M : Ar} {k : Nat} {x : Co} (h : s.C[k]? = some x) : (syMem s M).C[k]? = some x := h
theorem set_core {s : Sy} {k : Nat} {x : Co} {f g : Fr} (h : s.C[k]? = some x) (hF : x.F = [f]) : pSet s (k : Int) g = ⟨s.M, s.C.set k (cF x [g]), s.L⟩ := by
  unfold pSet; rw [at_core h]; simp [hF, syWith, coSet, cF]
theorem back_core {s : Sy} {k : Nat} {x : Co} {f : Fr} (h : s.C[k]? = some x) (hF : x.F = [f]) (v e : Int) : pBack s (k : Int) v e = ⟨s.M, s.C.set k (cB x v e), s.L⟩ := by
  unfold pBack; rw [at_core h]; simp [hF, syWith, coBack, cB]
theorem call_core {s : Sy} {k : Nat} {x : Co} (h : s.C[k]? = some x) (hF : x.F = []) (g : Fr) : pCall s (k : Int) g = ⟨s.M, s.C.set k (cF x [g]), s.L⟩ := by
  unfold pCall; rw [at_core h]; simp [hF, syWith, coCall, cF]
theorem log_core {s : Sy} {k : Nat} {x : Co} (h : s.C[k]? = some x) (a b c d : Int) : pLog s (k : Int) a b c d = ⟨s.M, s.C, s.L ++ [⟨k, a, b, c, d⟩]⟩ := by
  have hk := (List.getElem?_eq_some_iff.1 h).1
  unfold pLog
  rw [if_pos (by simp [syHas]; omega)]
  rfl

section
variable {s : Sy} {k n : Nat} {x : Co} {r0 r1 : Int}
theorem pop0_full (h : s.C[k]? = some x) (ia : IA n s.M) (hF : x.F = [fr1 1 0 r0 r1]) (hi : pIdx (mVal s.M 0) = 0) : pStep s (k : Int) = ⟨s.M, s.C.set k (cB x 0 2), s.L ++ [⟨k, 9, 0, 0, 0⟩]⟩ := by
  rw [pstep_pop (top_core h hF) rfl]
  unfold pPop
  rw [if_pos (show (fr1 1 0 r0 r1).pc = 0 from rfl), if_pos hi, load_same ia.m0, log_core (mem_core h), back_core (f := fr1 1 0 r0 r1) (x := x) (by exact h) hF]
  rfl
theorem pop0_go (h : s.C[k]? = some x) (ia : IA n s.M) (hF : x.F = [fr1 1 0 r0 r1]) (hi : ¬ pIdx (mVal s.M 0) = 0) : pStep s (k : Int) = ⟨s.M, s.C.set k (cF x [fr1 1 1 (mVal s.M 0) r1]), s.L⟩ := by
  rw [pstep_pop (top_core h hF) rfl]
  unfold pPop
  rw [if_pos (show (fr1 1 0 r0 r1).pc = 0 from rfl), if_neg hi, load_same ia.m0, set_core (f := fr1 1 0 r0 r1) (x := x) (mem_core h) hF]
  rfl
theorem pop1_go (h : s.C[k]? = some x) (hF : x.F = [fr1 1 1 r0 r1]) (hl : mBad s.M (pLink (pIdx r0)) = s.M.bad) : pStep s (k : Int) = ⟨s.M, s.C.set k (cF x [fr1 1 2 r0 (mVal s.M (pLink (pIdx r0)))]), s.L⟩ := by
  rw [pstep_pop (top_core h hF) rfl]
  unfold pPop
  rw [if_neg (show ¬ (fr1 1 1 r0 r1).pc = 0 by simp [fr1]), if_pos (show (fr1 1 1 r0 r1).pc = 1 from rfl)]
  show pSet (syMem s (mLoad s.M (pLink (pIdx r0)))) (k : Int) _ = _
  rw [load_same hl, set_core (f := fr1 1 1 r0 r1) (x := x) (mem_core h) hF]
  rfl
theorem pop2_hit (h : s.C[k]? = some x) (hF : x.F = [fr1 1 2 r0 r1]) (hm : mIs s.M 0 r0 = true) : pStep s (k : Int) = ⟨mTurn (mCas s.M 0 r0 (pNext r0 r1 0)) (pIdx r0) 1, s.C.set k (cB x (pIdx r0) 0), s.L⟩ := by
  rw [pstep_pop (top_core h hF) rfl]
  unfold pPop
  rw [if_neg (show ¬ (fr1 1 2 r0 r1).pc = 0 by simp [fr1]), if_neg (show ¬ (fr1 1 2 r0 r1).pc = 1 by simp [fr1]), if_pos (show (fr1 1 2 r0 r1).pc = 2 from rfl)]
  show pSwap s (k : Int) _ r0 r1 (pIdx r0) 1 = _
  unfold pSwap
  rw [if_pos hm, back_core (f := fr1 1 2 r0 r1) (x := x) (mem_core h) hF]
  rfl
theorem cas_miss (ia : IA n s.M) {o : Int} (hm : mIs s.M 0 o = false) (nw : Int) : mCas s.M 0 o nw = s.M := by
  have hb := ia.m0
  unfold mCas
  rw [hm, hb]
  cases s.M
  simp
theorem pop2_miss (h : s.C[k]? = some x) (ia : IA n s.M) (hF : x.F = [fr1 1 2 r0 r1]) (hm : mIs s.M 0 r0 = false) : pStep s (k : Int) = ⟨s.M, s.C.set k (cF x [fr1 1 0 r0 r1]), s.L⟩ := by
  rw [pstep_pop (top_core h hF) rfl]
  unfold pPop
  rw [if_neg (show ¬ (fr1 1 2 r0 r1).pc = 0 by simp [fr1]), if_neg (show ¬ (fr1 1 2 r0 r1).pc = 1 by simp [fr1]), if_pos (show (fr1 1 2 r0 r1).pc = 2 from rfl)]
  show pSwap s (k : Int) _ r0 r1 (pIdx r0) 1 = _
  unfold pSwap
  rw [if_neg (by rw [hm]; simp), cas_miss ia hm, set_core (f := fr1 1 2 r0 r1) (x := x) (mem_core h) hF]
  rfl
theorem push0_go (h : s.C[k]? = some x) (ia : IA n s.M) (hF : x.F = [fr1 2 0 r0 r1]) : pStep s (k : Int) = ⟨s.M, s.C.set k (cF x [fr1 2 1 r0 (mVal s.M 0)]), s.L⟩ := by
  rw [pstep_push (top_core h hF) rfl]
  unfold pPush
  rw [if_pos (show (fr1 2 0 r0 r1).pc = 0 from rfl), load_same ia.m0, set_core (f := fr1 2 0 r0 r1) (x := x) (mem_core h) hF]
  rfl
theorem push1_go (h : s.C[k]? = some x) (hF : x.F = [fr1 2 1 r0 r1]) : pStep s (k : Int) = ⟨mStore s.M (pLink r0) (pIdx r1), s.C.set k (cF x [fr1 2 2 r0 r1]), s.L⟩ := by
  rw [pstep_push (top_core h hF) rfl]
  unfold pPush
  rw [if_neg (show ¬ (fr1 2 1 r0 r1).pc = 0 by simp [fr1]), if_pos (show (fr1 2 1 r0 r1).pc = 1 from rfl)]
  show pSet (syMem s (mStore s.M (pLink r0) (pIdx r1))) (k : Int) _ = _
  rw [set_core (f := fr1 2 1 r0 r1) (x := x) (mem_core h) hF]
  rfl
theorem push2_hit (h : s.C[k]? = some x) (hF : x.F = [fr1 2 2 r0 r1]) (hm : mIs s.M 0 r1 = true) : pStep s (k : Int) = ⟨mTurn (mCas s.M 0 r1 (pNext r1 r0 0)) r0 0, s.C.set k (cB x r0 0), s.L⟩ := by
  rw [pstep_push (top_core h hF) rfl]
  unfold pPush
  rw [if_neg (show ¬ (fr1 2 2 r0 r1).pc = 0 by simp [fr1]), if_neg (show ¬ (fr1 2 2 r0 r1).pc = 1 by simp [fr1]), if_pos (show (fr1 2 2 r0 r1).pc = 2 from rfl)]
  show pSwap s (k : Int) _ r1 r0 r0 0 = _
  unfold pSwap
  rw [if_pos hm, back_core (f := fr1 2 2 r0 r1) (x := x) (mem_core h) hF]
  rfl
theorem push2_miss (h : s.C[k]? = some x) (ia : IA n s.M) (hF : x.F = [fr1 2 2 r0 r1]) (hm : mIs s.M 0 r1 = false) : pStep s (k : Int) = ⟨s.M, s.C.set k (cF x [fr1 2 0 r0 r1]), s.L⟩ := by
  rw [pstep_push (top_core h hF) rfl]
  unfold pPush
  rw [if_neg (show ¬ (fr1 2 2 r0 r1).pc = 0 by simp [fr1]), if_neg (show ¬ (fr1 2 2 r0 r1).pc = 1 by simp [fr1]), if_pos (show (fr1 2 2 r0 r1).pc = 2 from rfl)]
  show pSwap s (k : Int) _ r1 r0 r0 0 = _
  unfold pSwap
  rw [if_neg (by rw [hm]; simp), cas_miss ia hm, set_core (f := fr1 2 2 r0 r1) (x := x) (mem_core h) hF]
  rfl
end

/-- The first one of a list of nodes, or 0. -/
def hdN (l : List Nat) : Int := (l.headD 0 : Nat)
/-- The arena's list is l, of tag T. -/
structure Tri (n T : Nat) (l : List Nat) (M : Ar) : Prop where
  ia : IA n M
  hd : M.W.getD 0 0 = pWord T (hdN l) 0
  nd : l.Nodup
  rg : ∀ j ∈ l, 1 ≤ j ∧ j ≤ n
  ch : ∀ a j r, l = a ++ j :: r → M.W.getD (124 + 4 * j) 0 = hdN r
  lk : ∀ j, 1 ≤ j → j ≤ n → 0 ≤ M.W.getD (124 + 4 * j) 0 ∧ M.W.getD (124 + 4 * j) 0 ≤ (n : Int)
  gs : ∀ j, 1 ≤ j → j ≤ n → M.G.getD j 0 = if j ∈ l then 0 else 1
theorem hdN_bd {n : Nat} {l : List Nat} (h : ∀ j ∈ l, 1 ≤ j ∧ j ≤ n) : 0 ≤ hdN l ∧ hdN l ≤ (n : Int) := by
  unfold hdN
  cases l with
  | nil => simp
  | cons a r => have := h a (by simp); simp; omega
/-- The first node is popped. -/
theorem Tri.pop {n T j : Nat} {r : List Nat} {M : Ar} (h : Tri n T (j :: r) M) (hn : n ≤ 200) (hT : T ≤ 900) :
    Tri n (T + 1) r (mTurn (mCas M 0 (mVal M 0) (pNext (mVal M 0) (hdN r) 0)) (j : Int) 1) := by
  have hj := h.rg j (by simp)
  have hr := hdN_bd (n := n) (l := r) (fun i hi => h.rg i (by simp [hi]))
  have hh := hdN_bd h.rg
  have hN : pNext (mVal M 0) (hdN r) 0 = pWord ((T + 1 : Nat) : Int) (hdN r) 0 := by
    rw [h.ia.v0, h.hd, word_next (by omega) (by omega) hh.1 (by omega) hr.1 (by omega)]
    first | (congr 1; omega) | congr 1
  rw [hN]
  obtain ⟨e3, ia⟩ := cas_turn (j := j) (z := 1) h.ia hj.1 hj.2 (word_bd (t := ((T + 1 : Nat) : Int)) (i := hdN r) (by omega) (by omega) hr.1 (by omega)) (h.gs j hj.1 hj.2) (by rw [if_pos (by simp)]; rfl)
  rw [e3] at ia ⊢
  have hw := h.ia.w
  have hg := h.ia.g
  have hnd := List.nodup_cons.1 h.nd
  refine ⟨ia, ?_, hnd.2, fun i hi => h.rg i (by simp [hi]), fun a i q e => ?_, fun i i1 i2 => ?_, fun i i1 i2 => ?_⟩
  · show (M.W.set 0 _).getD 0 0 = _
    rw [getD_set _ _ _ _ (by omega), if_pos rfl]
  · show (M.W.set 0 _).getD _ 0 = _
    rw [getD_set _ _ _ _ (by omega), if_neg (by omega)]
    exact h.ch (j :: a) i q (by rw [e]; rfl)
  · show 0 ≤ (M.W.set 0 _).getD _ 0 ∧ _
    rw [getD_set _ _ _ _ (by omega), if_neg (by omega)]
    exact h.lk i i1 i2
  · show (M.G.set j 1).getD i 0 = _
    rw [getD_set _ _ _ _ (by omega)]
    by_cases q : j = i
    · subst q; rw [if_pos rfl, if_neg hnd.1]
    · rw [if_neg q, h.gs i i1 i2]
      by_cases q2 : i ∈ r
      · rw [if_pos (by simp [q2]), if_pos q2]
      · rw [if_neg (by simp [q2]; omega), if_neg q2]
/-- The link of a node that isn't in the list is stored. -/
theorem Tri.link {n T p : Nat} {l : List Nat} {M : Ar} (h : Tri n T l M) (hn : n ≤ 200) (p1 : 1 ≤ p) (p2 : p ≤ n) (hp : p ∉ l) {v : Int} (v0 : 0 ≤ v) (v1 : v ≤ (n : Int)) :
    Tri n T l (mStore M (pLink (p : Int)) v) ∧ (mStore M (pLink (p : Int)) v).W.getD (124 + 4 * p) 0 = v ∧ (∀ j, 1 ≤ j → j ≤ n → j ≠ p → (mStore M (pLink (p : Int)) v).W.getD (124 + 4 * j) 0 = M.W.getD (124 + 4 * j) 0) ∧ mVal (mStore M (pLink (p : Int)) v) 0 = mVal M 0 := by
  have hw := h.ia.w
  have hg := h.ia.g
  have hlt : 124 + 4 * p < M.W.length := by omega
  rw [link_nat hn p2]
  have a1 := mStore_in (m := M) hlt v
  have a2 := mStore_bad (m := M) hlt (by omega) v
  have a3 := (mStore_len M ((124 + 4 * p : Nat) : Int) v).2
  obtain ⟨M1, hM1⟩ : ∃ m, m = mStore M ((124 + 4 * p : Nat) : Int) v := ⟨_, rfl⟩
  rw [← hM1] at a1 a2 a3 ⊢
  have ia1 : IA n M1 := ⟨by rw [a3]; exact hg, by rw [a1]; simp [hw], by rw [a2]; exact h.ia.bad, by rw [a1]; exact mem_set h.ia.inn (by omega)⟩
  have ho : ∀ j, 1 ≤ j → j ≤ n → j ≠ p → M1.W.getD (124 + 4 * j) 0 = M.W.getD (124 + 4 * j) 0 := fun j j1 j2 j3 => by
    rw [a1, getD_set _ _ _ _ hlt, if_neg (by omega)]
  have hs : M1.W.getD (124 + 4 * p) 0 = v := by rw [a1, getD_set _ _ _ _ hlt, if_pos rfl]
  have h0 : M1.W.getD 0 0 = M.W.getD 0 0 := by rw [a1, getD_set _ _ _ _ hlt, if_neg (by omega)]
  refine ⟨⟨ia1, by rw [h0]; exact h.hd, h.nd, h.rg, fun a j r e => ?_, fun j j1 j2 => ?_, fun j j1 j2 => by rw [a3]; exact h.gs j j1 j2⟩, hs, ho, by rw [ia1.v0, h.ia.v0, h0]⟩
  · have hj : j ∈ l := by rw [e]; simp
    have hjr := h.rg j hj
    rw [ho j hjr.1 hjr.2 (fun q => hp (q ▸ hj))]
    exact h.ch a j r e
  · by_cases q : j = p
    · subst q; rw [hs]; exact ⟨v0, v1⟩
    · rw [ho j j1 j2 q]; exact h.lk j j1 j2
/-- A node whose link tells the first one is pushed. -/
theorem Tri.push {n T p : Nat} {l : List Nat} {M : Ar} (h : Tri n T l M) (hn : n ≤ 200) (hT : T ≤ 900) (p1 : 1 ≤ p) (p2 : p ≤ n) (hp : p ∉ l) (hk : M.W.getD (124 + 4 * p) 0 = hdN l) :
    Tri n (T + 1) (p :: l) (mTurn (mCas M 0 (mVal M 0) (pNext (mVal M 0) (p : Int) 0)) (p : Int) 0) := by
  have hh := hdN_bd h.rg
  have hN : pNext (mVal M 0) (p : Int) 0 = pWord ((T + 1 : Nat) : Int) (p : Int) 0 := by
    rw [h.ia.v0, h.hd, word_next (by omega) (by omega) hh.1 (by omega) (by omega) (by omega)]
    first | (congr 1; omega) | congr 1
  rw [hN]
  obtain ⟨e3, ia⟩ := cas_turn (j := p) (z := 0) h.ia p1 p2 (word_bd (t := ((T + 1 : Nat) : Int)) (i := (p : Int)) (by omega) (by omega) (by omega) (by omega)) (h.gs p p1 p2) (by rw [if_neg hp]; rfl)
  rw [e3] at ia ⊢
  have hw := h.ia.w
  have hg := h.ia.g
  have hx : ∀ j, 1 ≤ j → (M.W.set 0 (pWord ((T + 1 : Nat) : Int) (p : Int) 0)).getD (124 + 4 * j) 0 = M.W.getD (124 + 4 * j) 0 := fun j j1 => by rw [getD_set _ _ _ _ (by omega), if_neg (by omega)]
  refine ⟨ia, ?_, List.nodup_cons.2 ⟨hp, h.nd⟩, fun i hi => ?_, fun a i q e => ?_, fun i i1 i2 => ?_, fun i i1 i2 => ?_⟩
  · show (M.W.set 0 _).getD 0 0 = _
    rw [getD_set _ _ _ _ (by omega), if_pos rfl]
    rfl
  · rcases List.mem_cons.1 hi with e | e
    · subst e; exact ⟨p1, p2⟩
    · exact h.rg i e
  · show (M.W.set 0 _).getD _ 0 = _
    cases a with
    | nil =>
      simp only [List.nil_append, List.cons.injEq] at e
      obtain ⟨rfl, rfl⟩ := e
      rw [hx p p1]
      exact hk
    | cons b a =>
      simp only [List.cons_append, List.cons.injEq] at e
      have hi : i ∈ l := by rw [e.2]; simp
      rw [hx i (h.rg i hi).1]
      exact h.ch a i q e.2
  · show 0 ≤ (M.W.set 0 _).getD _ 0 ∧ _
    rw [hx i i1]
    exact h.lk i i1 i2
  · show (M.G.set p 0).getD i 0 = _
    rw [getD_set _ _ _ _ (by omega)]
    by_cases q : p = i
    · subst q; rw [if_pos rfl, if_pos (by simp)]
    · rw [if_neg q, h.gs i i1 i2]
      by_cases q2 : i ∈ l
      · rw [if_pos q2, if_pos (by simp [q2])]
      · rw [if_neg q2, if_neg (by simp [q2]; omega)]
/-- The list is what is walked. -/
theorem Tri.walkAt {n T : Nat} {l : List Nat} {M : Ar} (h : Tri n T l M) (hn : n ≤ 200) : ∀ (k : Nat) (a r : List Nat), a.length = k → l = a ++ r → WalkAt M (hdN r) (a.map (fun (i : Nat) => (i : Int)))
  | 0, a, r, ha, e => by
    have : a = [] := List.length_eq_zero_iff.mp ha
    subst this
    have hh := hdN_bd h.rg
    have := WalkAt.start M
    rw [h.ia.v0, h.hd, word_idx hh.1 (by omega)] at this
    simp only [List.nil_append] at e
    rw [← e]
    exact this
  | k + 1, a, r, ha, e => by
    rcases List.eq_nil_or_concat a with q | ⟨b, j, q⟩
    · rw [q] at ha; simp at ha
    · have q' : a = b ++ [j] := by simpa using q
      subst q'
      have e2 : l = b ++ j :: r := by rw [e]; simp
      have hj := h.rg j (by rw [e2]; simp)
      have hg := h.ia.g
      have w0 := Tri.walkAt h hn k b (j :: r) (by simp at ha; exact ha) e2
      have hnd : j ∉ b := by
        have := h.nd
        rw [e2, List.nodup_append] at this
        exact fun hm => this.2.2 j hm j (by simp) rfl
      have := w0.next (show 1 ≤ hdN (j :: r) by simp [hdN]; omega) (show hdN (j :: r) ≤ _ by simp [hdN]; omega) (fun hm => by
        obtain ⟨i, hi, q⟩ := List.mem_map.1 hm
        have : i = j := by simp [hdN] at q; omega
        exact hnd (this ▸ hi))
      rw [show hdN (j :: r) = ((j : Nat) : Int) by simp [hdN], h.ia.vl hn hj.1 hj.2, h.ch b j r e2] at this
      simpa using this
theorem Tri.walk {n T : Nat} {l : List Nat} {M : Ar} (h : Tri n T l M) (hn : n ≤ 200) : pWalk M = some (l.map (fun (i : Nat) => (i : Int))) := by
  have := h.walkAt hn l.length l [] rfl (by simp)
  exact this.done
end Go.Proofs.Ytnjleafhllepiaa
