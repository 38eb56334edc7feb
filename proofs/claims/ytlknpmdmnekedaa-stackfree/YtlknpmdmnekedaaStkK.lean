/- Many cores pop and push: a step keeps what holds. Plain mathematics. No Go text. -/
import Derived.Test.YtlknpmdmnekedaaStkJ
namespace Go.Proofs.Ytlknpmdmnekedaa
open Go.RowKit
set_option linter.unusedVariables false

theorem push_pop (pc r0 r1 : Int) (j : Nat) : pushing [fr1 1 pc r0 r1] j = 0 := by simp [pushing, fr1]
theorem push_push (pc r1 : Int) (p j : Nat) : pushing [fr1 2 pc p r1] j = if p = j then 1 else 0 := by
  simp [pushing, fr1]
  by_cases q : p = j
  · subst q; simp
  · rw [if_neg q, if_neg (by omega)]
/-- What a step of a core does, and tells. -/
structure Stepped (c n cnt : Nat) (s : Sy) (own : List (List Int)) (k : Nat) (x : Co) (f : Fr) (o : List Int) : Prop where
  ex : (∃ (i : Int) (M : Ar), f.op = 1 ∧ pStep s (k : Int) = ⟨M, s.C.set k (cB x i 0), s.L⟩ ∧ TInv c n (cnt + 1) (pStep s (k : Int)) (own.set k (o ++ [i]))) ∨
    (∃ (x' : Co), (pStep s (k : Int)).C = s.C.set k x' ∧ ¬ (x'.F = [] ∧ f.op = 1 ∧ x'.e = 0) ∧ TInv c n (cnt + 1) (pStep s (k : Int)) own)
theorem TInv.step {c n cnt : Nat} {s : Sy} {own : List (List Int)} {k : Nat} {x : Co} {f : Fr} {o : List Int} (h : TInv c n cnt s own) (hn : n ≤ 200) (hc : cnt ≤ 899) (hx : s.C[k]? = some x) (hF : x.F = [f]) (ho : own[k]? = some o) : Stepped c n cnt s own k x f o := by
  obtain ⟨⟨T, l, hT, tri, fr, tt⟩, cl, ol, og⟩ := h
  have ia := tri.ia
  have oo : ∀ p ∈ o, 1 ≤ p ∧ p ≤ (n : Int) := og o (List.mem_of_getElem? ho)
  have es : own.set k o = own := set_self ho
  have tg := tri.tag hn (show T ≤ 900 by omega)
  have hok : FOk n T l s.M f := by
    rcases fr k x hx with q | ⟨g, q1, q2⟩
    · rw [hF] at q; cases q
    · rw [hF] at q1; simp only [List.cons.injEq, and_true] at q1; subst q1; exact q2
  -- a step that leaves the arena and the list
  have keep : ∀ (g : Fr) (L' : List Evt), FOk n T l s.M g → (∀ j, pushing [g] j = pushing [f] j) → pStep s (k : Int) = ⟨s.M, s.C.set k (cF x [g]), L'⟩ → Stepped c n cnt s own k x f o := fun g L' hg hp e => by
    refine ⟨.inr ⟨cF x [g], by rw [e], fun q => by simp [cF] at q, ?_⟩⟩
    have := TInv.one (L' := L') (o' := o) (x' := cF x [g]) (cnt := cnt + 1) hx ho cl ol og fr tt (show T ≤ cnt + 1 by omega) tri (.inr ⟨g, rfl, hg⟩) (fun _ _ _ _ _ _ q => q) (fun j j1 j2 => by unfold hold; rw [hF, show (cF x [g]).F = [g] from rfl, hp j]) oo
    rw [es] at this
    rw [e]
    exact this
  rcases hok with ⟨r0, r1, rfl⟩ | ⟨r0, r1, rfl, h1, h2⟩ | ⟨r0, r1, rfl, h1, h2, h3⟩ | ⟨p, r1, rfl, p1, p2⟩ | ⟨p, r1, rfl, p1, p2, h1⟩ | ⟨p, r1, rfl, p1, p2, h1, h4⟩
  · by_cases hi : pIdx (mVal s.M 0) = 0
    · have e := pop0_full hx ia hF hi
      refine ⟨.inr ⟨cB x 0 2, by rw [e], fun q => by simp [cB] at q, ?_⟩⟩
      have := TInv.one (L' := s.L ++ [⟨k, 9, 0, 0, 0⟩]) (o' := o) (x' := cB x 0 2) (cnt := cnt + 1) hx ho cl ol og fr tt (show T ≤ cnt + 1 by omega) tri (.inl rfl) (fun _ _ _ _ _ _ q => q) (fun j j1 j2 => by unfold hold; rw [hF, push_pop]; simp [cB, pushing]) oo
      rw [es] at this
      rw [e]
      exact this
    · exact keep _ _ (.inr (.inl ⟨_, _, rfl, tri.seen, hi⟩)) (fun j => by rw [push_pop, push_pop]) (pop0_go hx ia hF hi)
  · have hb := h1.idx hn
    obtain ⟨j, hj⟩ : ∃ j : Nat, pIdx r0 = (j : Int) := ⟨(pIdx r0).toNat, by omega⟩
    have hl : mBad s.M (pLink (pIdx r0)) = s.M.bad := by rw [hj]; exact ia.ml hn (by omega) (by omega)
    refine keep _ _ (.inr (.inr (.inl ⟨r0, _, rfl, h1, h2, fun hT2 i r el => ?_⟩))) (fun j => by rw [push_pop, push_pop]) (pop1_go hx hF hl)
    obtain ⟨t, i0, e0, a, b, c0, d⟩ := h1
    have e1 : pTag r0 = (t : Int) := by rw [e0, pTag_word _ _ _ (by omega) (by omega) (by omega)]
    have e2 : pIdx r0 = i0 := by rw [e0, word_idx b (by omega)]
    have e3 : i0 = hdN l := d (by omega)
    have e4 : hdN l = (i : Int) := by rw [el]; simp [hdN]
    have e5 : j = i := by omega
    rw [hj, ia.vl hn (by omega) (by omega), e5]
    exact tri.ch [] i r (by rw [el]; rfl)
  · rcases Bool.eq_false_or_eq_true (mIs s.M 0 r0) with hm | hm
    · have hv := is_val ia hm
      have e := pop2_hit hx hF hm
      rw [← hv] at h2 h3 e
      rw [tg.2] at h2 e
      obtain ⟨j, r, el⟩ : ∃ j r, l = j :: r := by
        cases l with
        | nil => simp [hdN] at h2
        | cons j r => exact ⟨j, r, rfl⟩
      have er := h3 tg.1 j r el
      subst er el
      have ej : hdN (j :: r) = (j : Int) := by simp [hdN]
      rw [ej] at e
      have hjr := tri.rg j (by simp)
      have tri' := tri.pop hn (show T ≤ 900 by omega)
      have hnd := List.nodup_cons.1 tri.nd
      refine ⟨.inl ⟨j, _, rfl, e, ?_⟩⟩
      rw [e]
      refine TInv.one hx ho cl ol og fr tt (show T + 1 ≤ cnt + 1 by omega) tri' (.inl rfl) (fun i y g _ _ _ hg => hg.up hn (show T ≤ 900 by omega) (fun p q1 q2 => ?_)) (fun i i1 i2 => ?_) (fun p hp => ?_)
      · have := cas_turn (j := j) (z := 1) (nw := pNext (mVal s.M 0) (hdN r) 0) ia hjr.1 hjr.2 (by have := pNext_bd (mVal s.M 0) (hdN r); omega) (tri.gs j hjr.1 hjr.2) (by rw [if_pos (by simp)]; rfl)
        rw [this.1]
        show (s.M.W.set 0 _).getD _ 0 = _
        have hw := ia.w
        rw [getD_set _ _ _ _ (by omega), if_neg (by omega)]
      · unfold hold
        rw [hF, push_pop, show (cB x (j : Int) 0).F = [] from rfl, List.count_append]
        by_cases q : i = j
        · subst q
          rw [if_pos (by simp), if_neg hnd.1]
          simp [pushing]
        · have e1 : List.count (i : Int) [(j : Int)] = 0 := by rw [List.count_eq_zero]; simp; omega
          rw [e1]
          by_cases q2 : i ∈ r
          · rw [if_pos (by simp [q2]), if_pos q2]; simp [pushing]
          · rw [if_neg (by simp [q2, q]), if_neg q2]; simp [pushing]
      · rcases List.mem_append.1 hp with q | q
        · exact oo p q
        · simp at q; omega
    · exact keep _ _ (.inl ⟨_, _, rfl⟩) (fun j => by rw [push_pop, push_pop]) (pop2_miss hx ia hF hm)
  · exact keep _ _ (.inr (.inr (.inr (.inr (.inl ⟨p, _, rfl, p1, p2, tri.seen⟩))))) (fun j => by rw [push_push, push_push]) (push0_go hx ia hF)
  · have hb := h1.idx hn
    have hp : p ∉ l := fun q => by
      have h5 := tot_ge hx ho p
      have h6 := tt p p1 p2
      rw [if_pos q] at h6
      unfold hold at h5
      rw [hF, push_push, if_pos rfl] at h5
      omega
    obtain ⟨tri', l1, l2, l3⟩ := tri.link hn p1 p2 hp hb.1 hb.2
    have e := push1_go hx hF
    refine ⟨.inr ⟨cF x [fr1 2 2 p r1], by rw [e], fun q => by simp [cF] at q, ?_⟩⟩
    have := TInv.one (L' := s.L) (o' := o) (x' := cF x [fr1 2 2 p r1]) (cnt := cnt + 1) hx ho cl ol og fr tt (show T ≤ cnt + 1 by omega) tri' (.inr ⟨_, rfl, .inr (.inr (.inr (.inr (.inr ⟨p, r1, rfl, p1, p2, h1, l1⟩))))⟩) (fun i y g hne hy hyF hg => hg.link (q := p) (by
      obtain ⟨o2, ho2⟩ : ∃ o2, own[i]? = some o2 := ⟨_, List.getElem?_eq_getElem (by have := (List.getElem?_eq_some_iff.1 hy).1; omega)⟩
      have h5 := tot_two hx ho hy ho2 (fun q => hne q.symm) p
      have h6 := tt p p1 p2
      rw [if_neg hp] at h6
      unfold hold at h5
      rw [hF, hyF, push_push, if_pos rfl] at h5
      omega) (fun j j1 j2 j3 => l2 j j1 j2 j3)) (fun j j1 j2 => by unfold hold; rw [hF, push_push, show (cF x [fr1 2 2 p r1]).F = [fr1 2 2 p r1] from rfl, push_push]) oo
    rw [es] at this
    rw [e]
    exact this
  · rcases Bool.eq_false_or_eq_true (mIs s.M 0 r1) with hm | hm
    · have hv := is_val ia hm
      have e := push2_hit hx hF hm
      rw [← hv] at h4 e
      rw [tg.2] at h4
      have hp : p ∉ l := fun q => by
        have h5 := tot_ge hx ho p
        have h6 := tt p p1 p2
        rw [if_pos q] at h6
        unfold hold at h5
        rw [hF, push_push, if_pos rfl] at h5
        omega
      have tri' := tri.push hn (show T ≤ 900 by omega) p1 p2 hp h4
      refine ⟨.inr ⟨cB x p 0, by rw [e], fun q => by simp [fr1] at q, ?_⟩⟩
      have := TInv.one (L' := s.L) (o' := o) (x' := cB x p 0) (cnt := cnt + 1) hx ho cl ol og fr tt (show T + 1 ≤ cnt + 1 by omega) tri' (.inl rfl) (fun i y g _ _ _ hg => hg.up hn (show T ≤ 900 by omega) (fun q q1 q2 => by
        have h7 := cas_turn (j := p) (z := 0) (nw := pNext (mVal s.M 0) (p : Int) 0) ia p1 p2 (by have := pNext_bd (mVal s.M 0) (p : Int); omega) (tri.gs p p1 p2) (by rw [if_neg hp]; rfl)
        rw [h7.1]
        show (s.M.W.set 0 _).getD _ 0 = _
        have hw := ia.w
        rw [getD_set _ _ _ _ (by omega), if_neg (by omega)])) (fun j j1 j2 => by
        unfold hold
        rw [hF, push_push, show (cB x (p : Int) 0).F = [] from rfl]
        by_cases q : p = j
        · subst q; rw [if_neg hp, if_pos rfl, if_pos (by simp)]; simp [pushing]
        · rw [if_neg q]
          by_cases q2 : j ∈ l
          · rw [if_pos q2, if_pos (by simp [q2])]; simp [pushing]
          · rw [if_neg q2, if_neg (by simp [q2]; omega)]; simp [pushing]) oo
      rw [es] at this
      rw [e]
      exact this
    · exact keep _ _ (.inr (.inr (.inr (.inl ⟨p, _, rfl, p1, p2⟩)))) (fun j => by rw [push_push, push_push]) (push2_miss hx ia hF hm)
end Go.Proofs.Ytlknpmdmnekedaa
