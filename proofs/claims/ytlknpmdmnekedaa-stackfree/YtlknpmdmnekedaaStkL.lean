/- Cores pop and push by picks: what holds behind all of them. Plain mathematics. No Go text. -/
import Derived.Test.YtlknpmdmnekedaaStkK
namespace Go.Proofs.Ytlknpmdmnekedaa
open Go.RowKit
set_option linter.unusedVariables false

/-- A system, and what each core has popped. -/
structure PS where
  s : Sy
  own : List (List Int)
/-- A core that is at nothing begins an op. -/
def pBegin (y : PS) (k u : Nat) : PS := match pTop y.s (k : Int) with
  | some _ => y
  | none => match y.own.getD k [] with
    | p :: r => if u / 8 % 2 = 1 then ⟨pCall y.s (k : Int) (fr1 2 0 p 0), y.own.set k r⟩ else ⟨pCall y.s (k : Int) (fr1 1 0 0 0), y.own⟩
    | [] => ⟨pCall y.s (k : Int) (fr1 1 0 0 0), y.own⟩
/-- What has been popped is the core's. -/
def pKeep (k : Nat) (f : Fr) (t : Sy) (own : List (List Int)) : List (List Int) := match t.C[k]? with
  | some x => if x.F = [] ∧ f.op = 1 ∧ x.e = 0 then own.set k (own.getD k [] ++ [x.v]) else own
  | none => own
def pPick (c : Nat) (y : PS) (u : Nat) : PS :=
  ⟨pStep (pBegin y (u % c) u).s ((u % c : Nat) : Int), pKeep (u % c) ((pTop (pBegin y (u % c) u).s ((u % c : Nat) : Int)).getD (fr1 0 0 0 0)) (pStep (pBegin y (u % c) u).s ((u % c : Nat) : Int)) (pBegin y (u % c) u).own⟩
def pPlay (c n : Nat) (us : List Nat) : PS := us.foldl (pPick c) ⟨syMem (syNew c n) (pFill (syNew c n).M), List.replicate c []⟩

theorem getD_at {α : Type} {l : List α} {k : Nat} {d x : α} (h : l[k]? = some x) : l.getD k d = x := by rw [List.getD_eq_getElem?_getD, h]; rfl
theorem TInv.up {c n a b : Nat} {s : Sy} {own : List (List Int)} (h : TInv c n a s own) (hb : a ≤ b) : TInv c n b s own := by
  obtain ⟨⟨T, l, hT, r⟩, c1, c2, c3⟩ := h
  exact ⟨⟨T, l, by omega, r⟩, c1, c2, c3⟩
/-- Behind a begin the core has a frame. -/
theorem TInv.begins {c n cnt : Nat} {y : PS} (h : TInv c n cnt y.s y.own) {k : Nat} (hk : k < c) (u : Nat) : TInv c n cnt (pBegin y k u).s (pBegin y k u).own ∧ ∃ x f, (pBegin y k u).s.C[k]? = some x ∧ x.F = [f] := by
  obtain ⟨⟨T, l, hT, tri, fr, tt⟩, cl, ol, og⟩ := h
  obtain ⟨x, hx⟩ : ∃ x, y.s.C[k]? = some x := ⟨_, List.getElem?_eq_getElem (by omega)⟩
  obtain ⟨o, ho⟩ : ∃ o, y.own[k]? = some o := ⟨_, List.getElem?_eq_getElem (by omega)⟩
  have oo : ∀ p ∈ o, 1 ≤ p ∧ p ≤ (n : Int) := og o (List.mem_of_getElem? ho)
  have es : y.own.set k o = y.own := set_self ho
  rcases fr k x hx with hF | ⟨f, hF, hok⟩
  · have ht := top_idle hx hF
    have pop : TInv c n cnt (pCall y.s (k : Int) (fr1 1 0 0 0)) y.own ∧ ∃ x f, (pCall y.s (k : Int) (fr1 1 0 0 0)).C[k]? = some x ∧ x.F = [f] := by
      rw [call_core hx hF]
      refine ⟨?_, cF x [fr1 1 0 0 0], fr1 1 0 0 0, by show (y.s.C.set k _)[k]? = _; rw [List.getElem?_set_self (by omega)], rfl⟩
      have := TInv.one (L' := y.s.L) (o' := o) (x' := cF x [fr1 1 0 0 0]) (cnt := cnt) hx ho cl ol og fr tt hT tri (.inr ⟨_, rfl, .inl ⟨_, _, rfl⟩⟩) (fun _ _ _ _ _ _ q => q) (fun j j1 j2 => by unfold hold; rw [hF, show (cF x [fr1 1 0 0 0]).F = [fr1 1 0 0 0] from rfl, push_pop]; simp [pushing]) oo
      rw [es] at this
      exact this
    unfold pBegin
    rw [ht, getD_at ho]
    cases o with
    | nil => exact pop
    | cons p r =>
      dsimp only
      split
      · have hp := oo p (by simp)
        obtain ⟨q, rfl⟩ : ∃ q : Nat, p = (q : Int) := ⟨p.toNat, by omega⟩
        dsimp only
        rw [call_core hx hF]
        refine ⟨?_, cF x [fr1 2 0 q 0], fr1 2 0 q 0, by show (y.s.C.set k _)[k]? = _; rw [List.getElem?_set_self (by omega)], rfl⟩
        refine TInv.one (L' := y.s.L) (o' := r) (x' := cF x [fr1 2 0 q 0]) (cnt := cnt) hx ho cl ol og fr tt hT tri (.inr ⟨_, rfl, .inr (.inr (.inr (.inl ⟨q, 0, rfl, by omega, by omega⟩)))⟩) (fun _ _ _ _ _ _ q => q) (fun j j1 j2 => ?_) (fun p hp => oo p (by simp [hp]))
        unfold hold
        rw [hF, show (cF x [fr1 2 0 q 0]).F = [fr1 2 0 q 0] from rfl, push_push, List.count_cons]
        by_cases e : q = j
        · subst e; first | (simp [pushing]; done) | (simp [pushing]; omega)
        · rw [if_neg e]
          have e2 : ((q : Int) == (j : Int)) = false := by simp; omega
          rw [e2]
          simp [pushing]
      · exact pop
  · have ht := top_core hx hF
    unfold pBegin
    rw [ht]
    exact ⟨⟨⟨T, l, hT, tri, fr, tt⟩, cl, ol, og⟩, x, f, hx, hF⟩
theorem TInv.pick {c n cnt : Nat} {y : PS} (h : TInv c n cnt y.s y.own) (hn : n ≤ 200) (hc : cnt ≤ 899) (c1 : 1 ≤ c) (u : Nat) : TInv c n (cnt + 1) (pPick c y u).s (pPick c y u).own := by
  have hk : u % c < c := Nat.mod_lt _ (by omega)
  obtain ⟨h1, x, f, hx, hF⟩ := h.begins hk u
  obtain ⟨b, hb⟩ : ∃ b, b = pBegin y (u % c) u := ⟨_, rfl⟩
  unfold pPick
  rw [← hb] at h1 hx ⊢
  obtain ⟨o, ho⟩ : ∃ o, b.own[u % c]? = some o := ⟨_, List.getElem?_eq_getElem (by have := h1.ol; omega)⟩
  have hlt := (List.getElem?_eq_some_iff.1 hx).1
  rw [top_core hx hF]
  dsimp only [Option.getD_some]
  rcases (h1.step hn hc hx hF ho).ex with ⟨i, M, hop, e, hi⟩ | ⟨x', e, hne, hi⟩
  · have e2 : pKeep (u % c) f (pStep b.s ((u % c : Nat) : Int)) b.own = b.own.set (u % c) (o ++ [i]) := by
      unfold pKeep
      rw [e]
      dsimp only
      rw [List.getElem?_set_self hlt]
      dsimp only
      rw [if_pos ⟨rfl, hop, rfl⟩, getD_at ho]
      rfl
    rw [e2]
    exact hi
  · have e2 : pKeep (u % c) f (pStep b.s ((u % c : Nat) : Int)) b.own = b.own := by
      unfold pKeep
      rw [e, List.getElem?_set_self hlt]
      dsimp only
      rw [if_neg hne]
    rw [e2]
    exact hi

theorem range_at {n i : Nat} (h : i < n) : ((List.range n).map (· + 1))[i]? = some (i + 1) := by simp [h]
theorem Tri.start {n : Nat} (h1 : 1 ≤ n) (h2 : n ≤ 200) : Tri n 0 ((List.range n).map (· + 1)) (pFill (mNew n)) := by
  obtain ⟨M, e, h⟩ := stA0 h1 h2
  have eM : M = pFill (mNew n) := by
    have : (stA n 0).M = M := by rw [e]; rfl
    rw [← this]
    rfl
  rw [← eM]
  have hd1 : hdN ((List.range n).map (· + 1)) = 1 := by
    obtain ⟨m, rfl⟩ : ∃ m, n = m + 1 := ⟨n - 1, by omega⟩
    simp [hdN, List.range_succ_eq_map]
  have hm : ∀ j, j ∈ (List.range n).map (· + 1) ↔ 1 ≤ j ∧ j ≤ n := fun j => by
    simp only [List.mem_map, List.mem_range]
    constructor
    · rintro ⟨i, hi, rfl⟩; omega
    · rintro ⟨a, b⟩; exact ⟨j - 1, by omega, by omega⟩
  refine ⟨h.ia, ?_, ?_, fun j hj => (hm j).1 hj, fun a j r el => ?_, fun j j1 j2 => ?_, fun j j1 j2 => ?_⟩
  · rw [h.hd, hd1]; unfold nx; rw [if_pos (by omega)]; rfl
  · rw [List.Nodup, List.pairwise_map]
    exact List.Pairwise.imp (fun h q => h (by omega)) (List.nodup_range (n := n))
  · have hj : ((List.range n).map (· + 1))[a.length]? = some j := by rw [el]; simp
    have hlt : a.length < n := by have := (List.getElem?_eq_some_iff.1 hj).1; simpa using this
    rw [range_at hlt] at hj
    injection hj with hj
    have hr : ((List.range n).map (· + 1))[a.length + 1]? = r[0]? := by rw [el, List.getElem?_append_right (by omega)]; simp
    rw [h.ln j (by omega) (by omega)]
    unfold nx hdN
    cases r with
    | nil =>
      have : ¬ a.length + 1 < n := fun q => by rw [range_at q] at hr; simp at hr
      rw [if_neg (by omega)]
      rfl
    | cons b r =>
      have q : a.length + 1 < n := by
        rcases Nat.lt_or_ge (a.length + 1) n with q | q
        · exact q
        · rw [List.getElem?_eq_none (by simpa using q)] at hr; simp at hr
      rw [range_at q] at hr
      simp at hr
      rw [if_pos (by omega)]
      simp
      omega
  · rw [h.ln j j1 j2]; unfold nx; split <;> omega
  · rw [h.gs j j1 j2, if_neg (by omega), if_pos ((hm j).2 ⟨j1, j2⟩)]
theorem TInv.start {c n : Nat} (h1 : 1 ≤ n) (h2 : n ≤ 200) : TInv c n 0 (syMem (syNew c n) (pFill (syNew c n).M)) (List.replicate c []) := by
  refine ⟨⟨0, _, Nat.le_refl _, Tri.start h1 h2, fun k x hx => ?_, fun j j1 j2 => ?_⟩, by simp [syMem, syNew], by simp, fun o ho p hp => ?_⟩
  · left
    have : x = coZero := by
      have := List.mem_of_getElem? hx
      simp [syMem, syNew] at this
      exact this.2
    rw [this]
    rfl
  · rw [if_pos (by simp only [List.mem_map, List.mem_range]; exact ⟨j - 1, by omega, by omega⟩)]
    unfold tot
    have : List.zipWith (hold j) (syMem (syNew c n) (pFill (syNew c n).M)).C (List.replicate c []) = List.replicate c 0 := by
      simp [syMem, syNew, hold, coZero, pushing]
    rw [this]
    simp
  · simp at ho
    rw [ho.2] at hp
    cases hp
theorem TInv.play {c n : Nat} (h1 : 1 ≤ n) (h2 : n ≤ 200) (c1 : 1 ≤ c) (us : List Nat) (hu : us.length ≤ 800) : TInv c n us.length (pPlay c n us).s (pPlay c n us).own := by
  unfold pPlay
  have key : ∀ (us : List Nat) (cnt : Nat) (y : PS), cnt + us.length ≤ 800 → TInv c n cnt y.s y.own → TInv c n (cnt + us.length) (us.foldl (pPick c) y).s (us.foldl (pPick c) y).own := by
    intro us
    induction us with
    | nil => intro cnt y _ h; exact h
    | cons u us ih =>
      intro cnt y hc h
      have := ih (cnt + 1) (pPick c y u) (by simp at hc; omega) (h.pick h2 (by simp at hc; omega) c1 u)
      rw [show cnt + (u :: us).length = cnt + 1 + us.length by simp; omega]
      exact this
  have := key us 0 ⟨_, _⟩ (by omega) (TInv.start (c := c) h1 h2)
  rwa [Nat.zero_add] at this
end Go.Proofs.Ytlknpmdmnekedaa
