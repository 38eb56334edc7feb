/- Systems of the call's own, with one core or one event changed. No Go text but types. -/
import Derived.Test.YtpagekhgeahmaaaSysI
namespace Go.Proofs.Ytpagekhgeahmaaa
open Go.RowKit
set_option linter.unusedVariables false

/-- A system with another core. -/
def syWith (s : Sy) (k : Nat) (x : Co) : Sy := ⟨s.M, s.C.set k x, s.L⟩
/-- A core without its last frame, that tells v and e. -/
def coBack (x : Co) (n : Nat) (v e : Int) : Co := ⟨x.F.take n, v, e, x.x0, x.x1, x.x2, x.ret⟩
def coSet (x : Co) (n : Nat) (f : Fr) : Co := ⟨x.F.set n f, x.v, x.e, x.x0, x.x1, x.x2, x.ret⟩
def coCall (x : Co) (f : Fr) : Co := ⟨x.F ++ [f], x.v, x.e, x.x0, x.x1, x.x2, x.ret⟩
def syLog (s : Sy) (e : Evt) : Sy := ⟨s.M, s.C, s.L ++ [e]⟩

theorem RowF.take {w : World} {A : Option Addr} {fs : List Fr} (h : RowF w A fs) (n : Nat) : RowF w A (fs.take n) := fun hn => by
  have hl : 0 < fs.length := by simp at hn; omega
  obtain ⟨b, o, e, hb, hc⟩ := h hl
  refine ⟨b, o, e, hb, fun j f hf => hc j f ?_⟩
  have hj : j < n := by
    have := (List.getElem?_eq_some_iff.1 hf).1
    simp at this; omega
  rw [List.getElem?_take_of_lt hj] at hf
  exact hf

/-- What is told of a core. -/
def ToldCo (w : World) (x : Co) (vF vR : Value) : Prop := ∃ AF cF AR cR, vF = .slice AF x.F.length cF ∧ vR = .slice AR x.ret.length cR ∧ RowF w AF x.F ∧ Row w AR x.ret ∧ x.F.length ≤ cF

/-- Blocks that are no part of the system. -/
def Side (s : Sy) (lo hm : Nat) (own : Nat → Nat) (b : Nat) : Prop := b < lo ∨ (hm ≤ b ∧ own b = s.C.length)
/-- Blocks that are made from now on are nobody's. -/
theorem SyI.seal {s : Sy} {lo hm : Nat} {own : Nat → Nat} {vs : List (Value × Value)} {AW AG : Option Addr} {vC vL : Value} {w : World} (h : SyI s lo hm own vs AW AG vC vL w) : SyI s lo hm (fun b => if b < w.heap.size then own b else s.C.length) vs AW AG vC vL w :=
  ⟨h.len, h.wr, h.gr, h.co, h.ev, h.cb, h.eb, fun j x v hx hv => by
    obtain ⟨ps, C⟩ := h.ci j x v hx hv
    exact ⟨ps, C.mono (fun b hl hb => ⟨hb.1, (if_pos hl).trans hb.2⟩)⟩, h.lh, h.hw⟩

theorem SyI.put {s : Sy} {lo hm : Nat} {own : Nat → Nat} {vs : List (Value × Value)} {AW AG : Option Addr} {vC vL : Value} {w w' w0 : World} (h : SyI s lo hm own vs AW AG vC vL w) {k : Nat} {x x' : Co} {vF vR vF' vR' : Value} (hx : s.C[k]? = some x) (hv : vs[k]? = some (vF, vR))
    (t : Turn (fun b => vC.ownBlock = some b ∨ vF.ownBlock = some b ∨ Side s lo hm own b) w w') (ho : w'.ownsRow lo 65 7 vC s.C.length ((csV s.C vs).set k (coCells x' vF' vR')).flatten) (ht : ToldCo w' x' vF' vR') (cW cG : Nat) (hb : Below w0.heap.size w0 w') :
    RetSys w0 (syWith s k x') (.returned (.agg #[.slice AW s.M.W.length cW, .slice AG s.M.G.length cG, .bool s.M.bad, vC, vL])) w' := by
  have hkl : k < s.C.length := (List.getElem?_eq_some_iff.1 hx).1
  have hlen := h.len
  obtain ⟨psk, Ck⟩ := h.ci k x _ hx hv
  have e : (csV s.C vs).set k (coCells x' vF' vR') = csV (s.C.set k x') (vs.set k (vF', vR')) := zip_set (f := fun (x : Co) (v : Value × Value) => coCells x v.1 v.2) (us := s.C) (ys := vs) (i := k) (a := x') (b := (vF', vR'))
  rw [e] at ho
  have ho' : w'.ownsRow lo 65 7 vC (s.C.set k x').length (csV (s.C.set k x') (vs.set k (vF', vR'))).flatten := by simpa using ho
  obtain ⟨AC, cC, rfl, rC⟩ := cs_told (by simpa using hlen) ho' (fun j y v hy hvj => by
    by_cases ej : j = k
    · subst ej
      rw [List.getElem?_set_self hkl] at hy
      rw [List.getElem?_set_self (by omega)] at hvj
      injection hy with hy
      injection hvj with hvj
      subst hy hvj
      exact ht
    · rw [List.getElem?_set_ne (fun h => ej h.symm)] at hy hvj
      obtain ⟨ps, C⟩ := h.ci j y v hy hvj
      refine (C.turn t (fun b _ hbk hp => ?_)).told
      have hjl := (List.getElem?_eq_some_iff.1 hy).1
      have hlh := h.lh
      rcases hp with hp | hp | hp | hp
      · have := (h.cb b hp).1; omega
      · have := (Ck.okF b hp).2; omega
      · omega
      · omega)
  have tL : w'.ownsRow lo 56 5 vL s.L.length (s.L.map evCells).flatten := own_turn h.ev t (fun g hg hp => by
    have h1 := h.eb g hg
    have h3 := (h.ev.lt g hg).1
    rcases hp with hp | hp | hp | hp
    · exact (h.cb g hp).2 hg
    · have h2 := (Ck.okF g hp).1; omega
    · omega
    · omega)
  obtain ⟨AL, cL, rfl, rL⟩ := ev_told tL
  have tW := h.wr.turn t (fun b _ hbk hp => by
    rcases hp with hp | hp | hp | hp
    · exact hbk.2.2.1 hp
    · have h2 := (Ck.okF b hp).1; omega
    · omega
    · omega)
  have tG := h.gr.turn t (fun b _ hbk hp => by
    rcases hp with hp | hp | hp | hp
    · exact hbk.2.2.1 hp
    · have h2 := (Ck.okF b hp).1; omega
    · omega
    · omega)
  refine ⟨AW, AG, AC, AL, cW, cG, cC, cL, ?_, tW.row, tG.row, rC, rL, hb⟩
  simp [syWith]

theorem SyI.log {s : Sy} {lo hm : Nat} {own : Nat → Nat} {vs : List (Value × Value)} {AW AG : Option Addr} {vC vL vL' : Value} {w w' w0 : World} (h : SyI s lo hm own vs AW AG vC vL w) (e : Evt)
    (t : Turn (fun b => vL.ownBlock = some b ∨ Side s lo hm own b) w w') (ho : w'.ownsRow lo 56 5 vL' (s.L.length + 1) ((s.L ++ [e]).map evCells).flatten) (cW cG : Nat) (hb : Below w0.heap.size w0 w') :
    RetSys w0 (syLog s e) (.returned (.agg #[.slice AW s.M.W.length cW, .slice AG s.M.G.length cG, .bool s.M.bad, vC, vL'])) w' := by
  have hlen := h.len
  obtain ⟨AC, cC, rfl, rC⟩ := cs_told hlen (own_turn h.co t (fun g hg hp => by
    have h1 := (h.co.lt g hg).1
    have h2 := (h.cb g hg).1
    rcases hp with hp | hp | hp
    · exact (h.cb g hg).2 hp
    · omega
    · omega)) (fun j y v hy hvj => by
    obtain ⟨ps, C⟩ := h.ci j y v hy hvj
    have hjl := (List.getElem?_eq_some_iff.1 hy).1
    have hlh := h.lh
    exact (C.turn t (fun b _ hbk hp => by
      rcases hp with hp | hp | hp
      · have := h.eb b hp; omega
      · omega
      · omega)).told)
  have ho' : w'.ownsRow lo 56 5 vL' (s.L ++ [e]).length ((s.L ++ [e]).map evCells).flatten := by simpa using ho
  obtain ⟨AL, cL, rfl, rL⟩ := ev_told ho'
  have tW := h.wr.turn t (fun b _ hbk hp => by
    rcases hp with hp | hp | hp
    · exact hbk.2.2.2 hp
    · omega
    · omega)
  have tG := h.gr.turn t (fun b _ hbk hp => by
    rcases hp with hp | hp | hp
    · exact hbk.2.2.2 hp
    · omega
    · omega)
  refine ⟨AW, AG, AC, AL, cW, cG, cC, cL, ?_, tW.row, tG.row, rC, rL, hb⟩
  simp [syLog]

/-- The cores' row where there is a core: its block, core k's cells. -/
theorem SyI.look {s : Sy} {lo hm : Nat} {own : Nat → Nat} {vs : List (Value × Value)} {AW AG : Option Addr} {vC vL : Value} {w : World} (h : SyI s lo hm own vs AW AG vC vL w) {k : Nat} {x : Co} (hx : s.C[k]? = some x) :
    ∃ (g cap : Nat) (AF AR : Option Addr) (cF cR : Nat) (ps : List (Option Addr × Nat)), vC = .slice (some ⟨g, 0, none⟩) s.C.length cap ∧ vs[k]? = some (.slice AF x.F.length cF, .slice AR x.ret.length cR) ∧ lo ≤ g ∧ g < hm ∧
      CoI 42 (fun b => hm ≤ b ∧ own b = k) w x ps (.slice AF x.F.length cF) (.slice AR x.ret.length cR) ∧
      (∀ r v, (coCells x (.slice AF x.F.length cF) (.slice AR x.ret.length cR))[r]? = some v → w.cell? ⟨g, k * 7 + r, none⟩ = some v) ∧ ∀ j, w.frozen? ⟨g, j, none⟩ = false := by
  have hkl : k < s.C.length := (List.getElem?_eq_some_iff.1 hx).1
  obtain ⟨v, hv⟩ := some_of h.len hx
  obtain ⟨ps, C⟩ := h.ci k x v hx hv
  obtain ⟨vF, vR⟩ := v
  obtain ⟨AF, cF, AR, cR, e1, e2, _, _⟩ := C.told
  dsimp only at e1 e2 C
  subst e1 e2
  obtain ⟨g, cap, e, hg, _⟩ := h.co.form (by omega)
  subst e
  have hco := h.co
  refine ⟨g, cap, AF, AR, cF, cR, ps, rfl, hv, hg, (h.cb g rfl).1, C, fun r u hu => ?_, hco.frozenAt⟩
  have hr : r < 7 := (List.getElem?_eq_some_iff.1 hu).1
  rw [hco.cellAt _ (by have : (k + 1) * 7 ≤ s.C.length * 7 := Nat.mul_le_mul_right _ hkl; omega)]
  exact flat_at csV_each (zip_at hx hv) hu

/-- Three cells of core k are stored. -/
theorem csV_set3 {s : Sy} {vs : List (Value × Value)} (hl : vs.length = s.C.length) {k : Nat} {x : Co} {vF vR : Value} (hx : s.C[k]? = some x) (hv : vs[k]? = some (vF, vR)) (a0 a1 a2 : Value) :
    (((csV s.C vs).flatten.set (k * 7) a0).set (k * 7 + 1) a1).set (k * 7 + 2) a2 = ((csV s.C vs).set k [a0, a1, a2, .int .i64 x.x0, .int .i64 x.x1, .int .i64 x.x2, vR]).flatten := by
  have h0 : (csV s.C vs)[k]? = some (coCells x vF vR) := zip_at hx hv
  have hk : k < (csV s.C vs).length := (List.getElem?_eq_some_iff.1 h0).1
  have := flat_setL (k := 7) [a0, a1, a2] (r := 0) (csV_each (cs := s.C) (vs := vs)) h0 (by simp)
  rw [Nat.add_zero] at this
  exact this
theorem csV_set1 {s : Sy} {vs : List (Value × Value)} (hl : vs.length = s.C.length) {k : Nat} {x : Co} {vF vR : Value} (hx : s.C[k]? = some x) (hv : vs[k]? = some (vF, vR)) (a0 : Value) :
    ((csV s.C vs).flatten.set (k * 7) a0) = ((csV s.C vs).set k (coCells x a0 vR)).flatten := by
  have h0 : (csV s.C vs)[k]? = some (coCells x vF vR) := zip_at hx hv
  have := flat_setL (k := 7) [a0] (r := 0) (csV_each (cs := s.C) (vs := vs)) h0 (by simp)
  rw [Nat.add_zero] at this
  exact this
end Go.Proofs.Ytpagekhgeahmaaa
