/- A block that holds no integer is no part of a system's rows. No Go text but types. -/
import Derived.Test.YtpagekhgeahmaaaSysI2
namespace Go.Proofs.Ytpagekhgeahmaaa
open Go.RowKit
set_option linter.unusedVariables false

/-- No integer lies in the block. -/
def NoInt (w : World) (b : Nat) : Prop := ∀ o n, w.cell? ⟨b, o, none⟩ ≠ some (.int .i64 n)
theorem noInt_sys {w : World} {b : Nat} {A B C D : Option Addr} {n1 n2 n3 n4 c1 c2 c3 c4 : Nat} {z : Bool} {T : Nat} (h : w.heap[b]? = some (.cells #[.slice A n1 c1, .slice B n2 c2, .bool z, .slice C n3 c3, .slice D n4 c4] T (0, 0))) : NoInt w b := fun o n hc => by
  rw [cell_of_row w b o _ _ _ h] at hc
  match o, hc with
  | 0, hc => cases hc
  | 1, hc => cases hc
  | 2, hc => cases hc
  | 3, hc => cases hc
  | 4, hc => cases hc
  | o + 5, hc => simp at hc

theorem Row.turnN {w w' : World} {A : Option Addr} {xs : List Int} {b : Nat} (h : Row w A xs) (t : Turn (fun x => x = b) w w') (hn : NoInt w b) : Row w' A xs := fun hp => by
  obtain ⟨g, o, e, hl, hc⟩ := h hp
  have hg : g ≠ b := fun e' => by
    subst e'
    exact hn _ _ (hc 0 _ (List.getElem?_eq_getElem hp))
  exact ⟨g, o, e, Nat.lt_of_lt_of_le hl t.size, fun j x hx => (t.cell hl hg).trans (hc j x hx)⟩
theorem FrAt.turnN {w w' : World} {g o b : Nat} {f : Fr} (h : FrAt w g o f) (hl : g < w.heap.size) (t : Turn (fun x => x = b) w w') (hn : NoInt w b) (hg : g ≠ b) : FrAt w' g o f := by
  obtain ⟨h0, h1, h2, h3, A, c, h4, h5⟩ := h
  exact ⟨h0, (t.cell hl hg).trans h1, (t.cell hl hg).trans h2, fun k hk => (t.cell hl hg).trans (h3 k hk), A, c, (t.cell hl hg).trans h4, h5.turnN t hn⟩
theorem RowF.turnN {w w' : World} {A : Option Addr} {fs : List Fr} {b : Nat} (h : RowF w A fs) (t : Turn (fun x => x = b) w w') (hn : NoInt w b) : RowF w' A fs := fun hp => by
  obtain ⟨g, o, e, hl, hc⟩ := h hp
  have hg : g ≠ b := fun e' => by
    subst e'
    exact hn _ _ (hc 0 _ (List.getElem?_eq_getElem hp)).2.1
  exact ⟨g, o, e, Nat.lt_of_lt_of_le hl t.size, fun j f hf => (hc j f hf).turnN hl t hn hg⟩
theorem RowC.turnN {w w' : World} {A : Option Addr} {cs : List Co} {b : Nat} (h : RowC w A cs) (t : Turn (fun x => x = b) w w') (hn : NoInt w b) : RowC w' A cs := fun hp => by
  obtain ⟨g, o, e, hl, hc⟩ := h hp
  have hg : g ≠ b := fun e' => by
    subst e'
    exact hn _ _ (hc 0 _ (List.getElem?_eq_getElem hp)).2.1
  refine ⟨g, o, e, Nat.lt_of_lt_of_le hl t.size, fun j x hx => ?_⟩
  obtain ⟨⟨A1, c1, h0, h1, hq⟩, h2, h3, h4, h5, h6, A2, c2, h7, h8⟩ := hc j x hx
  exact ⟨⟨A1, c1, (t.cell hl hg).trans h0, h1.turnN t hn, hq⟩, (t.cell hl hg).trans h2, (t.cell hl hg).trans h3, (t.cell hl hg).trans h4, (t.cell hl hg).trans h5, (t.cell hl hg).trans h6, A2, c2, (t.cell hl hg).trans h7, h8.turnN t hn⟩
theorem RowE.turnN {w w' : World} {A : Option Addr} {es : List Evt} {b : Nat} (h : RowE w A es) (t : Turn (fun x => x = b) w w') (hn : NoInt w b) : RowE w' A es := fun hp => by
  obtain ⟨g, o, e, hl, hc⟩ := h hp
  have hg : g ≠ b := fun e' => by
    subst e'
    exact hn _ _ (hc 0 _ (List.getElem?_eq_getElem hp)).1
  refine ⟨g, o, e, Nat.lt_of_lt_of_le hl t.size, fun j x hx => ?_⟩
  obtain ⟨h0, h1, h2, h3, h4⟩ := hc j x hx
  exact ⟨(t.cell hl hg).trans h0, (t.cell hl hg).trans h1, (t.cell hl hg).trans h2, (t.cell hl hg).trans h3, (t.cell hl hg).trans h4⟩

/-- What a call has returned, stored into the result's own block. -/
theorem ret_store {w0 w w' : World} {s : Sy} {A B AC AL : Option Addr} {c d cC cL b : Nat} (hW : Row w A s.M.W) (hG : Row w B s.M.G) (hC : RowC w AC s.C) (hL : RowE w AL s.L) (t : Turn (fun x => x = b) w w') (hn : NoInt w b) (hb : Below w0.heap.size w0 w') :
    RetSys w0 s (.returned (.agg #[.slice A s.M.W.length c, .slice B s.M.G.length d, .bool s.M.bad, .slice AC s.C.length cC, .slice AL s.L.length cL])) w' :=
  ⟨A, B, AC, AL, c, d, cC, cL, rfl, hW.turnN t hn, hG.turnN t hn, hC.turnN t hn, hL.turnN t hn, hb⟩
end Go.Proofs.Ytpagekhgeahmaaa
