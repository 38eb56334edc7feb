/- Systems as plain data, and how they lie in memory. No Go text. -/
import Derived.Test.YtpagekhgeahmaaaRow
import Derived.Test.YtpagekhgeahmaaaArena
namespace Go.Proofs.Ytpagekhgeahmaaa
open Go.RowKit
set_option linter.unusedVariables false

/-- A frame: its op, its step, its registers, what it has seen. -/
structure Fr where
  op : Int
  pc : Int
  R : List Int
  S : List Int
  deriving DecidableEq
/-- A core. -/
structure Co where
  F : List Fr
  v : Int
  e : Int
  x0 : Int
  x1 : Int
  x2 : Int
  ret : List Int
  deriving DecidableEq
/-- An event. -/
structure Evt where
  core : Int
  kind : Int
  a : Int
  b : Int
  v : Int
  deriving DecidableEq
/-- A system. -/
structure Sy where
  M : Ar
  C : List Co
  L : List Evt

/-- At block b from place o on there lies the frame f. -/
def FrAt (w : World) (b o : Nat) (f : Fr) : Prop :=
  f.R.length = 8 ∧ w.cell? ⟨b, o, none⟩ = some (.int .i64 f.op) ∧ w.cell? ⟨b, o + 1, none⟩ = some (.int .i64 f.pc) ∧ (∀ k, k < 8 → w.cell? ⟨b, o + 2 + k, none⟩ = some (.int .i64 (f.R.getD k 0))) ∧
    ∃ (A : Option Addr) (c : Nat), w.cell? ⟨b, o + 10, none⟩ = some (.slice A f.S.length c) ∧ Row w A f.S
/-- A slice of address A, as long as fs, holds just the frames fs. -/
def RowF (w : World) (A : Option Addr) (fs : List Fr) : Prop :=
  0 < fs.length → ∃ b o, A = some ⟨b, o, none⟩ ∧ b < w.heap.size ∧ ∀ j f, fs[j]? = some f → FrAt w b (o + j * 11) f
def CoAt (w : World) (b o : Nat) (x : Co) : Prop :=
  (∃ (A : Option Addr) (c : Nat), w.cell? ⟨b, o, none⟩ = some (.slice A x.F.length c) ∧ RowF w A x.F ∧ x.F.length ≤ c) ∧ w.cell? ⟨b, o + 1, none⟩ = some (.int .i64 x.v) ∧ w.cell? ⟨b, o + 2, none⟩ = some (.int .i64 x.e) ∧
    w.cell? ⟨b, o + 3, none⟩ = some (.int .i64 x.x0) ∧ w.cell? ⟨b, o + 4, none⟩ = some (.int .i64 x.x1) ∧ w.cell? ⟨b, o + 5, none⟩ = some (.int .i64 x.x2) ∧
    ∃ (A : Option Addr) (c : Nat), w.cell? ⟨b, o + 6, none⟩ = some (.slice A x.ret.length c) ∧ Row w A x.ret
def RowC (w : World) (A : Option Addr) (cs : List Co) : Prop :=
  0 < cs.length → ∃ b o, A = some ⟨b, o, none⟩ ∧ b < w.heap.size ∧ ∀ j x, cs[j]? = some x → CoAt w b (o + j * 7) x
def EvAt (w : World) (b o : Nat) (e : Evt) : Prop :=
  w.cell? ⟨b, o, none⟩ = some (.int .i64 e.core) ∧ w.cell? ⟨b, o + 1, none⟩ = some (.int .i64 e.kind) ∧ w.cell? ⟨b, o + 2, none⟩ = some (.int .i64 e.a) ∧ w.cell? ⟨b, o + 3, none⟩ = some (.int .i64 e.b) ∧ w.cell? ⟨b, o + 4, none⟩ = some (.int .i64 e.v)
def RowE (w : World) (A : Option Addr) (es : List Evt) : Prop :=
  0 < es.length → ∃ b o, A = some ⟨b, o, none⟩ ∧ b < w.heap.size ∧ ∀ j e, es[j]? = some e → EvAt w b (o + j * 5) e

theorem FrAt.step {w w' : World} {b o : Nat} {f : Fr} (h : FrAt w b o f) (hl : b < w.heap.size) (hb : Below w.heap.size w w') : FrAt w' b o f := by
  obtain ⟨h0, h1, h2, h3, A, c, h4, h5⟩ := h
  exact ⟨h0, (hb.cell hl).trans h1, (hb.cell hl).trans h2, fun k hk => (hb.cell hl).trans (h3 k hk), A, c, (hb.cell hl).trans h4, h5.step hb⟩
theorem RowF.step {w w' : World} {A : Option Addr} {fs : List Fr} (h : RowF w A fs) (hb : Below w.heap.size w w') : RowF w' A fs := fun hn => by
  obtain ⟨b, o, e, hl, hc⟩ := h hn
  exact ⟨b, o, e, Nat.lt_of_lt_of_le hl hb.size, fun j f hf => (hc j f hf).step hl hb⟩
theorem CoAt.step {w w' : World} {b o : Nat} {x : Co} (h : CoAt w b o x) (hl : b < w.heap.size) (hb : Below w.heap.size w w') : CoAt w' b o x := by
  obtain ⟨⟨A, c, h0, h1, hq⟩, h2, h3, h4, h5, h6, A', c', h7, h8⟩ := h
  exact ⟨⟨A, c, (hb.cell hl).trans h0, h1.step hb, hq⟩, (hb.cell hl).trans h2, (hb.cell hl).trans h3, (hb.cell hl).trans h4, (hb.cell hl).trans h5, (hb.cell hl).trans h6, A', c', (hb.cell hl).trans h7, h8.step hb⟩
theorem RowC.step {w w' : World} {A : Option Addr} {cs : List Co} (h : RowC w A cs) (hb : Below w.heap.size w w') : RowC w' A cs := fun hn => by
  obtain ⟨b, o, e, hl, hc⟩ := h hn
  exact ⟨b, o, e, Nat.lt_of_lt_of_le hl hb.size, fun j x hx => (hc j x hx).step hl hb⟩
theorem EvAt.step {w w' : World} {b o : Nat} {e : Evt} (h : EvAt w b o e) (hl : b < w.heap.size) (hb : Below w.heap.size w w') : EvAt w' b o e := by
  obtain ⟨h0, h1, h2, h3, h4⟩ := h
  exact ⟨(hb.cell hl).trans h0, (hb.cell hl).trans h1, (hb.cell hl).trans h2, (hb.cell hl).trans h3, (hb.cell hl).trans h4⟩
theorem RowE.step {w w' : World} {A : Option Addr} {es : List Evt} (h : RowE w A es) (hb : Below w.heap.size w w') : RowE w' A es := fun hn => by
  obtain ⟨b, o, e, hl, hc⟩ := h hn
  exact ⟨b, o, e, Nat.lt_of_lt_of_le hl hb.size, fun j x hx => (hc j x hx).step hl hb⟩
end Go.Proofs.Ytpagekhgeahmaaa
