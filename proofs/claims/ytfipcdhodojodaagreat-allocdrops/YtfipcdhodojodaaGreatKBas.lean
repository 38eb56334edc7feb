/- Rows of integers in memory, read as lists; what is kept as memory grows. No Go text. -/
import Derived.WalkKit
import Derived.Below
import Derived.Laws.OwnMore
import Derived.Laws.Rows
import Derived.Laws.MakeOwn
import Derived.Deep.Draws
import Derived.Deep.AppendLies
import Derived.OwnWalk
import Derived.OneCell
import Derived.ChangeKeysEq
import Derived.Laws.StructEq
import Derived.Laws.BitsAllLaws
import Derived.Laws.BitsLemmas
import Derived.IntWalk
import Derived.ProofKit
import Derived.OpenShut
namespace Go.Proofs.YtfipcdhodojodaaGreat
open Go.RowKit
theorem hid {p:Prop} (h:p):Hid p:=h
theorem ret_int {k:IntKind} {a b:Int} (h:a = b):Ending.returned (.int k a) = .returned (.int k b):=by rw [h]
theorem ret_bool {a b:Bool} (h:a = b):Ending.returned (.bool a) = .returned (.bool b):=by rw [h]
theorem bstep {a b c:World} (h:Below a.heap.size a b) (k:Below b.heap.size b c):Below a.heap.size a c:=h.trans (k.mono h.size)
theorem boxed (w:World) (o:Obj):Below w.heap.size w (w.alloc o):=(Below.refl _ _).alloc (Nat.le_refl _) _
theorem bdrewN {B:Nat} {a w:World} (h:Below B a w) (n:Nat):Below B a (w.drewN n):=⟨h.os,h.tape,h.output,h.size,h.block⟩
theorem bcell {W w1:World} (hb:Below W.heap.size W w1):(∀ b o,b < W.heap.size→w1.cell? ⟨b,o,none⟩ = W.cell? ⟨b,o,none⟩)∧(∀ b o,b < W.heap.size→w1.frozen? ⟨b,o,none⟩ = W.frozen? ⟨b,o,none⟩) :=
 ⟨fun b o h=>hb.cell (p:=⟨b,o,none⟩) h,fun b o h=>hb.frozen (p:=⟨b,o,none⟩) h⟩
def Row (w:World) (A:Option Addr) (xs:List Int):Prop :=
 0 < xs.length→∃ b o,A = some ⟨b,o,none⟩∧b < w.heap.size∧∀ j x,xs[j]? = some x→w.cell? ⟨b,o+j,none⟩ = some (.int .i64 x)
theorem Row.nil (w:World) (A:Option Addr):Row w A []:=fun h=>absurd h (by simp)
theorem Row.step {w w':World} {A:Option Addr} {xs:List Int} (h:Row w A xs) (hb:Below w.heap.size w w'):Row w' A xs:=fun hn=>by
 obtain ⟨b,o,e,hl,hc⟩:=h hn
 exact ⟨b,o,e,Nat.lt_of_lt_of_le hl hb.size,fun j x hx=>(hb.cell hl).trans (hc j x hx)⟩
theorem Row.alloc {w:World} {A:Option Addr} {xs:List Int} (h:Row w A xs) (o:Obj):Row (w.alloc o) A xs:=h.step (boxed w o)
theorem Row.atX {w:World} {A:Option Addr} {xs:List Int} (h:Row w A xs) (k:Nat) (hk:k < xs.length) :
  ∃ b o x,A = some ⟨b,o,none⟩∧b < w.heap.size∧Hid (xs.getD k 0 = x)∧w.cell? ⟨b,o+k,none⟩ = some (.int .i64 x):=by
 obtain ⟨b,o,e,hl,hc⟩:=h (by omega)
 refine ⟨b,o,_,e,hl,hid rfl,?_⟩
 rw [hc k _ (List.getElem?_eq_getElem hk),List.getD_eq_getElem?_getD,List.getElem?_eq_getElem hk]
 rfl
theorem Row.atY {w:World} {b o:Nat} {xs:List Int} (h:Row w (some ⟨b,o,none⟩) xs) (k:Nat) (hk:k < xs.length) :
  ∃ x,Hid (xs.getD k 0 = x)∧w.cell? ⟨b,o+k,none⟩ = some (.int .i64 x):=by
 obtain ⟨b',o',x,e,_,X,hc⟩:=h.atX k hk
 simp only [Option.some.injEq,Addr.mk.injEq,and_true] at e
 obtain ⟨rfl,rfl⟩:=e
 exact ⟨x,X,hc⟩
theorem Row.cellX {w:World} {b o:Nat} {xs:List Int} (h:Row w (some ⟨b,o,none⟩) xs) (k:Nat) (hk:k < xs.length) {x:Int} (X:Hid (xs.getD k 0 = x)):w.cell? ⟨b,o+k,none⟩ = some (.int .i64 x):=by
 obtain ⟨y,Y,hc⟩:=h.atY k hk
 rw [hc,← Y.out,X.out]
theorem Row.atE {w:World} {A:Option Addr} {xs:List Int} (h:Row w A xs) (k:Nat) (hk:k < xs.length) :
  ∃ b o,A = some ⟨b,o,none⟩∧b < w.heap.size∧w.cell? ⟨b,o+k,none⟩ = some (.int .i64 xs[k]):=by
 obtain ⟨b,o,e,hl,hc⟩:=h (by omega)
 exact ⟨b,o,e,hl,hc k _ (List.getElem?_eq_getElem hk)⟩
def Blk (w:World) (g:Nat) (xs:List Int):Prop:=w.heap[g]? = some (.cells (xs.map (Value.int .i64)).toArray 3 (0,0))
theorem Blk.lt {w:World} {g:Nat} {xs:List Int} (h:Blk w g xs):g < w.heap.size:=by
 rcases Nat.lt_or_ge g w.heap.size with hl | hl
 ·exact hl
 ·unfold Blk at h;rw [Array.getElem?_eq_none hl] at h;cases h
theorem Blk.cell {w:World} {g:Nat} {xs:List Int} (h:Blk w g xs) (j:Nat):w.cell? ⟨g,j,none⟩ = (xs[j]?).map (Value.int .i64):=by
 rw [cell_of_row w g j _ _ _ h]
 simp
theorem Blk.cellD {w:World} {g:Nat} {xs:List Int} (h:Blk w g xs) (j:Nat) (hj:j < xs.length):w.cell? ⟨g,j,none⟩ = some (.int .i64 (xs.getD j 0)):=by
 rw [h.cell,List.getD_eq_getElem?_getD,List.getElem?_eq_getElem hj]
 rfl
theorem Blk.frozen {w:World} {g:Nat} {xs:List Int} (h:Blk w g xs) (j:Nat):w.frozen? ⟨g,j,none⟩ = false:=frozen_of_row w g j _ _ h
theorem Blk.row {w:World} {g:Nat} {xs:List Int} (h:Blk w g xs):Row w (some ⟨g,0,none⟩) xs:=fun _ =>
 ⟨_,_,rfl,h.lt,fun j x hx=>by rw [Nat.zero_add,h.cell,hx];rfl⟩
theorem Blk.step {w w':World} {g B:Nat} {xs:List Int} (h:Blk w g xs) (hb:Below B w w') (hg:g < B):Blk w' g xs:=(hb.block g hg).trans h
theorem Blk.alloc {w:World} {g:Nat} {xs:List Int} (h:Blk w g xs) (o:Obj):Blk (w.alloc o) g xs:=h.step (boxed w o) h.lt
theorem Blk.far {w:World} {g:Nat} {xs:List Int} (h:Blk w g xs) {p:Addr} (hp:g ≠ p.block) (u:Value):Blk (w.setCell p u) g xs:=(Below.heap_setCell w p u g hp).trans h
theorem Blk.set {w:World} {g:Nat} {xs:List Int} (h:Blk w g xs) (j:Nat) (x:Int):Blk (w.setCell ⟨g,j,none⟩ (.int .i64 x)) g (xs.set j x):=by
 unfold Blk
 rw [heap_setCell_same w g j _ _ _ h]
 simp [List.map_set]
theorem Blk.made (w:World) (n:Nat):Blk (w.alloc (.cells (madeCells #[Value.int .i64 0] n) 3)) w.heap.size (List.replicate n 0):=by
 unfold Blk
 rw [heap_alloc_new]
 congr 2
 apply Array.ext
 ·simp [madeCells]
 ·intro i h1 h2
  simp [madeCells,Nat.mod_one]
open Go.RowKit
set_option linter.unusedVariables false
theorem cells1 {w:World} {b T:Nat} {fr:Nat × Nat} {x0:Value} {l:List Value} (h:w.heap[b]? = some (.cells (x0 :: l).toArray T fr)):w.cell? ⟨b,0,none⟩ = some x0 :=
 cell_of_row w b 0 _ _ _ h
theorem cells2 {w:World} {b T:Nat} {fr:Nat × Nat} {x0 x1:Value} {l:List Value} (h:w.heap[b]? = some (.cells (x0 :: x1 :: l).toArray T fr)):w.cell? ⟨b,0,none⟩ = some x0∧w.cell? ⟨b,1,none⟩ = some x1 :=
 ⟨cell_of_row w b 0 _ _ _ h,cell_of_row w b 1 _ _ _ h⟩
theorem frz2 {w:World} {b T:Nat} {cs:Array Value} (h:w.heap[b]? = some (.cells cs T (0,0))):w.frozen? ⟨b,0,none⟩ = false∧w.frozen? ⟨b,1,none⟩ = false :=
 ⟨frozen_of_row w b 0 _ _ h,frozen_of_row w b 1 _ _ h⟩
theorem cells3 {w:World} {b T:Nat} {fr:Nat × Nat} {x0 x1 x2:Value} {l:List Value} (h:w.heap[b]? = some (.cells (x0 :: x1 :: x2 :: l).toArray T fr)):w.cell? ⟨b,0,none⟩ = some x0∧w.cell? ⟨b,1,none⟩ = some x1∧w.cell? ⟨b,2,none⟩ = some x2 :=
 ⟨cell_of_row w b 0 _ _ _ h,cell_of_row w b 1 _ _ _ h,cell_of_row w b 2 _ _ _ h⟩
theorem frz3 {w:World} {b T:Nat} {cs:Array Value} (h:w.heap[b]? = some (.cells cs T (0,0))):w.frozen? ⟨b,0,none⟩ = false∧w.frozen? ⟨b,1,none⟩ = false∧w.frozen? ⟨b,2,none⟩ = false :=
 ⟨frozen_of_row w b 0 _ _ h,frozen_of_row w b 1 _ _ h,frozen_of_row w b 2 _ _ h⟩
theorem cells4 {w:World} {b T:Nat} {fr:Nat × Nat} {x0 x1 x2 x3:Value} {l:List Value} (h:w.heap[b]? = some (.cells (x0 :: x1 :: x2 :: x3 :: l).toArray T fr)):w.cell? ⟨b,0,none⟩ = some x0∧w.cell? ⟨b,1,none⟩ = some x1∧w.cell? ⟨b,2,none⟩ = some x2∧w.cell? ⟨b,3,none⟩ = some x3 :=
 ⟨cell_of_row w b 0 _ _ _ h,cell_of_row w b 1 _ _ _ h,cell_of_row w b 2 _ _ _ h,cell_of_row w b 3 _ _ _ h⟩
theorem frz4 {w:World} {b T:Nat} {cs:Array Value} (h:w.heap[b]? = some (.cells cs T (0,0))):w.frozen? ⟨b,0,none⟩ = false∧w.frozen? ⟨b,1,none⟩ = false∧w.frozen? ⟨b,2,none⟩ = false∧w.frozen? ⟨b,3,none⟩ = false :=
 ⟨frozen_of_row w b 0 _ _ h,frozen_of_row w b 1 _ _ h,frozen_of_row w b 2 _ _ h,frozen_of_row w b 3 _ _ h⟩
theorem cells5 {w:World} {b T:Nat} {fr:Nat × Nat} {x0 x1 x2 x3 x4:Value} {l:List Value} (h:w.heap[b]? = some (.cells (x0 :: x1 :: x2 :: x3 :: x4 :: l).toArray T fr)):w.cell? ⟨b,0,none⟩ = some x0∧w.cell? ⟨b,1,none⟩ = some x1∧w.cell? ⟨b,2,none⟩ = some x2∧w.cell? ⟨b,3,none⟩ = some x3∧w.cell? ⟨b,4,none⟩ = some x4 :=
 ⟨cell_of_row w b 0 _ _ _ h,cell_of_row w b 1 _ _ _ h,cell_of_row w b 2 _ _ _ h,cell_of_row w b 3 _ _ _ h,cell_of_row w b 4 _ _ _ h⟩
theorem frz5 {w:World} {b T:Nat} {cs:Array Value} (h:w.heap[b]? = some (.cells cs T (0,0))):w.frozen? ⟨b,0,none⟩ = false∧w.frozen? ⟨b,1,none⟩ = false∧w.frozen? ⟨b,2,none⟩ = false∧w.frozen? ⟨b,3,none⟩ = false∧w.frozen? ⟨b,4,none⟩ = false :=
 ⟨frozen_of_row w b 0 _ _ h,frozen_of_row w b 1 _ _ h,frozen_of_row w b 2 _ _ h,frozen_of_row w b 3 _ _ h,frozen_of_row w b 4 _ _ h⟩
theorem cells6 {w:World} {b T:Nat} {fr:Nat × Nat} {x0 x1 x2 x3 x4 x5:Value} {l:List Value} (h:w.heap[b]? = some (.cells (x0 :: x1 :: x2 :: x3 :: x4 :: x5 :: l).toArray T fr)):w.cell? ⟨b,0,none⟩ = some x0∧w.cell? ⟨b,1,none⟩ = some x1∧w.cell? ⟨b,2,none⟩ = some x2∧w.cell? ⟨b,3,none⟩ = some x3∧w.cell? ⟨b,4,none⟩ = some x4∧w.cell? ⟨b,5,none⟩ = some x5 :=
 ⟨cell_of_row w b 0 _ _ _ h,cell_of_row w b 1 _ _ _ h,cell_of_row w b 2 _ _ _ h,cell_of_row w b 3 _ _ _ h,cell_of_row w b 4 _ _ _ h,cell_of_row w b 5 _ _ _ h⟩
theorem frz6 {w:World} {b T:Nat} {cs:Array Value} (h:w.heap[b]? = some (.cells cs T (0,0))):w.frozen? ⟨b,0,none⟩ = false∧w.frozen? ⟨b,1,none⟩ = false∧w.frozen? ⟨b,2,none⟩ = false∧w.frozen? ⟨b,3,none⟩ = false∧w.frozen? ⟨b,4,none⟩ = false∧w.frozen? ⟨b,5,none⟩ = false :=
 ⟨frozen_of_row w b 0 _ _ h,frozen_of_row w b 1 _ _ h,frozen_of_row w b 2 _ _ h,frozen_of_row w b 3 _ _ h,frozen_of_row w b 4 _ _ h,frozen_of_row w b 5 _ _ h⟩
theorem cells7 {w:World} {b T:Nat} {fr:Nat × Nat} {x0 x1 x2 x3 x4 x5 x6:Value} {l:List Value} (h:w.heap[b]? = some (.cells (x0 :: x1 :: x2 :: x3 :: x4 :: x5 :: x6 :: l).toArray T fr)):w.cell? ⟨b,0,none⟩ = some x0∧w.cell? ⟨b,1,none⟩ = some x1∧w.cell? ⟨b,2,none⟩ = some x2∧w.cell? ⟨b,3,none⟩ = some x3∧w.cell? ⟨b,4,none⟩ = some x4∧w.cell? ⟨b,5,none⟩ = some x5∧w.cell? ⟨b,6,none⟩ = some x6 :=
 ⟨cell_of_row w b 0 _ _ _ h,cell_of_row w b 1 _ _ _ h,cell_of_row w b 2 _ _ _ h,cell_of_row w b 3 _ _ _ h,cell_of_row w b 4 _ _ _ h,cell_of_row w b 5 _ _ _ h,cell_of_row w b 6 _ _ _ h⟩
theorem frz7 {w:World} {b T:Nat} {cs:Array Value} (h:w.heap[b]? = some (.cells cs T (0,0))):w.frozen? ⟨b,0,none⟩ = false∧w.frozen? ⟨b,1,none⟩ = false∧w.frozen? ⟨b,2,none⟩ = false∧w.frozen? ⟨b,3,none⟩ = false∧w.frozen? ⟨b,4,none⟩ = false∧w.frozen? ⟨b,5,none⟩ = false∧w.frozen? ⟨b,6,none⟩ = false :=
 ⟨frozen_of_row w b 0 _ _ h,frozen_of_row w b 1 _ _ h,frozen_of_row w b 2 _ _ h,frozen_of_row w b 3 _ _ h,frozen_of_row w b 4 _ _ h,frozen_of_row w b 5 _ _ h,frozen_of_row w b 6 _ _ h⟩
theorem cells11 {w:World} {b T:Nat} {fr:Nat × Nat} {x0 x1 x2 x3 x4 x5 x6 x7 x8 x9 x10:Value} {l:List Value} (h:w.heap[b]? = some (.cells (x0 :: x1 :: x2 :: x3 :: x4 :: x5 :: x6 :: x7 :: x8 :: x9 :: x10 :: l).toArray T fr)):w.cell? ⟨b,0,none⟩ = some x0∧w.cell? ⟨b,1,none⟩ = some x1∧w.cell? ⟨b,2,none⟩ = some x2∧w.cell? ⟨b,3,none⟩ = some x3∧w.cell? ⟨b,4,none⟩ = some x4∧w.cell? ⟨b,5,none⟩ = some x5∧w.cell? ⟨b,6,none⟩ = some x6∧w.cell? ⟨b,7,none⟩ = some x7∧w.cell? ⟨b,8,none⟩ = some x8∧w.cell? ⟨b,9,none⟩ = some x9∧w.cell? ⟨b,10,none⟩ = some x10 :=
 ⟨cell_of_row w b 0 _ _ _ h,cell_of_row w b 1 _ _ _ h,cell_of_row w b 2 _ _ _ h,cell_of_row w b 3 _ _ _ h,cell_of_row w b 4 _ _ _ h,cell_of_row w b 5 _ _ _ h,cell_of_row w b 6 _ _ _ h,cell_of_row w b 7 _ _ _ h,cell_of_row w b 8 _ _ _ h,cell_of_row w b 9 _ _ _ h,cell_of_row w b 10 _ _ _ h⟩
theorem frz11 {w:World} {b T:Nat} {cs:Array Value} (h:w.heap[b]? = some (.cells cs T (0,0))):w.frozen? ⟨b,0,none⟩ = false∧w.frozen? ⟨b,1,none⟩ = false∧w.frozen? ⟨b,2,none⟩ = false∧w.frozen? ⟨b,3,none⟩ = false∧w.frozen? ⟨b,4,none⟩ = false∧w.frozen? ⟨b,5,none⟩ = false∧w.frozen? ⟨b,6,none⟩ = false∧w.frozen? ⟨b,7,none⟩ = false∧w.frozen? ⟨b,8,none⟩ = false∧w.frozen? ⟨b,9,none⟩ = false∧w.frozen? ⟨b,10,none⟩ = false :=
 ⟨frozen_of_row w b 0 _ _ h,frozen_of_row w b 1 _ _ h,frozen_of_row w b 2 _ _ h,frozen_of_row w b 3 _ _ h,frozen_of_row w b 4 _ _ h,frozen_of_row w b 5 _ _ h,frozen_of_row w b 6 _ _ h,frozen_of_row w b 7 _ _ h,frozen_of_row w b 8 _ _ h,frozen_of_row w b 9 _ _ h,frozen_of_row w b 10 _ _ h⟩
end Go.Proofs.YtfipcdhodojodaaGreat
namespace Go.Proofs.YtfipcdhodojodaaGreat
structure Ar where
 W:List Int
 G:List Int
 bad:Bool
def mNode (G:List Int) (p:Int):Int:=if 128 < p∧p < 128+4 * ((G.length:Int) - 1)∧(p - 128) % 4 ≠ 0 then 1+(p - 128) / 4 else 0
def mIn (W:List Int) (p:Int):Bool:=decide (0≤p∧p < (W.length:Int))
def mBad (m:Ar) (p:Int):Bool:=!mIn m.W p || m.bad || (decide (0 < mNode m.G p) && m.G.getD (mNode m.G p).toNat 0 == 0)
def mVal (m:Ar) (p:Int):Int:=if mIn m.W p then m.W.getD p.toNat 0 else 0
def mLoad (m:Ar) (p:Int):Ar:=⟨m.W,m.G,mBad m p⟩
def mStore (m:Ar) (p v:Int):Ar:=⟨if mIn m.W p then m.W.set p.toNat v else m.W,m.G,mBad m p⟩
def mIs (m:Ar) (p old:Int):Bool:=mIn m.W p && m.W.getD p.toNat 0 == old
def mCas (m:Ar) (p old now:Int):Ar:=⟨if mIs m p old then m.W.set p.toNat now else m.W,m.G,mBad m p⟩
def mMay (a b:Int):Bool:=(a == 0 && b == 1) || (a == 1 && b == 2) || (a == 1 && b == 0) || (a == 2 && b == 0)
def mTurns (m:Ar) (i to:Int):Bool:=decide (1≤i∧i < (m.G.length:Int)) && mMay (m.G.getD i.toNat 0) to
def mTurn (m:Ar) (i to:Int):Ar:=⟨m.W,if mTurns m i to then m.G.set i.toNat to else m.G,m.bad || !mTurns m i to⟩
def mNew (n:Nat):Ar:=⟨List.replicate (128+4 * n) 0,List.replicate (1+n) 0,false⟩
def mRight (m:Ar):Bool:=decide (2≤m.G.length∧m.G.length≤201∧m.W.length+4 = 128+4 * m.G.length) && (m.G.getD 0 0 == 0 && m.G.all fun x=>decide (0≤x∧x≤2))
def mInts (a b:List Int):Bool:=decide (a = b)
theorem mInts_len {a b:List Int} (h:a.length ≠ b.length):mInts a b = false:=by
 unfold mInts
 simp
 intro e
 exact h (by rw [e])
theorem mInts_at {a b:List Int} (k:Nat) (ha:k < a.length) (hb:k < b.length) (h:a[k] ≠ b[k]):mInts a b = false:=by
 unfold mInts
 simp
 intro e
 subst e
 exact h rfl
theorem take_more {a b:List Int} (k:Nat) (ha:k < a.length) (hb:k < b.length) (h:a[k] = b[k]) (ht:a.take k = b.take k):a.take (k+1) = b.take (k+1):=by
 rw [List.take_succ_eq_append_getElem ha,List.take_succ_eq_append_getElem hb,ht,h]
theorem mInts_all {a b:List Int} (hl:a.length = b.length) (ht:a.take a.length = b.take a.length):mInts a b = true:=by
 unfold mInts
 simp only [decide_eq_true_eq]
 rw [List.take_length] at ht
 rw [ht,hl,List.take_length]
theorem mRight_out {m:Ar} (h:mRight m = true):2≤m.G.length∧m.G.length≤201∧m.W.length+4 = 128+4 * m.G.length∧m.G.getD 0 0 = 0∧∀ j,j < m.G.length→0≤m.G.getD j 0∧m.G.getD j 0≤2:=by
 unfold mRight at h
 simp only [Bool.and_eq_true,decide_eq_true_eq,beq_iff_eq,List.all_eq_true] at h
 obtain ⟨⟨a,b,c⟩,d,e⟩:=h
 refine ⟨a,b,c,d,fun j hj=>?_⟩
 have:=e _ (List.getElem_mem hj)
 rw [List.getD_eq_getElem?_getD,List.getElem?_eq_getElem hj]
 exact this
theorem mTurn_no {m:Ar} {i z:Int} (h:mTurns m i z = false):(mTurn m i z).W = m.W∧(mTurn m i z).G = m.G∧(mTurn m i z).bad = true:=by
 unfold mTurn
 simp [h]
theorem mTurn_yes {m:Ar} {i z:Int} (h:mTurns m i z = true):(mTurn m i z).W = m.W∧(mTurn m i z).G = m.G.set i.toNat z∧(mTurn m i z).bad = m.bad:=by
 unfold mTurn
 simp [h]
theorem mTurns_out {m:Ar} {i z:Int} (h:i < 1 ∨ (m.G.length:Int)≤i):mTurns m i z = false:=by
 unfold mTurns
 rw [decide_eq_false (by omega)]
 rfl
theorem mTurns_in {m:Ar} {i z:Int} (h1:1≤i) (h2:i < (m.G.length:Int)):mTurns m i z = mMay (m.G.getD i.toNat 0) z:=by
 unfold mTurns
 rw [decide_eq_true ⟨h1,h2⟩]
 rfl
theorem mNode_cases (G:List Int) (p:Int):(mNode G p = 0∧(p≤128 ∨ 128+4 * ((G.length:Int) - 1)≤p ∨ (p - 128) % 4 = 0)) ∨
  (1≤mNode G p∧mNode G p < G.length∧p = 124+4 * mNode G p+(p - 128) % 4∧1≤(p - 128) % 4∧(p - 128) % 4≤3):=by
 unfold mNode
 split
 ·right;omega
 ·left;omega
theorem mNode_is (G:List Int) (i c:Int) (h0:1≤i) (h1:i < G.length) (h2:1≤c) (h3:c≤3):mNode G (124+4 * i+c) = i:=by
 unfold mNode
 rw [if_pos (by omega)]
 omega
open Go.RowKit
set_option linter.unusedVariables false
structure Fr where
 op:Int
 pc:Int
 R:List Int
 S:List Int
 deriving DecidableEq
structure Co where
 F:List Fr
 v:Int
 e:Int
 x0:Int
 x1:Int
 x2:Int
 ret:List Int
 deriving DecidableEq
structure Evt where
 core:Int
 kind:Int
 a:Int
 b:Int
 v:Int
 deriving DecidableEq
structure Sy where
 M:Ar
 C:List Co
 L:List Evt
def FrAt (w:World) (b o:Nat) (f:Fr):Prop :=
 f.R.length = 8∧w.cell? ⟨b,o,none⟩ = some (.int .i64 f.op)∧w.cell? ⟨b,o+1,none⟩ = some (.int .i64 f.pc)∧(∀ k,k < 8→w.cell? ⟨b,o+2+k,none⟩ = some (.int .i64 (f.R.getD k 0))) ∧
  ∃ (A:Option Addr) (c:Nat),w.cell? ⟨b,o+10,none⟩ = some (.slice A f.S.length c)∧Row w A f.S
def RowF (w:World) (A:Option Addr) (fs:List Fr):Prop :=
 0 < fs.length→∃ b o,A = some ⟨b,o,none⟩∧b < w.heap.size∧∀ j f,fs[j]? = some f→FrAt w b (o+j * 11) f
def RetCap (w:World) (b o:Nat):Prop:=∀ (A:Option Addr) (n c:Nat),w.cell? ⟨b,o+6,none⟩ = some (.slice A n c)→n≤c
def CoAt (w:World) (b o:Nat) (x:Co):Prop :=
 (∃ (A:Option Addr) (c:Nat),w.cell? ⟨b,o,none⟩ = some (.slice A x.F.length c)∧RowF w A x.F∧(x.F.length≤c∧RetCap w b o))∧w.cell? ⟨b,o+1,none⟩ = some (.int .i64 x.v)∧w.cell? ⟨b,o+2,none⟩ = some (.int .i64 x.e) ∧
  w.cell? ⟨b,o+3,none⟩ = some (.int .i64 x.x0)∧w.cell? ⟨b,o+4,none⟩ = some (.int .i64 x.x1)∧w.cell? ⟨b,o+5,none⟩ = some (.int .i64 x.x2) ∧
  ∃ (A:Option Addr) (c:Nat),w.cell? ⟨b,o+6,none⟩ = some (.slice A x.ret.length c)∧Row w A x.ret
def RowC (w:World) (A:Option Addr) (cs:List Co):Prop :=
 0 < cs.length→∃ b o,A = some ⟨b,o,none⟩∧b < w.heap.size∧∀ j x,cs[j]? = some x→CoAt w b (o+j * 7) x
def EvAt (w:World) (b o:Nat) (e:Evt):Prop :=
 w.cell? ⟨b,o,none⟩ = some (.int .i64 e.core)∧w.cell? ⟨b,o+1,none⟩ = some (.int .i64 e.kind)∧w.cell? ⟨b,o+2,none⟩ = some (.int .i64 e.a)∧w.cell? ⟨b,o+3,none⟩ = some (.int .i64 e.b)∧w.cell? ⟨b,o+4,none⟩ = some (.int .i64 e.v)
def RowE (w:World) (A:Option Addr) (es:List Evt):Prop :=
 0 < es.length→∃ b o,A = some ⟨b,o,none⟩∧b < w.heap.size∧∀ j e,es[j]? = some e→EvAt w b (o+j * 5) e
theorem FrAt.step {w w':World} {b o:Nat} {f:Fr} (h:FrAt w b o f) (hl:b < w.heap.size) (hb:Below w.heap.size w w'):FrAt w' b o f:=by
 obtain ⟨h0,h1,h2,h3,A,c,h4,h5⟩:=h
 exact ⟨h0,(hb.cell hl).trans h1,(hb.cell hl).trans h2,fun k hk=>(hb.cell hl).trans (h3 k hk),A,c,(hb.cell hl).trans h4,h5.step hb⟩
theorem RowF.step {w w':World} {A:Option Addr} {fs:List Fr} (h:RowF w A fs) (hb:Below w.heap.size w w'):RowF w' A fs:=fun hn=>by
 obtain ⟨b,o,e,hl,hc⟩:=h hn
 exact ⟨b,o,e,Nat.lt_of_lt_of_le hl hb.size,fun j f hf=>(hc j f hf).step hl hb⟩
theorem CoAt.step {w w':World} {b o:Nat} {x:Co} (h:CoAt w b o x) (hl:b < w.heap.size) (hb:Below w.heap.size w w'):CoAt w' b o x:=by
 obtain ⟨⟨A,c,h0,h1,hq⟩,h2,h3,h4,h5,h6,A',c',h7,h8⟩:=h
 exact ⟨⟨A,c,(hb.cell hl).trans h0,h1.step hb,hq.1,fun A n c e=>hq.2 A n c ((hb.cell hl).symm.trans e)⟩,(hb.cell hl).trans h2,(hb.cell hl).trans h3,(hb.cell hl).trans h4,(hb.cell hl).trans h5,(hb.cell hl).trans h6,A',c',(hb.cell hl).trans h7,h8.step hb⟩
theorem RowC.step {w w':World} {A:Option Addr} {cs:List Co} (h:RowC w A cs) (hb:Below w.heap.size w w'):RowC w' A cs:=fun hn=>by
 obtain ⟨b,o,e,hl,hc⟩:=h hn
 exact ⟨b,o,e,Nat.lt_of_lt_of_le hl hb.size,fun j x hx=>(hc j x hx).step hl hb⟩
theorem EvAt.step {w w':World} {b o:Nat} {e:Evt} (h:EvAt w b o e) (hl:b < w.heap.size) (hb:Below w.heap.size w w'):EvAt w' b o e:=by
 obtain ⟨h0,h1,h2,h3,h4⟩:=h
 exact ⟨(hb.cell hl).trans h0,(hb.cell hl).trans h1,(hb.cell hl).trans h2,(hb.cell hl).trans h3,(hb.cell hl).trans h4⟩
theorem RowE.step {w w':World} {A:Option Addr} {es:List Evt} (h:RowE w A es) (hb:Below w.heap.size w w'):RowE w' A es:=fun hn=>by
 obtain ⟨b,o,e,hl,hc⟩:=h hn
 exact ⟨b,o,e,Nat.lt_of_lt_of_le hl hb.size,fun j x hx=>(hc j x hx).step hl hb⟩
open Go.RowKit
set_option linter.unusedVariables false
structure SV (w:World) (v:Nat) (s:Sy) (A B C L:Option Addr) (a b c d:Nat):Prop where
 lt:v < w.heap.size
 bx:w.heap[v]? = some (.cells #[.slice A s.M.W.length a,.slice B s.M.G.length b,.bool s.M.bad,.slice C s.C.length c,.slice L s.L.length d] 30 (0,0))
 rW:Row w A s.M.W
 rG:Row w B s.M.G
 rC:RowC w C s.C
 rL:RowE w L s.L
theorem SV.step {w w':World} {v:Nat} {s:Sy} {A B C L:Option Addr} {a b c d:Nat} (h:SV w v s A B C L a b c d) (hb:Below w.heap.size w w'):SV w' v s A B C L a b c d :=
 ⟨Nat.lt_of_lt_of_le h.lt hb.size,(hb.block v h.lt).trans h.bx,h.rW.step hb,h.rG.step hb,h.rC.step hb,h.rL.step hb⟩
def SyFew (s:Sy):Prop:=s.M.W.length≤1000000∧s.M.G.length≤1000000∧s.C.length≤1000000∧s.L.length≤999999∧∀ x ∈ s.C,x.ret.length≤1000000∧x.F.length≤1000000∧∀ f ∈ x.F,f.S.length≤1000000
open Go.RowKit
def Each (k:Nat) (css:List (List Value)):Prop:=∀ c ∈ css,c.length = k
theorem flat_len {k:Nat}:∀ {css:List (List Value)},Each k css→css.flatten.length = css.length * k
 | [],_=>by simp
 | c :: t,h=>by
  have h1:c.length = k:=h c (by simp)
  have h2:=flat_len (k:=k) (css:=t) (fun x hx=>h x (by simp [hx]))
  simp only [List.flatten_cons,List.length_append,List.length_cons,h1,h2]
  rw [Nat.add_mul];omega
theorem flat_at {k:Nat}:∀ {css:List (List Value)} {i r:Nat} {c:List Value} {u:Value},Each k css→css[i]? = some c→c[r]? = some u→css.flatten[i * k+r]? = some u
 | [],i,r,c,u,_,hc,_=>by simp at hc
 | c0 :: t,0,r,c,u,h,hc,hu=>by
  simp only [List.getElem?_cons_zero,Option.some.injEq] at hc
  subst hc
  have hr:r < c0.length:=(List.getElem?_eq_some_iff.1 hu).1
  rw [List.flatten_cons,Nat.zero_mul,Nat.zero_add,List.getElem?_append_left hr]
  exact hu
 | c0 :: t,i+1,r,c,u,h,hc,hu=>by
  have h1:c0.length = k:=h c0 (by simp)
  simp only [List.getElem?_cons_succ] at hc
  have:=flat_at (k:=k) (css:=t) (fun x hx=>h x (by simp [hx])) hc hu
  rw [List.flatten_cons,List.getElem?_append_right (by rw [h1,Nat.add_mul];omega),h1,show (i+1) * k+r - k = i * k+r by rw [Nat.add_mul];omega]
  exact this
theorem flat_inv {k:Nat}:∀ {css:List (List Value)} {j:Nat} {u:Value},Each k css→css.flatten[j]? = some u→∃ (i r:Nat) (c:List Value),j = i * k+r∧r < k∧css[i]? = some c∧c[r]? = some u
 | [],j,u,_,hu=>by simp at hu
 | c0 :: t,j,u,h,hu=>by
  have h1:c0.length = k:=h c0 (by simp)
  rw [List.flatten_cons] at hu
  by_cases hj:j < k
  ·rw [List.getElem?_append_left (by omega)] at hu
   exact ⟨0,j,c0,by omega,hj,rfl,hu⟩
  ·rw [List.getElem?_append_right (by omega),h1] at hu
   obtain ⟨i,r,c,e1,e2,e3,e4⟩:=flat_inv (k:=k) (css:=t) (fun x hx=>h x (by simp [hx])) hu
   exact ⟨i+1,r,c,by rw [Nat.add_mul];omega,e2,e3,e4⟩
theorem flat_set {k:Nat}:∀ {css:List (List Value)} {i r:Nat} {c:List Value} {u:Value},Each k css→css[i]? = some c→r < k→css.flatten.set (i * k+r) u = (css.set i (c.set r u)).flatten
 | [],i,r,c,u,_,hc,_=>by simp at hc
 | c0 :: t,0,r,c,u,h,hc,hr=>by
  simp only [List.getElem?_cons_zero,Option.some.injEq] at hc
  subst hc
  have h1:c0.length = k:=h c0 (by simp)
  rw [List.flatten_cons,Nat.zero_mul,Nat.zero_add,List.set_append_left _ _ (by omega)]
  rfl
 | c0 :: t,i+1,r,c,u,h,hc,hr=>by
  have h1:c0.length = k:=h c0 (by simp)
  simp only [List.getElem?_cons_succ] at hc
  have:=flat_set (k:=k) (css:=t) (u:=u) (fun x hx=>h x (by simp [hx])) hc hr
  rw [List.flatten_cons,List.set_append_right _ _ (by rw [h1,Nat.add_mul];omega),h1,show (i+1) * k+r - k = i * k+r by rw [Nat.add_mul];omega,this]
  rfl
theorem Each.set {k:Nat} {css:List (List Value)} (h:Each k css) (i:Nat) {c:List Value} (hc:c.length = k):Each k (css.set i c):=fun x hx=>by
 rcases List.mem_or_eq_of_mem_set hx with h' | h'
 ·exact h x h'
 ·rw [h'];exact hc
theorem Each.one {css:List (List Value)} (h:∀ c ∈ css,∀ v ∈ c,v.oneCell' = true):∀ v ∈ css.flatten,v.oneCell' = true:=fun v hv=>by
 obtain ⟨c,hc,hv⟩:=List.mem_flatten.1 hv
 exact h c hc v hv
def Cs (w:World) (b o:Nat) (vs:List Value):Prop:=∀ r v,vs[r]? = some v→w.cell? ⟨b,o+r,none⟩ = some v
theorem Cs.step {w w':World} {b o:Nat} {vs:List Value} (h:Cs w b o vs) (hl:b < w.heap.size) (hb:Below w.heap.size w w'):Cs w' b o vs:=fun r v hv=>(hb.cell hl).trans (h r v hv)
structure Src (w:World) (A:Option Addr) (k:Nat) (css:List (List Value)):Prop where
 each:Each k css
 one:∀ c ∈ css,∀ v ∈ c,v.oneCell' = true
 at_:0 < css.length→∃ b o,A = some ⟨b,o,none⟩∧b < w.heap.size∧∀ i c,css[i]? = some c→Cs w b (o+i * k) c
theorem Src.step {w w':World} {A:Option Addr} {k:Nat} {css:List (List Value)} (h:Src w A k css) (hb:Below w.heap.size w w'):Src w' A k css :=
 ⟨h.each,h.one,fun hn=>by
  obtain ⟨b,o,e,hl,hc⟩:=h.at_ hn
  exact ⟨b,o,e,Nat.lt_of_lt_of_le hl hb.size,fun i c hi=>(hc i c hi).step hl hb⟩⟩
theorem Src.news {w:World} {b o:Nat} {k:Nat} {css:List (List Value)} (h:Src w (some ⟨b,o,none⟩) k css):∀ j u,css.flatten[j]? = some u→w.cell? ((⟨b,o,none⟩:Addr).add j) = some u:=fun j u hu=>by
 obtain ⟨i,r,c,rfl,hr,hi,hu'⟩:=flat_inv h.each hu
 obtain ⟨b',o',e,_,hc⟩:=h.at_ (by have:=(List.getElem?_eq_some_iff.1 hi).1;omega)
 simp only [Option.some.injEq,Addr.mk.injEq,and_true] at e
 obtain ⟨rfl,rfl⟩:=e
 rw [Addr.add_lit,show o+(i * k+r) = o+i * k+r by omega]
 exact hc i c hi r u hu'
theorem own_src {w:World} {base:Nat} {T:TypeId} {k n:Nat} {v:Value} {css:List (List Value)} (h:w.ownsRow base T k v n css.flatten) (he:Each k css) (hn:css.length = n) (h1:∀ c ∈ css,∀ v ∈ c,v.oneCell' = true) :
  ∃ (A:Option Addr) (c:Nat),v = .slice A n c∧Src w A k css:=by
 rcases h.2 with ⟨rfl,h0⟩ | ⟨g,cap,cur,rfl,hb,hg,_,_,_,ht⟩
 ·subst h0
  exact ⟨none,0,rfl,he,h1,fun hp=>by omega⟩
 ·refine ⟨_,cap,rfl,he,h1,fun hp=>⟨g,0,rfl,(Array.getElem?_eq_some_iff.1 hg).1,fun i c hi r u hu=>?_⟩⟩
  have hx:=flat_at he hi hu
  have hlt:i * k+r < n * k:=by
   have h1:i < n:=by have:=(List.getElem?_eq_some_iff.1 hi).1;omega
   have h2:r < k:=by have:=(List.getElem?_eq_some_iff.1 hu).1;rw [he c (List.mem_of_getElem? hi)] at this;exact this
   have h3:(i+1) * k≤n * k:=Nat.mul_le_mul_right _ h1
   rw [Nat.add_mul] at h3;omega
  rw [show 0+i * k+r = i * k+r by omega,cell_of_row w g _ _ _ _ hg]
  rw [← ht,List.getElem?_take_of_lt hlt] at hx
  simpa using hx
theorem own_step {w w':World} {base:Nat} {T:TypeId} {k n:Nat} {v:Value} {xs:List Value} (h:w.ownsRow base T k v n xs) (hb:Below w.heap.size w w'):w'.ownsRow base T k v n xs:=by
 refine ⟨h.1,?_⟩
 rcases h.2 with hn | ⟨g,cap,cur,rfl,hb',hg,rest⟩
 ·exact .inl hn
 ·exact .inr ⟨g,cap,cur,rfl,hb',(hb.block g (Array.getElem?_eq_some_iff.1 hg).1).trans hg,rest⟩
theorem own_base {w:World} {base base':Nat} {T:TypeId} {k n:Nat} {v:Value} {xs:List Value} (h:w.ownsRow base T k v n xs) (hb:base'≤base):w.ownsRow base' T k v n xs:=by
 refine ⟨h.1,?_⟩
 rcases h.2 with hn | ⟨g,cap,cur,rfl,hb',rest⟩
 ·exact .inl hn
 ·exact .inr ⟨g,cap,cur,rfl,by omega,rest⟩
theorem wpList_append_onto {P:Program} {w:World} {ops:Array Oper} {rest:List Oper} {o:Oper} {a:Act} {Q:Exit→Act→World→Prop} (hgd:o.guard = none) (s x:Operand) (t:TypeId)
  (ho:o.op = .call { callee:=.builtin .append,args:=#[s,x],argTypes:=#[t,t] })
  (base:Nat) (e:TypeId) (z:Value) (size bytes:Nat) (ht:P.underlying t = some (.slice e)) (hinfo:(P.info? e).map (fun i=>(i.zero,i.size,i.bytes)) = some (some z,size,bytes)) (hzs:z.cells.size = size) (hsz:0 < size)
  (v:Value) (n:Nat) (xs:List Value) (hs:a.eval s = v) (hown:w.ownsRow base e size v n xs)
  (ad:Addr) (m c:Nat) (news:List Value) (hx:a.eval x = .slice (some ad) m c) (hl:news.length = m * size) (hnews:∀ j u,news[j]? = some u→w.cell? (ad.add j) = some u) (h1:∀ u ∈ news,u.oneCell' = true)
  (hlen:n+m≤1000000) (hby:bytes≤1000) (hbase:base≤w.heap.size)
  (h:∀ v' w',w'.ownsRow base e size v' (n+m) (xs++news)→w.grownBy w' v.ownBlock→(v'.ownBlock = v.ownBlock ∨ v'.ownBlock = some w.heap.size)→wpList P ops Q rest (a.put o.dst v') w'):wpList P ops Q (o :: rest) a w:=by
 obtain ⟨i,hi,hz0,hz1,hz2⟩:=info_parts hinfo
 refine wpList_plain hgd fun K hK=>?_
 have hb1:(n+m) * bytes≤140737488355328:=Nat.le_trans (Nat.mul_le_mul hlen hby) (by omega)
 obtain ⟨v',w',hr,h2,h3,_,h5⟩:=run_append_own_at (P:=P) w base t o.type e i z size bytes ht hi hz0 hz1 hz2 hzs hsz v n xs hown ad m c news hl hnews h1 (by simp only [maxLen];omega) hb1 hbase
 unfold Oper.wp execOp
 simp only [ho,resolve,invoke,builtin,Sem.run_bind,Sem.run_pure,Result.andThen_ok,List.map_toArray,List.map_cons,List.map_nil,hs,hx,hr]
 exact hK _ _ (h v' w' h2 h3 h5)
theorem wpList_append_fresh {P:Program} {w:World} {ops:Array Oper} {rest:List Oper} {o:Oper} {a:Act} {Q:Exit→Act→World→Prop} (hgd:o.guard = none) (s x:Operand) (t:TypeId)
  (ho:o.op = .call { callee:=.builtin .append,args:=#[s,x],argTypes:=#[t,t] })
  (e:TypeId) (z:Value) (size bytes:Nat) (ht:P.underlying t = some (.slice e)) (hinfo:(P.info? e).map (fun i=>(i.zero,i.size,i.bytes)) = some (some z,size,bytes)) (hzs:z.cells.size = size) (hsz:0 < size)
  (g0:Nat) (hs:a.eval s = .slice (some ⟨g0,0,none⟩) 0 0) (hg0:w.heap[g0]? = some (.cells #[] e (0,0)))
  (ad:Addr) (c:Nat) (css:List (List Value)) (m:Nat) (hm:css.length = m) (hx:a.eval x = .slice (some ad) m c) (hsrc:Src w (some ad) size css)
  (hlen:m≤1000000) (hby:bytes≤1000)
  (h:∀ v' w',w'.ownsRow g0 e size v' m css.flatten→Below g0 w w'→wpList P ops Q rest (a.put o.dst v') w'):wpList P ops Q (o :: rest) a w:=by
 have hlt:g0 < w.heap.size:=(Array.getElem?_eq_some_iff.1 hg0).1
 have hnews:∀ j u,css.flatten[j]? = some u→w.cell? (ad.add j) = some u:=by
  obtain ⟨b,o,sp⟩:=ad
  intro j u hu
  obtain ⟨i,r,c,rfl,hr,hi,hu'⟩:=flat_inv hsrc.each hu
  obtain ⟨b',o',e,_,hc⟩:=hsrc.at_ (by have:=(List.getElem?_eq_some_iff.1 hi).1;omega)
  simp only [Option.some.injEq,Addr.mk.injEq] at e
  obtain ⟨rfl,rfl,rfl⟩:=e
  rw [Addr.add_lit,show o+(i * size+r) = o+i * size+r by omega]
  exact hc i c hi r u hu'
 refine wpList_append_onto hgd s x t ho g0 e z size bytes ht hinfo hzs hsz (.slice (some ⟨g0,0,none⟩) 0 0) 0 [] hs ⟨by simp,.inr ⟨g0,0,#[],rfl,Nat.le_refl _,hg0,Nat.le_refl _,by simp [maxLen],by simp,by simp⟩⟩
  ad m c css.flatten hx (by rw [flat_len hsrc.each,hm]) hnews (Each.one hsrc.one) (by omega) hby (by omega) ?_
 intro v' w' h2 h3 _
 rw [Nat.zero_add,List.nil_append] at h2
 exact h v' w' h2 ((Below.refl g0 w).grown h3 (by omega) (fun k hk=>by simp [Value.ownBlock] at hk;omega))
theorem list_of {α:Type} {n:Nat} {p:Nat→α→Prop} (h:∀ j,j < n→∃ y,p j y):∃ ys:List α,ys.length = n∧∀ j y,ys[j]? = some y→p j y:=by
 induction n with
 | zero=>exact ⟨[],rfl,fun j y hy=>by simp at hy⟩
 | succ n ih =>
  obtain ⟨ys,hl,hp⟩:=ih (fun j hj=>h j (by omega))
  obtain ⟨y,hy⟩:=h n (by omega)
  refine ⟨ys++[y],by simp [hl],fun j z hz=>?_⟩
  rw [List.getElem?_append] at hz
  split at hz
  ·exact hp j z hz
  ·have hj:j = n:=by
    have h1:=(List.getElem?_eq_some_iff.1 hz).1
    simp at h1;omega
   subst hj
   rw [hl] at hz
   simp at hz
   subst hz
   exact hy
open Go.RowKit
set_option linter.unusedSimpArgs false
theorem zip_at {α β γ:Type} {f:α→β→γ} {us:List α} {ys:List β} {i:Nat} {a:α} {b:β} (ha:us[i]? = some a) (hb:ys[i]? = some b):(List.zipWith f us ys)[i]? = some (f a b):=by
 rw [List.getElem?_zipWith,ha,hb]
theorem zip_inv {α β γ:Type} {f:α→β→γ} {us:List α} {ys:List β} {i:Nat} {c:γ} (h:(List.zipWith f us ys)[i]? = some c):∃ a b,us[i]? = some a∧ys[i]? = some b∧f a b = c:=by
 rw [List.getElem?_zipWith] at h
 cases ha:us[i]? with
 | none=>rw [ha] at h;simp at h
 | some a =>
  cases hb:ys[i]? with
  | none=>rw [ha,hb] at h;simp at h
  | some b=>rw [ha,hb] at h;exact ⟨a,b,rfl,rfl,by simpa using h⟩
theorem zip_set {α β γ:Type} {f:α→β→γ}:∀ {us:List α} {ys:List β} {i:Nat} {a:α} {b:β},(List.zipWith f us ys).set i (f a b) = List.zipWith f (us.set i a) (ys.set i b)
 | [],_,_,_,_=>by simp
 | _ :: _,[],_,_,_=>by simp
 | _ :: _,_ :: _,0,_,_=>by simp
 | _ :: us,_ :: ys,i+1,_,_=>by simp [zip_set (us:=us) (ys:=ys)]
theorem some_of {α β:Type} {us:List α} {ys:List β} (hl:ys.length = us.length) {i:Nat} {a:α} (ha:us[i]? = some a):∃ b,ys[i]? = some b :=
 ⟨_,List.getElem?_eq_getElem (by have:=(List.getElem?_eq_some_iff.1 ha).1;omega)⟩
def frCells (f:Fr) (p:Option Addr × Nat):List Value:=.int .i64 f.op :: .int .i64 f.pc :: (f.R.map (Value.int .i64)++[.slice p.1 f.S.length p.2])
def coCells (x:Co) (F R:Value):List Value:=[F,.int .i64 x.v,.int .i64 x.e,.int .i64 x.x0,.int .i64 x.x1,.int .i64 x.x2,R]
def evCells (e:Evt):List Value:=[.int .i64 e.core,.int .i64 e.kind,.int .i64 e.a,.int .i64 e.b,.int .i64 e.v]
theorem frCells_len {f:Fr} (p:Option Addr × Nat) (h:f.R.length = 8):(frCells f p).length = 11:=by simp [frCells,h]
theorem frCells_one (f:Fr) (p:Option Addr × Nat):∀ v ∈ frCells f p,v.oneCell' = true:=by
 intro v hv
 simp only [frCells,List.mem_cons,List.mem_append,List.mem_map,List.mem_singleton,List.not_mem_nil,or_false] at hv
 rcases hv with rfl | rfl | ⟨x,_,rfl⟩ | rfl <;> rfl
theorem coCells_one (x:Co) (A B:Option Addr) (n m c d:Nat):∀ v ∈ coCells x (.slice A n c) (.slice B m d),v.oneCell' = true:=by
 intro v hv
 simp only [coCells,List.mem_cons,List.not_mem_nil,or_false] at hv
 rcases hv with rfl | rfl | rfl | rfl | rfl | rfl | rfl <;> rfl
theorem evCells_one (e:Evt):∀ v ∈ evCells e,v.oneCell' = true:=by
 intro v hv
 simp only [evCells,List.mem_cons,List.not_mem_nil,or_false] at hv
 rcases hv with rfl | rfl | rfl | rfl | rfl <;> rfl
theorem fr8 {l:List Int} (h:l.length = 8):∃ r0 r1 r2 r3 r4 r5 r6 r7:Int,l = [r0,r1,r2,r3,r4,r5,r6,r7]:=by
 match l,h with
 | [r0,r1,r2,r3,r4,r5,r6,r7],_=>exact ⟨r0,r1,r2,r3,r4,r5,r6,r7,rfl⟩
theorem FrAt.cs {w:World} {b o:Nat} {f:Fr} (h:FrAt w b o f):∃ p:Option Addr × Nat,f.R.length = 8∧Cs w b o (frCells f p)∧Row w p.1 f.S:=by
 obtain ⟨op,pc,R,S⟩:=f
 obtain ⟨h0,h1,h2,h3,A,c,h4,h5⟩:=h
 dsimp only at *
 refine ⟨(A,c),h0,?_,h5⟩
 obtain ⟨r0,r1,r2,r3,r4,r5,r6,r7,rfl⟩:=fr8 h0
 intro r v hv
 have g0:=h3 0 (by omega);have g1:=h3 1 (by omega);have g2:=h3 2 (by omega);have g3:=h3 3 (by omega)
 have g4:=h3 4 (by omega);have g5:=h3 5 (by omega);have g6:=h3 6 (by omega);have g7:=h3 7 (by omega)
 have hr:r < 11:=by have:=(List.getElem?_eq_some_iff.1 hv).1;simpa [frCells] using this
 match r,hr with
 | 0,_=>simp [frCells] at hv;subst hv;exact h1
 | 1,_=>simp [frCells] at hv;subst hv;exact h2
 | 2,_=>simp [frCells] at hv;subst hv;exact g0
 | 3,_=>simp [frCells] at hv;subst hv;exact g1
 | 4,_=>simp [frCells] at hv;subst hv;exact g2
 | 5,_=>simp [frCells] at hv;subst hv;exact g3
 | 6,_=>simp [frCells] at hv;subst hv;exact g4
 | 7,_=>simp [frCells] at hv;subst hv;exact g5
 | 8,_=>simp [frCells] at hv;subst hv;exact g6
 | 9,_=>simp [frCells] at hv;subst hv;exact g7
 | 10,_=>simp [frCells] at hv;subst hv;exact h4
theorem FrAt.mk {w:World} {b o:Nat} {f:Fr} {p:Option Addr × Nat} (h8:f.R.length = 8) (h:Cs w b o (frCells f p)) (hr:Row w p.1 f.S):FrAt w b o f:=by
 obtain ⟨op,pc,R,S⟩:=f
 dsimp only at *
 obtain ⟨r0,r1,r2,r3,r4,r5,r6,r7,rfl⟩:=fr8 h8
 refine ⟨rfl,h 0 _ rfl,h 1 _ rfl,fun k hk=>?_,p.1,p.2,h 10 _ rfl,hr⟩
 match k,hk with
 | 0,_=>exact h 2 _ rfl
 | 1,_=>exact h 3 _ rfl
 | 2,_=>exact h 4 _ rfl
 | 3,_=>exact h 5 _ rfl
 | 4,_=>exact h 6 _ rfl
 | 5,_=>exact h 7 _ rfl
 | 6,_=>exact h 8 _ rfl
 | 7,_=>exact h 9 _ rfl
theorem CoAt.cs4 {w:World} {b o:Nat} {x:Co} (h:CoAt w b o x):∃ (AF AR:Option Addr) (cF cR:Nat),Cs w b o (coCells x (.slice AF x.F.length cF) (.slice AR x.ret.length cR))∧RowF w AF x.F∧Row w AR x.ret∧(x.F.length≤cF∧x.ret.length≤cR):=by
 obtain ⟨⟨A,c,h0,h1,hq⟩,h2,h3,h4,h5,h6,A',c',h7,h8⟩:=h
 refine ⟨A,A',c,c',?_,h1,h8,hq.1,hq.2 _ _ _ h7⟩
 intro r v hv
 have hr:r < 7:=by have:=(List.getElem?_eq_some_iff.1 hv).1;simpa [coCells] using this
 match r,hr with
 | 0,_=>simp [coCells] at hv;subst hv;exact h0
 | 1,_=>simp [coCells] at hv;subst hv;exact h2
 | 2,_=>simp [coCells] at hv;subst hv;exact h3
 | 3,_=>simp [coCells] at hv;subst hv;exact h4
 | 4,_=>simp [coCells] at hv;subst hv;exact h5
 | 5,_=>simp [coCells] at hv;subst hv;exact h6
 | 6,_=>simp [coCells] at hv;subst hv;exact h7
theorem CoAt.cs {w:World} {b o:Nat} {x:Co} (h:CoAt w b o x):∃ (AF AR:Option Addr) (cF cR:Nat),Cs w b o (coCells x (.slice AF x.F.length cF) (.slice AR x.ret.length cR))∧RowF w AF x.F∧Row w AR x.ret:=by
 obtain ⟨AF,AR,cF,cR,h1,h2,h3,_⟩:=h.cs4
 exact ⟨AF,AR,cF,cR,h1,h2,h3⟩
theorem CoAt.mk {w:World} {b o:Nat} {x:Co} {AF AR:Option Addr} {cF cR:Nat} (h:Cs w b o (coCells x (.slice AF x.F.length cF) (.slice AR x.ret.length cR))) (h1:RowF w AF x.F) (h2:Row w AR x.ret) (h3:x.F.length≤cF∧x.ret.length≤cR):CoAt w b o x :=
 ⟨⟨AF,cF,h 0 _ rfl,h1,h3.1,fun A n c e=>by have h9:=(h 6 _ rfl).symm.trans e;injection h9 with h9;injection h9 with _ h9 h8;subst h9 h8;exact h3.2⟩,h 1 _ rfl,h 2 _ rfl,h 3 _ rfl,h 4 _ rfl,h 5 _ rfl,AR,cR,h 6 _ rfl,h2⟩
theorem EvAt.cs {w:World} {b o:Nat} {e:Evt} (h:EvAt w b o e):Cs w b o (evCells e):=by
 obtain ⟨h0,h1,h2,h3,h4⟩:=h
 intro r v hv
 have hr:r < 5:=by have:=(List.getElem?_eq_some_iff.1 hv).1;simpa [evCells] using this
 match r,hr with
 | 0,_=>simp [evCells] at hv;subst hv;exact h0
 | 1,_=>simp [evCells] at hv;subst hv;exact h1
 | 2,_=>simp [evCells] at hv;subst hv;exact h2
 | 3,_=>simp [evCells] at hv;subst hv;exact h3
 | 4,_=>simp [evCells] at hv;subst hv;exact h4
theorem EvAt.mk {w:World} {b o:Nat} {e:Evt} (h:Cs w b o (evCells e)):EvAt w b o e:=⟨h 0 _ rfl,h 1 _ rfl,h 2 _ rfl,h 3 _ rfl,h 4 _ rfl⟩
def inCells (x:Int):List Value:=[.int .i64 x]
theorem Row.src {w:World} {A:Option Addr} {xs:List Int} (h:Row w A xs):Src w A 1 (xs.map inCells):=by
 refine ⟨fun c hc=>?_,fun c hc v hv=>?_,fun hn=>?_⟩
 ·obtain ⟨x,_,rfl⟩:=List.mem_map.1 hc;rfl
 ·obtain ⟨x,_,rfl⟩:=List.mem_map.1 hc
  simp [inCells] at hv;subst hv;rfl
 ·obtain ⟨b,o,e,hl,hc⟩:=h (by simpa using hn)
  refine ⟨b,o,e,hl,fun i c hi r v hv=>?_⟩
  rw [List.getElem?_map,Option.map_eq_some_iff] at hi
  obtain ⟨x,hx,rfl⟩:=hi
  have hr:r < 1:=by have:=(List.getElem?_eq_some_iff.1 hv).1;simpa [inCells] using this
  obtain rfl:r = 0:=by omega
  simp [inCells] at hv;subst hv
  simpa using hc i x hx
theorem Src.row {w:World} {A:Option Addr} {xs:List Int} (h:Src w A 1 (xs.map inCells)):Row w A xs:=fun hn=>by
 obtain ⟨b,o,e,hl,hc⟩:=h.at_ (by simpa using hn)
 refine ⟨b,o,e,hl,fun j x hx=>?_⟩
 have:=hc j (inCells x) (by rw [List.getElem?_map,hx];rfl) 0 _ rfl
 simpa using this
theorem RowE.src {w:World} {A:Option Addr} {es:List Evt} (h:RowE w A es):Src w A 5 (es.map evCells):=by
 refine ⟨fun c hc=>?_,fun c hc v hv=>?_,fun hn=>?_⟩
 ·obtain ⟨x,_,rfl⟩:=List.mem_map.1 hc;rfl
 ·obtain ⟨x,_,rfl⟩:=List.mem_map.1 hc
  exact evCells_one x v hv
 ·obtain ⟨b,o,e,hl,hc⟩:=h (by simpa using hn)
  refine ⟨b,o,e,hl,fun i c hi=>?_⟩
  rw [List.getElem?_map,Option.map_eq_some_iff] at hi
  obtain ⟨x,hx,rfl⟩:=hi
  exact (hc i x hx).cs
theorem Src.rowE {w:World} {A:Option Addr} {es:List Evt} (h:Src w A 5 (es.map evCells)):RowE w A es:=fun hn=>by
 obtain ⟨b,o,e,hl,hc⟩:=h.at_ (by simpa using hn)
 exact ⟨b,o,e,hl,fun j x hx=>EvAt.mk (hc j (evCells x) (by rw [List.getElem?_map,hx];rfl))⟩
def fsCells (fs:List Fr) (ps:List (Option Addr × Nat)):List (List Value):=List.zipWith frCells fs ps
theorem fsCells_len {fs:List Fr} {ps:List (Option Addr × Nat)} (h:ps.length = fs.length):(fsCells fs ps).length = fs.length:=by simp [fsCells,h]
theorem fsCells_each {fs:List Fr} {ps:List (Option Addr × Nat)} (h8:∀ f ∈ fs,f.R.length = 8):Each 11 (fsCells fs ps):=fun c hc=>by
 obtain ⟨i,hi⟩:=List.mem_iff_getElem?.1 hc
 obtain ⟨f,p,hf,_,rfl⟩:=zip_inv hi
 exact frCells_len p (h8 f (List.mem_of_getElem? hf))
theorem fsCells_one (fs:List Fr) (ps:List (Option Addr × Nat)):∀ c ∈ fsCells fs ps,∀ v ∈ c,v.oneCell' = true:=fun c hc=>by
 obtain ⟨i,hi⟩:=List.mem_iff_getElem?.1 hc
 obtain ⟨f,p,_,_,rfl⟩:=zip_inv hi
 exact frCells_one f p
theorem RowF.src {w:World} {A:Option Addr} {fs:List Fr} (h:RowF w A fs):∃ ps:List (Option Addr × Nat),ps.length = fs.length∧Src w A 11 (fsCells fs ps)∧(∀ f ∈ fs,f.R.length = 8)∧∀ (j:Nat) (f:Fr) (p:Option Addr × Nat),fs[j]? = some f→ps[j]? = some p→Row w p.1 f.S:=by
 by_cases hn:0 < fs.length
 ·obtain ⟨b,o,e,hl,hc⟩:=h hn
  obtain ⟨ps,hp,hps⟩:=list_of (n:=fs.length) (p:=fun j p=>∀ f,fs[j]? = some f→f.R.length = 8∧Cs w b (o+j * 11) (frCells f p)∧Row w p.1 f.S) (fun j hj=>by
   obtain ⟨p,h8,hcs,hr⟩:=(hc j _ (List.getElem?_eq_getElem hj)).cs
   exact ⟨p,fun f hf=>by rw [List.getElem?_eq_getElem hj] at hf;injection hf with hf;subst hf;exact ⟨h8,hcs,hr⟩⟩)
  have h8:∀ f ∈ fs,f.R.length = 8:=fun f hf=>by
   obtain ⟨j,hj⟩:=List.mem_iff_getElem?.1 hf
   obtain ⟨p,hpj⟩:=some_of hp hj
   exact (hps j p hpj f hj).1
  refine ⟨ps,hp,⟨fsCells_each h8,fsCells_one _ _,fun _=>⟨b,o,e,hl,fun i c hi=>?_⟩⟩,h8,fun j f p hf hpj=>(hps j p hpj f hf).2.2⟩
  obtain ⟨f,p,hf,hpj,rfl⟩:=zip_inv hi
  exact (hps i p hpj f hf).2.1
 ·obtain rfl:fs = []:=List.eq_nil_of_length_eq_zero (by omega)
  exact ⟨[],rfl,⟨fun c hc=>by simp [fsCells] at hc,fun c hc=>by simp [fsCells] at hc,fun hn=>by simp [fsCells] at hn⟩,fun f hf=>by simp at hf,fun j f p hf=>by simp at hf⟩
theorem Src.rowF {w:World} {A:Option Addr} {fs:List Fr} {ps:List (Option Addr × Nat)} (hp:ps.length = fs.length) (h8:∀ f ∈ fs,f.R.length = 8) (h:Src w A 11 (fsCells fs ps)) (hr:∀ (j:Nat) (f:Fr) (p:Option Addr × Nat),fs[j]? = some f→ps[j]? = some p→Row w p.1 f.S):RowF w A fs:=fun hn=>by
 obtain ⟨b,o,e,hl,hc⟩:=h.at_ (by rw [fsCells_len hp];exact hn)
 refine ⟨b,o,e,hl,fun j f hf=>?_⟩
 obtain ⟨p,hpj⟩:=some_of hp hf
 exact FrAt.mk (h8 f (List.mem_of_getElem? hf)) (hc j _ (zip_at hf hpj)) (hr j f p hf hpj)
structure Pq where
 AF:Option Addr
 cF:Nat
 AR:Option Addr
 cR:Nat
def coC (x:Co) (q:Pq):List Value:=coCells x (.slice q.AF x.F.length q.cF) (.slice q.AR x.ret.length q.cR)
def csCells (cs:List Co) (qs:List Pq):List (List Value):=List.zipWith coC cs qs
theorem csCells_len {cs:List Co} {qs:List Pq} (h:qs.length = cs.length):(csCells cs qs).length = cs.length:=by simp [csCells,h]
theorem csCells_each {cs:List Co} {qs:List Pq}:Each 7 (csCells cs qs):=fun c hc=>by
 obtain ⟨i,hi⟩:=List.mem_iff_getElem?.1 hc
 obtain ⟨f,p,hf,_,rfl⟩:=zip_inv hi
 rfl
theorem csCells_one (cs:List Co) (qs:List Pq):∀ c ∈ csCells cs qs,∀ v ∈ c,v.oneCell' = true:=fun c hc=>by
 obtain ⟨i,hi⟩:=List.mem_iff_getElem?.1 hc
 obtain ⟨f,p,_,_,rfl⟩:=zip_inv hi
 exact coCells_one _ _ _ _ _ _ _
theorem RowC.src4 {w:World} {A:Option Addr} {cs:List Co} (h:RowC w A cs):∃ qs:List Pq,qs.length = cs.length∧Src w A 7 (csCells cs qs)∧∀ (j:Nat) (x:Co) (q:Pq),cs[j]? = some x→qs[j]? = some q→RowF w q.AF x.F∧Row w q.AR x.ret∧(x.F.length≤q.cF∧x.ret.length≤q.cR):=by
 by_cases hn:0 < cs.length
 ·obtain ⟨b,o,e,hl,hc⟩:=h hn
  obtain ⟨qs,hp,hps⟩:=list_of (n:=cs.length) (p:=fun j q=>∀ x,cs[j]? = some x→Cs w b (o+j * 7) (coC x q)∧RowF w q.AF x.F∧Row w q.AR x.ret∧(x.F.length≤q.cF∧x.ret.length≤q.cR)) (fun j hj=>by
   obtain ⟨AF,AR,cF,cR,hcs,hr1,hr2⟩:=(hc j _ (List.getElem?_eq_getElem hj)).cs4
   exact ⟨⟨AF,cF,AR,cR⟩,fun x hx=>by rw [List.getElem?_eq_getElem hj] at hx;injection hx with hx;subst hx;exact ⟨hcs,hr1,hr2⟩⟩)
  refine ⟨qs,hp,⟨csCells_each,csCells_one _ _,fun _=>⟨b,o,e,hl,fun i c hi=>?_⟩⟩,fun j x q hx hq=>(hps j q hq x hx).2⟩
  obtain ⟨f,p,hf,hpj,rfl⟩:=zip_inv hi
  exact (hps i p hpj f hf).1
 ·obtain rfl:cs = []:=List.eq_nil_of_length_eq_zero (by omega)
  exact ⟨[],rfl,⟨fun c hc=>by simp [csCells] at hc,fun c hc=>by simp [csCells] at hc,fun hn=>by simp [csCells] at hn⟩,fun j f p hf=>by simp at hf⟩
theorem RowC.src {w:World} {A:Option Addr} {cs:List Co} (h:RowC w A cs):∃ qs:List Pq,qs.length = cs.length∧Src w A 7 (csCells cs qs)∧∀ (j:Nat) (x:Co) (q:Pq),cs[j]? = some x→qs[j]? = some q→RowF w q.AF x.F∧Row w q.AR x.ret:=by
 obtain ⟨qs,h1,h2,h3⟩:=h.src4
 exact ⟨qs,h1,h2,fun j x q hx hq=>⟨(h3 j x q hx hq).1,(h3 j x q hx hq).2.1⟩⟩
theorem Src.rowC {w:World} {A:Option Addr} {cs:List Co} {qs:List Pq} (hp:qs.length = cs.length) (h:Src w A 7 (csCells cs qs)) (hr:∀ (j:Nat) (x:Co) (q:Pq),cs[j]? = some x→qs[j]? = some q→RowF w q.AF x.F∧Row w q.AR x.ret∧(x.F.length≤q.cF∧x.ret.length≤q.cR)):RowC w A cs:=fun hn=>by
 obtain ⟨b,o,e,hl,hc⟩:=h.at_ (by rw [csCells_len hp];exact hn)
 refine ⟨b,o,e,hl,fun j x hx=>?_⟩
 obtain ⟨q,hqj⟩:=some_of hp hx
 obtain ⟨r1,r2,r3⟩:=hr j x q hx hqj
 exact CoAt.mk (hc j _ (zip_at hx hqj)) r1 r2 r3
open Go.RowKit
theorem set_same {α:Type} {l:List α} {k:Nat} {x:α} (h:l[k]? = some x):l.set k x = l:=by
 apply List.ext_getElem?
 intro j
 rw [List.getElem?_set]
 split
 ·rename_i e;subst e
  split
  ·exact h.symm
  ·rename_i hn;rw [List.getElem?_eq_none (by omega)]
 ·rfl
def setL:List Value→Nat→List Value→List Value
 | l,_,[]=>l
 | l,o,v :: vs=>setL (l.set o v) (o+1) vs
theorem setL_end:∀ (vs c:List Value) (r:Nat),r+vs.length = c.length→setL c r vs = c.take r++vs
 | [],c,r,h=>by
  simp at h
  simp [setL,h]
 | v :: vs,c,r,h=>by
  simp only [List.length_cons] at h
  rw [setL,setL_end vs (c.set r v) (r+1) (by simp;omega)]
  have hr:r < c.length:=by omega
  rw [List.take_add_one,List.take_set_of_le (Nat.le_refl _)]
  simp [hr]
theorem flat_setL {k:Nat}:∀ (vs:List Value) {css:List (List Value)} {i r:Nat} {c:List Value},Each k css→css[i]? = some c→r+vs.length≤k→setL css.flatten (i * k+r) vs = (css.set i (setL c r vs)).flatten
 | [],css,i,r,c,h,hc,hr=>by
  have:css.set i c = css:=by
   apply List.ext_getElem?
   intro j
   rw [List.getElem?_set]
   split
   ·rename_i e;subst e
    split
    ·exact hc.symm
    ·rename_i hn;rw [List.getElem?_eq_none (by omega)]
   ·rfl
  simp only [setL,this]
 | v :: vs,css,i,r,c,h,hc,hr=>by
  simp only [List.length_cons] at hr
  have hcl:c.length = k:=h c (List.mem_of_getElem? hc)
  rw [setL,flat_set h hc (by omega)]
  have hi:i < css.length:=(List.getElem?_eq_some_iff.1 hc).1
  have:=flat_setL (k:=k) vs (css:=css.set i (c.set r v)) (i:=i) (r:=r+1) (c:=c.set r v) (h.set i (by simpa using hcl)) (by rw [List.getElem?_set_self hi]) (by omega)
  rw [show i * k+r+1 = i * k+(r+1) by omega,this,List.set_set,setL]
theorem flat_put {k:Nat} {css:List (List Value)} {i:Nat} {vs:List Value} (h:Each k css) (hi:i < css.length) (hv:vs.length = k):setL css.flatten (i * k) vs = (css.set i vs).flatten:=by
 have hc:css[i]? = some css[i]:=List.getElem?_eq_getElem hi
 have:=flat_setL vs (r:=0) h hc (by omega)
 rw [Nat.add_zero] at this
 rw [this,setL_end _ _ _ (by rw [h _ (List.getElem_mem hi)];omega)]
 simp
theorem grow_trans {a b c:World} {row:Option Nat} (h:a.grownBy b row) (k:b.grownBy c row):a.grownBy c row :=
 ⟨k.os.trans h.os,k.tape.trans h.tape,k.output.trans h.output,Nat.le_trans h.size k.size,fun i hi hr=>(k.block i (Nat.lt_of_lt_of_le hi h.size) hr).trans (h.block i hi hr)⟩
theorem below_grow {B:Nat} {a b:World} {row:Option Nat} (h:a.grownBy b row) (hB:B≤a.heap.size) (hr:∀ k,row = some k→B≤k):Below B a b:=(Below.refl B a).grown h hB hr
theorem grow_set (w:World) (g j:Nat) (u:Value):w.grownBy (w.setCell ⟨g,j,none⟩ u) (some g) :=
 ⟨rfl,rfl,rfl,by simp [World.setCell],fun k _ hk=>heap_setCell_other w ⟨g,j,none⟩ k u (fun e=>hk (by rw [e]))⟩
theorem own_put7 {w:World} {base T g n cap i:Nat} {css:List (List Value)} (h:w.ownsRow base T 7 (.slice (some ⟨g,0,none⟩) n cap) n css.flatten) (he:Each 7 css) (hi:i < css.length) (v0 v1 v2 v3 v4 v5 v6:Value) :
  (((((((w.setCell ⟨g,i * 7,none⟩ v0).setCell ⟨g,i * 7+1,none⟩ v1).setCell ⟨g,i * 7+2,none⟩ v2).setCell ⟨g,i * 7+3,none⟩ v3).setCell ⟨g,i * 7+4,none⟩ v4).setCell ⟨g,i * 7+5,none⟩ v5).setCell ⟨g,i * 7+6,none⟩ v6).ownsRow base T 7 (.slice (some ⟨g,0,none⟩) n cap) n (css.set i [v0,v1,v2,v3,v4,v5,v6]).flatten ∧
  w.grownBy (((((((w.setCell ⟨g,i * 7,none⟩ v0).setCell ⟨g,i * 7+1,none⟩ v1).setCell ⟨g,i * 7+2,none⟩ v2).setCell ⟨g,i * 7+3,none⟩ v3).setCell ⟨g,i * 7+4,none⟩ v4).setCell ⟨g,i * 7+5,none⟩ v5).setCell ⟨g,i * 7+6,none⟩ v6) (some g):=by
 refine ⟨?_,?_⟩
 ·rw [← flat_put he hi (vs:=[v0,v1,v2,v3,v4,v5,v6]) rfl]
  exact ((((((h.stored _ v0).1.stored _ v1).1.stored _ v2).1.stored _ v3).1.stored _ v4).1.stored _ v5).1.stored _ v6 |>.1
 ·exact grow_trans (grow_trans (grow_trans (grow_trans (grow_trans (grow_trans (grow_set _ _ _ _) (grow_set _ _ _ _)) (grow_set _ _ _ _)) (grow_set _ _ _ _)) (grow_set _ _ _ _)) (grow_set _ _ _ _)) (grow_set _ _ _ _)
theorem own_put11 {w:World} {base T g n cap i:Nat} {css:List (List Value)} (h:w.ownsRow base T 11 (.slice (some ⟨g,0,none⟩) n cap) n css.flatten) (he:Each 11 css) (hi:i < css.length) (v0 v1 v2 v3 v4 v5 v6 v7 v8 v9 v10:Value) :
  (((((((((((w.setCell ⟨g,i * 11,none⟩ v0).setCell ⟨g,i * 11+1,none⟩ v1).setCell ⟨g,i * 11+2,none⟩ v2).setCell ⟨g,i * 11+3,none⟩ v3).setCell ⟨g,i * 11+4,none⟩ v4).setCell ⟨g,i * 11+5,none⟩ v5).setCell ⟨g,i * 11+6,none⟩ v6).setCell ⟨g,i * 11+7,none⟩ v7).setCell ⟨g,i * 11+8,none⟩ v8).setCell ⟨g,i * 11+9,none⟩ v9).setCell ⟨g,i * 11+10,none⟩ v10).ownsRow base T 11 (.slice (some ⟨g,0,none⟩) n cap) n (css.set i [v0,v1,v2,v3,v4,v5,v6,v7,v8,v9,v10]).flatten ∧
  w.grownBy (((((((((((w.setCell ⟨g,i * 11,none⟩ v0).setCell ⟨g,i * 11+1,none⟩ v1).setCell ⟨g,i * 11+2,none⟩ v2).setCell ⟨g,i * 11+3,none⟩ v3).setCell ⟨g,i * 11+4,none⟩ v4).setCell ⟨g,i * 11+5,none⟩ v5).setCell ⟨g,i * 11+6,none⟩ v6).setCell ⟨g,i * 11+7,none⟩ v7).setCell ⟨g,i * 11+8,none⟩ v8).setCell ⟨g,i * 11+9,none⟩ v9).setCell ⟨g,i * 11+10,none⟩ v10) (some g):=by
 refine ⟨?_,?_⟩
 ·rw [← flat_put he hi (vs:=[v0,v1,v2,v3,v4,v5,v6,v7,v8,v9,v10]) rfl]
  exact ((((((((((h.stored _ v0).1.stored _ v1).1.stored _ v2).1.stored _ v3).1.stored _ v4).1.stored _ v5).1.stored _ v6).1.stored _ v7).1.stored _ v8).1.stored _ v9).1.stored _ v10 |>.1
 ·exact grow_trans (grow_trans (grow_trans (grow_trans (grow_trans (grow_trans (grow_trans (grow_trans (grow_trans (grow_trans (grow_set _ _ _ _) (grow_set _ _ _ _)) (grow_set _ _ _ _)) (grow_set _ _ _ _)) (grow_set _ _ _ _)) (grow_set _ _ _ _)) (grow_set _ _ _ _)) (grow_set _ _ _ _)) (grow_set _ _ _ _)) (grow_set _ _ _ _)) (grow_set _ _ _ _)
def RowI (ok:Nat→Prop) (w:World) (A:Option Addr) (xs:List Int):Prop :=
 0 < xs.length→∃ b o,A = some ⟨b,o,none⟩∧ok b∧b < w.heap.size∧∀ j x,xs[j]? = some x→w.cell? ⟨b,o+j,none⟩ = some (.int .i64 x)
theorem RowI.row {ok:Nat→Prop} {w:World} {A:Option Addr} {xs:List Int} (h:RowI ok w A xs):Row w A xs:=fun hn=>by
 obtain ⟨b,o,e,_,hl,hc⟩:=h hn
 exact ⟨b,o,e,hl,hc⟩
theorem RowI.keep {ok:Nat→Prop} {w w':World} {A:Option Addr} {xs:List Int} (h:RowI ok w A xs) (hs:w.heap.size≤w'.heap.size) (hb:∀ b,b < w.heap.size→ok b→w'.heap[b]? = w.heap[b]?):RowI ok w' A xs:=fun hn=>by
 obtain ⟨b,o,e,hok,hl,hc⟩:=h hn
 exact ⟨b,o,e,hok,Nat.lt_of_lt_of_le hl hs,fun j x hx=>(World.cell?_of_block (hb b hl hok)).trans (hc j x hx)⟩
theorem RowI.mono {ok ok':Nat→Prop} {w:World} {A:Option Addr} {xs:List Int} (h:RowI ok w A xs) (hk:∀ b,b < w.heap.size→ok b→ok' b):RowI ok' w A xs:=fun hn=>by
 obtain ⟨b,o,e,hok,hl,hc⟩:=h hn
 exact ⟨b,o,e,hk b hl hok,hl,hc⟩
theorem own_rowI {w:World} {base T n:Nat} {v:Value} {xs:List Int} (h:w.ownsRow base T 1 v n (xs.map inCells).flatten) (hn:xs.length = n):∃ A c,v = .slice A n c∧RowI (fun b=>base≤b) w A xs:=by
 obtain ⟨A,c,rfl,hs⟩:=own_src h (fun c hc=>by obtain ⟨x,_,rfl⟩:=List.mem_map.1 hc;rfl) (by simpa using hn) (fun c hc v hv=>by
  obtain ⟨x,_,rfl⟩:=List.mem_map.1 hc
  simp [inCells] at hv;subst hv;rfl)
 refine ⟨A,c,rfl,fun hp=>?_⟩
 obtain ⟨b,o,rfl,hl,hc⟩:=hs.row hp
 exact ⟨b,o,rfl,(h.lt b rfl).1,hl,hc⟩
structure CoI (T:Nat) (ok:Nat→Prop) (w:World) (x:Co) (ps:List (Option Addr × Nat)) (vF vR:Value):Prop where
 pl:ps.length = x.F.length
 r8:∀ f ∈ x.F,f.R.length = 8
 fr:w.ownsRow 0 T 11 vF x.F.length (fsCells x.F ps).flatten
 okF:∀ g,vF.ownBlock = some g→ok g
 sr:∀ (j:Nat) (f:Fr) (p:Option Addr × Nat),x.F[j]? = some f→ps[j]? = some p→RowI (fun b=>ok b∧vF.ownBlock ≠ some b) w p.1 f.S
 rr:∃ A c,vR = .slice A x.ret.length c∧RowI (fun b=>ok b∧vF.ownBlock ≠ some b) w A x.ret
 rc:∀ (A:Option Addr) (n c:Nat),vR = .slice A n c→n≤c
theorem own_keep {w w':World} {base T k n:Nat} {v:Value} {xs:List Value} (h:w.ownsRow base T k v n xs) (hb:∀ g,v.ownBlock = some g→w'.heap[g]? = w.heap[g]?):w'.ownsRow base T k v n xs:=by
 refine ⟨h.1,?_⟩
 rcases h.2 with hn | ⟨g,cap,cur,rfl,hb',hg,rest⟩
 ·exact .inl hn
 ·exact .inr ⟨g,cap,cur,rfl,hb',(hb g rfl).trans hg,rest⟩
theorem CoI.keep {T:Nat} {ok:Nat→Prop} {w w':World} {x:Co} {ps:List (Option Addr × Nat)} {vF vR:Value} (h:CoI T ok w x ps vF vR) (hs:w.heap.size≤w'.heap.size) (hb:∀ b,b < w.heap.size→ok b→w'.heap[b]? = w.heap[b]?):CoI T ok w' x ps vF vR:=by
 obtain ⟨A,c,e,hr⟩:=h.rr
 exact ⟨h.pl,h.r8,own_keep h.fr (fun g hg=>hb g (h.fr.lt g hg).2 (h.okF g hg)),h.okF,fun j f p hf hp=>(h.sr j f p hf hp).keep hs (fun b hl hk=>hb b hl hk.1),⟨A,c,e,hr.keep hs (fun b hl hk=>hb b hl hk.1)⟩,h.rc⟩
theorem CoI.mono {T:Nat} {ok ok':Nat→Prop} {w:World} {x:Co} {ps:List (Option Addr × Nat)} {vF vR:Value} (h:CoI T ok w x ps vF vR) (hk:∀ b,b < w.heap.size→ok b→ok' b):CoI T ok' w x ps vF vR:=by
 obtain ⟨A,c,e,hr⟩:=h.rr
 exact ⟨h.pl,h.r8,h.fr,fun g hg=>hk g (h.fr.lt g hg).2 (h.okF g hg),fun j f p hf hp=>(h.sr j f p hf hp).mono (fun b hl ⟨h1,h2⟩=>⟨hk b hl h1,h2⟩),⟨A,c,e,hr.mono (fun b hl ⟨h1,h2⟩=>⟨hk b hl h1,h2⟩)⟩,h.rc⟩
theorem own_cap {w:World} {base T k n c:Nat} {A:Option Addr} {xs:List Value} (h:w.ownsRow base T k (.slice A n c) n xs):n≤c:=by
 rcases h.2 with ⟨e,h0⟩ | ⟨_,cap,_,e,_,_,h1,_⟩
 ·subst h0;exact Nat.zero_le _
 ·injection e with _ _ e;omega
theorem CoI.told {T:Nat} {ok:Nat→Prop} {w:World} {x:Co} {ps:List (Option Addr × Nat)} {vF vR:Value} (h:CoI T ok w x ps vF vR):∃ AF cF AR cR,vF = .slice AF x.F.length cF∧vR = .slice AR x.ret.length cR∧RowF w AF x.F∧Row w AR x.ret∧(x.F.length≤cF∧x.ret.length≤cR):=by
 obtain ⟨A,c,e,hr⟩:=h.rr
 obtain ⟨AF,cF,e1,hs⟩:=own_src h.fr (fsCells_each h.r8) (fsCells_len h.pl) (fsCells_one _ _)
 have hfr:=h.fr
 rw [e1] at hfr
 exact ⟨AF,cF,A,c,e1,e,Src.rowF h.pl h.r8 hs (fun j f p hf hp=>(h.sr j f p hf hp).row),hr.row,own_cap hfr,h.rc _ _ _ e⟩
structure Turn (p:Nat→Prop) (w w':World):Prop where
 os:w'.os = w.os
 tape:w'.tape = w.tape
 output:w'.output = w.output
 size:w.heap.size≤w'.heap.size
 block:∀ b,b < w.heap.size→¬ p b→w'.heap[b]? = w.heap[b]?
theorem Turn.refl (p:Nat→Prop) (w:World):Turn p w w:=⟨rfl,rfl,rfl,Nat.le_refl _,fun _ _ _=>rfl⟩
theorem Turn.trans {p:Nat→Prop} {a b c:World} (h:Turn p a b) (k:Turn p b c):Turn p a c :=
 ⟨k.os.trans h.os,k.tape.trans h.tape,k.output.trans h.output,Nat.le_trans h.size k.size,fun i hi hp=>(k.block i (Nat.lt_of_lt_of_le hi h.size) hp).trans (h.block i hi hp)⟩
theorem Turn.set {p:Nat→Prop} {a w:World} (h:Turn p a w) {g:Nat} (hp:p g) (j:Nat) (u:Value):Turn p a (w.setCell ⟨g,j,none⟩ u) :=
 h.trans ⟨rfl,rfl,rfl,by simp [World.setCell],fun b _ hb=>Below.heap_setCell w _ u b (fun e=>hb (by rw [e];exact hp))⟩
theorem Turn.alloc {p:Nat→Prop} {a w:World} (h:Turn p a w) (o:Obj):Turn p a (w.alloc o) :=
 h.trans ⟨rfl,rfl,rfl,by simp,fun b hb _=>Below.heap_alloc w o b hb⟩
theorem Turn.drew {p:Nat→Prop} {a w:World} (h:Turn p a w):Turn p a w.drew:=⟨h.os,h.tape,h.output,h.size,h.block⟩
theorem Turn.drewN {p:Nat→Prop} {a w:World} (h:Turn p a w) (n:Nat):Turn p a (w.drewN n):=⟨h.os,h.tape,h.output,h.size,h.block⟩
theorem Turn.below {p:Nat→Prop} {a b c:World} (h:Turn p a b) (k:Below b.heap.size b c):Turn p a c:=h.trans ⟨k.os,k.tape,k.output,k.size,fun i hi _=>k.block i hi⟩
theorem Turn.grown {p:Nat→Prop} {a b c:World} {row:Option Nat} (h:Turn p a b) (k:b.grownBy c row) (hr:∀ g,row = some g→p g):Turn p a c :=
 h.trans ⟨k.os,k.tape,k.output,k.size,fun i hi hp=>k.block i hi (fun e=>hp (hr i e.symm))⟩
theorem Turn.mono {p q:Nat→Prop} {a b:World} (h:Turn p a b) (hpq:∀ g,g < a.heap.size→p g→q g):Turn q a b:=⟨h.os,h.tape,h.output,h.size,fun i hi hq=>h.block i hi (fun hp=>hq (hpq i hi hp))⟩
theorem Turn.to_below {p:Nat→Prop} {a b:World} {B:Nat} (h:Turn p a b) (hB:B≤a.heap.size) (hp:∀ g,p g→B≤g):Below B a b :=
 ⟨h.os,h.tape,h.output,h.size,fun i hi=>h.block i (by omega) (fun q=>by have:=hp i q;omega)⟩
theorem Turn.cell {p:Nat→Prop} {a b:World} (h:Turn p a b) {g o:Nat} (hl:g < a.heap.size) (hg:¬ p g):b.cell? ⟨g,o,none⟩ = a.cell? ⟨g,o,none⟩:=World.cell?_of_block (h.block g hl hg)
theorem Turn.frozen {p:Nat→Prop} {a b:World} (h:Turn p a b) {g o:Nat} (hl:g < a.heap.size) (hg:¬ p g):b.frozen? ⟨g,o,none⟩ = a.frozen? ⟨g,o,none⟩:=World.frozen?_of_block (h.block g hl hg)
theorem RowI.turn {ok p:Nat→Prop} {w w':World} {A:Option Addr} {xs:List Int} (h:RowI ok w A xs) (t:Turn p w w') (hk:∀ b,b < w.heap.size→ok b→¬ p b):RowI ok w' A xs :=
 h.keep t.size (fun b hl ho=>t.block b hl (hk b hl ho))
theorem CoI.turn {T:Nat} {ok p:Nat→Prop} {w w':World} {x:Co} {ps:List (Option Addr × Nat)} {vF vR:Value} (h:CoI T ok w x ps vF vR) (t:Turn p w w') (hk:∀ b,b < w.heap.size→ok b→¬ p b):CoI T ok w' x ps vF vR :=
 h.keep t.size (fun b hl ho=>t.block b hl (hk b hl ho))
theorem own_turn {p:Nat→Prop} {w w':World} {base T k n:Nat} {v:Value} {xs:List Value} (h:w.ownsRow base T k v n xs) (t:Turn p w w') (hk:∀ g,v.ownBlock = some g→¬ p g):w'.ownsRow base T k v n xs :=
 own_keep h (fun g hg=>t.block g (h.lt g hg).2 (hk g hg))
open Go.RowKit
set_option linter.unusedVariables false
def csV (cs:List Co) (vs:List (Value × Value)):List (List Value):=List.zipWith (fun x v=>coCells x v.1 v.2) cs vs
theorem csV_len {cs:List Co} {vs:List (Value × Value)} (h:vs.length = cs.length):(csV cs vs).length = cs.length:=by simp [csV,h]
theorem csV_each {cs:List Co} {vs:List (Value × Value)}:Each 7 (csV cs vs):=fun c hc=>by
 obtain ⟨i,hi⟩:=List.mem_iff_getElem?.1 hc
 obtain ⟨f,p,hf,_,rfl⟩:=zip_inv hi
 rfl
structure Cl (s:Sy) (qs:List Pq) (lo:Nat) (vC:Value) (wm:World) (k:Nat) (wr:World):Prop where
 ex:∃ (vs:List (Value × Value)) (own:Nat→Nat),vs.length = s.C.length∧wr.ownsRow lo 39 7 vC s.C.length (csV s.C vs).flatten ∧
  ∀ (j:Nat) (x:Co) (v:Value × Value),s.C[j]? = some x→vs[j]? = some v→(j < k→∃ ps,CoI 60 (fun b=>wm.heap.size≤b∧own b = j) wr x ps v.1 v.2) ∧
   (k≤j→∃ q,qs[j]? = some q∧v = (.slice q.AF x.F.length q.cF,.slice q.AR x.ret.length q.cR))
 t:Turn (fun b=>vC.ownBlock = some b) wm wr
 gl:∀ g,vC.ownBlock = some g→lo≤g∧g < wm.heap.size
theorem Cl.start {s:Sy} {qs:List Pq} {lo:Nat} {vC:Value} {wm:World} (hq:qs.length = s.C.length) (ho:wm.ownsRow lo 39 7 vC s.C.length (csCells s.C qs).flatten):Cl s qs lo vC wm 0 wm:=by
 obtain ⟨vs,hl,hv⟩:=list_of (n:=s.C.length) (p:=fun j v=>∀ x q,s.C[j]? = some x→qs[j]? = some q→v = ((.slice q.AF x.F.length q.cF,.slice q.AR x.ret.length q.cR):Value × Value)) (fun j hj=>by
  obtain ⟨q,hqj⟩:=some_of hq (List.getElem?_eq_getElem hj)
  exact ⟨(.slice q.AF s.C[j].F.length q.cF,.slice q.AR s.C[j].ret.length q.cR),fun x q' hx hq'=>by
   rw [List.getElem?_eq_getElem hj] at hx
   injection hx with hx
   rw [hqj] at hq'
   injection hq' with hq'
   subst hx hq'
   rfl⟩)
 have e:csCells s.C qs = csV s.C vs:=by
  apply List.ext_getElem?
  intro j
  by_cases hj:j < s.C.length
  ·obtain ⟨q,hqj⟩:=some_of hq (List.getElem?_eq_getElem hj)
   obtain ⟨v,hvj⟩:=some_of hl (List.getElem?_eq_getElem hj)
   rw [csCells,csV,zip_at (List.getElem?_eq_getElem hj) hqj,zip_at (List.getElem?_eq_getElem hj) hvj,hv j v hvj _ _ (List.getElem?_eq_getElem hj) hqj]
   rfl
  ·rw [List.getElem?_eq_none (by rw [csCells_len hq];omega),List.getElem?_eq_none (by rw [csV_len hl];omega)]
 rw [e] at ho
 refine ⟨⟨vs,fun _=>0,hl,ho,fun j x v hx hvj=>⟨fun h=>by omega,fun _=>?_⟩⟩,Turn.refl _ _,ho.lt⟩
 obtain ⟨q,hqj⟩:=some_of hq hx
 exact ⟨q,hqj,hv j v hvj x q hx hqj⟩
theorem Cl.look {s:Sy} {qs:List Pq} {lo g cap:Nat} {wm wr:World} {k:Nat} (h:Cl s qs lo (.slice (some ⟨g,0,none⟩) s.C.length cap) wm k wr) {x:Co} (hx:s.C[k]? = some x) :
  ∃ q,qs[k]? = some q∧(∀ r v,(coC x q)[r]? = some v→wr.cell? ⟨g,k * 7+r,none⟩ = some v)∧(∀ j,wr.frozen? ⟨g,j,none⟩ = false):=by
 obtain ⟨⟨vs,own,hl,ho,hj⟩,t,_⟩:=h
 have hkl:k < s.C.length:=(List.getElem?_eq_some_iff.1 hx).1
 obtain ⟨v,hv⟩:=some_of hl hx
 obtain ⟨q,hq,e⟩:=(hj k x v hx hv).2 (Nat.le_refl _)
 refine ⟨q,hq,fun r u hu=>?_,ho.frozenAt⟩
 have hr:r < 7:=(List.getElem?_eq_some_iff.1 hu).1
 rw [ho.cellAt _ (by have:(k+1) * 7≤s.C.length * 7:=Nat.mul_le_mul_right _ hkl;omega)]
 exact flat_at csV_each (zip_at hx hv) (by rw [e];exact hu)
theorem Cl.next {s:Sy} {qs:List Pq} {lo g cap:Nat} {wm wr w3:World} {k:Nat} (h:Cl s qs lo (.slice (some ⟨g,0,none⟩) s.C.length cap) wm k wr) {x:Co} (hx:s.C[k]? = some x) (hb:Below wr.heap.size wr w3) {ps:List (Option Addr × Nat)} {vF vR:Value}
  (hc:CoI 60 (fun b=>wr.heap.size≤b) w3 x ps vF vR) :
  Cl s qs lo (.slice (some ⟨g,0,none⟩) s.C.length cap) wm (k+1) (((((((w3.setCell ⟨g,k * 7,none⟩ vF).setCell ⟨g,k * 7+1,none⟩ (.int .i64 x.v)).setCell ⟨g,k * 7+2,none⟩ (.int .i64 x.e)).setCell ⟨g,k * 7+3,none⟩ (.int .i64 x.x0)).setCell ⟨g,k * 7+4,none⟩ (.int .i64 x.x1)).setCell ⟨g,k * 7+5,none⟩ (.int .i64 x.x2)).setCell ⟨g,k * 7+6,none⟩ vR):=by
 obtain ⟨⟨vs,own,hl,ho,hj⟩,t,gl⟩:=h
 have hkl:k < s.C.length:=(List.getElem?_eq_some_iff.1 hx).1
 obtain ⟨v,hv⟩:=some_of hl hx
 obtain ⟨g1,g2⟩:=gl g rfl
 obtain ⟨h1,h2⟩:=own_put7 (own_step ho hb) csV_each (i:=k) (by rw [csV_len hl];exact hkl) vF (.int .i64 x.v) (.int .i64 x.e) (.int .i64 x.x0) (.int .i64 x.x1) (.int .i64 x.x2) vR
 have e:(csV s.C vs).set k [vF,.int .i64 x.v,.int .i64 x.e,.int .i64 x.x0,.int .i64 x.x1,.int .i64 x.x2,vR] = csV s.C (vs.set k (vF,vR)):=by
  have:=zip_set (f:=fun (x:Co) (v:Value × Value)=>coCells x v.1 v.2) (us:=s.C) (ys:=vs) (i:=k) (a:=x) (b:=(vF,vR))
  rw [set_same hx] at this
  exact this
 rw [e] at h1
 have hT:Turn (fun b=>Value.ownBlock (.slice (some ⟨g,0,none⟩) s.C.length cap) = some b) w3 _:=(Turn.refl _ _).grown h2 (fun b hb=>by simpa [Value.ownBlock] using hb)
 have hsz:wm.heap.size≤wr.heap.size:=t.size
 refine ⟨⟨vs.set k (vF,vR),fun b=>if b < wr.heap.size then own b else k,by simpa using hl,h1,fun j y u hy hu=>?_⟩,(t.below hb).trans hT,gl⟩
 by_cases ej:j = k
 ·subst ej
  rw [List.getElem?_set_self (by omega)] at hu
  injection hu with hu
  subst hu
  rw [hx] at hy
  injection hy with hy
  subst hy
  exact ⟨fun _=>⟨ps,(hc.mono (fun b _ hb=>⟨by omega,if_neg (by omega)⟩)).turn hT (fun b _ hb e=>by simp [Value.ownBlock] at e;omega)⟩,fun h=>by omega⟩
 ·rw [List.getElem?_set_ne (fun h=>ej h.symm)] at hu
  obtain ⟨a1,a2⟩:=hj j y u hy hu
  refine ⟨fun hjk=>?_,fun h=>a2 (by omega)⟩
  obtain ⟨ps',C⟩:=a1 (by omega)
  exact ⟨ps',((C.mono (fun b hl hb=>⟨hb.1,(if_pos hl).trans hb.2⟩)).keep hb.size (fun b hl _=>hb.block b hl)).turn hT (fun b _ hb e=>by simp [Value.ownBlock] at e;omega)⟩
structure SyI (s:Sy) (lo hm:Nat) (own:Nat→Nat) (vs:List (Value × Value)) (AW AG:Option Addr) (vC vL:Value) (w:World):Prop where
 len:vs.length = s.C.length
 wr:RowI (fun b=>lo≤b∧b < hm∧vC.ownBlock ≠ some b∧vL.ownBlock ≠ some b) w AW s.M.W
 gr:RowI (fun b=>lo≤b∧b < hm∧vC.ownBlock ≠ some b∧vL.ownBlock ≠ some b) w AG s.M.G
 co:w.ownsRow lo 39 7 vC s.C.length (csV s.C vs).flatten
 ev:w.ownsRow lo 103 5 vL s.L.length (s.L.map evCells).flatten
 cb:∀ g,vC.ownBlock = some g→g < hm∧vL.ownBlock ≠ some g
 eb:∀ g,vL.ownBlock = some g→g < hm
 ci:∀ (j:Nat) (x:Co) (v:Value × Value),s.C[j]? = some x→vs[j]? = some v→∃ ps,CoI 60 (fun b=>hm≤b∧own b = j) w x ps v.1 v.2
 lh:lo≤hm
 hw:hm≤w.heap.size
def RetCopy (w:World) (s:Sy) (e:Ending) (w':World):Prop :=
 ∃ (lo hm:Nat) (own:Nat→Nat) (vs:List (Value × Value)) (AW AG:Option Addr) (cW cG:Nat) (vC vL:Value),e = .returned (.agg #[.slice AW s.M.W.length cW,.slice AG s.M.G.length cG,.bool s.M.bad,vC,vL])∧w.heap.size≤lo∧SyI s lo hm own vs AW AG vC vL w'∧Below w.heap.size w w'
def RetSys (w:World) (s:Sy) (e:Ending) (w':World):Prop :=
 ∃ (A B AC AL:Option Addr) (c d cC cL:Nat),e = .returned (.agg #[.slice A s.M.W.length c,.slice B s.M.G.length d,.bool s.M.bad,.slice AC s.C.length cC,.slice AL s.L.length cL]) ∧
  Row w' A s.M.W∧Row w' B s.M.G∧RowC w' AC s.C∧RowE w' AL s.L∧Below w.heap.size w w'
theorem cs_told {w:World} {lo:Nat} {vC:Value} {cs:List Co} {vs:List (Value × Value)} (hl:vs.length = cs.length) (ho:w.ownsRow lo 39 7 vC cs.length (csV cs vs).flatten)
  (hc:∀ (j:Nat) (x:Co) (v:Value × Value),cs[j]? = some x→vs[j]? = some v→∃ AF cF AR cR,v.1 = .slice AF x.F.length cF∧v.2 = .slice AR x.ret.length cR∧RowF w AF x.F∧Row w AR x.ret∧(x.F.length≤cF∧x.ret.length≤cR)):∃ AC cC,vC = .slice AC cs.length cC∧RowC w AC cs:=by
 obtain ⟨qs,hq,hqs⟩:=list_of (n:=cs.length) (p:=fun j (q:Pq)=>∀ x v,cs[j]? = some x→vs[j]? = some v→v = ((.slice q.AF x.F.length q.cF,.slice q.AR x.ret.length q.cR):Value × Value)∧RowF w q.AF x.F∧Row w q.AR x.ret∧(x.F.length≤q.cF∧x.ret.length≤q.cR)) (fun j hj=>by
  obtain ⟨v,hv⟩:=some_of hl (List.getElem?_eq_getElem hj)
  obtain ⟨AF,cF,AR,cR,e1,e2,r1,r2⟩:=hc j _ v (List.getElem?_eq_getElem hj) hv
  refine ⟨⟨AF,cF,AR,cR⟩,fun x v' hx hv'=>?_⟩
  rw [List.getElem?_eq_getElem hj] at hx
  injection hx with hx
  rw [hv] at hv'
  injection hv' with hv'
  subst hx hv'
  exact ⟨Prod.ext e1 e2,r1,r2⟩)
 have e:csV cs vs = csCells cs qs:=by
  apply List.ext_getElem?
  intro j
  by_cases hj:j < cs.length
  ·obtain ⟨q,hqj⟩:=some_of hq (List.getElem?_eq_getElem hj)
   obtain ⟨v,hvj⟩:=some_of hl (List.getElem?_eq_getElem hj)
   rw [csCells,csV,zip_at (List.getElem?_eq_getElem hj) hqj,zip_at (List.getElem?_eq_getElem hj) hvj,(hqs j q hqj _ v (List.getElem?_eq_getElem hj) hvj).1]
   rfl
  ·rw [List.getElem?_eq_none (by rw [csV_len hl];omega),List.getElem?_eq_none (by rw [csCells_len hq];omega)]
 rw [e] at ho
 obtain ⟨A,c,e1,hs⟩:=own_src ho csCells_each (csCells_len hq) (csCells_one _ _)
 refine ⟨A,c,e1,Src.rowC hq hs (fun j x q hx hqj=>?_)⟩
 obtain ⟨v,hv⟩:=some_of hl hx
 exact (hqs j q hqj x v hx hv).2
theorem ev_told {w:World} {lo:Nat} {vL:Value} {es:List Evt} (ho:w.ownsRow lo 103 5 vL es.length (es.map evCells).flatten):∃ AL cL,vL = .slice AL es.length cL∧RowE w AL es:=by
 obtain ⟨A,c,e1,hs⟩:=own_src ho (fun c hc=>by obtain ⟨x,_,rfl⟩:=List.mem_map.1 hc;rfl) (by simp) (fun c hc v hv=>by obtain ⟨x,_,rfl⟩:=List.mem_map.1 hc;exact evCells_one x v hv)
 exact ⟨A,c,e1,hs.rowE⟩
theorem SyI.told {s:Sy} {lo hm:Nat} {own:Nat→Nat} {vs:List (Value × Value)} {AW AG:Option Addr} {vC vL:Value} {w0 w:World} (h:SyI s lo hm own vs AW AG vC vL w) (cW cG:Nat) (hb:Below w0.heap.size w0 w) :
  RetSys w0 s (.returned (.agg #[.slice AW s.M.W.length cW,.slice AG s.M.G.length cG,.bool s.M.bad,vC,vL])) w:=by
 obtain ⟨AC,cC,rfl,rC⟩:=cs_told h.len h.co (fun j x v hx hv=>by
  obtain ⟨ps,C⟩:=h.ci j x v hx hv
  exact C.told)
 obtain ⟨AL,cL,rfl,rL⟩:=ev_told h.ev
 exact ⟨_,_,_,_,_,_,_,_,rfl,h.wr.row,h.gr.row,rC,rL,hb⟩
theorem SyI.turn {s:Sy} {lo hm:Nat} {own:Nat→Nat} {vs:List (Value × Value)} {AW AG:Option Addr} {vC vL:Value} {w w':World} {p:Nat→Prop} (h:SyI s lo hm own vs AW AG vC vL w) (t:Turn p w w') (hp:∀ b,lo≤b→¬ p b):SyI s lo hm own vs AW AG vC vL w' :=
 ⟨h.len,h.wr.turn t (fun b _ hb=>hp b hb.1),h.gr.turn t (fun b _ hb=>hp b hb.1),own_turn h.co t (fun g hg=>hp g (h.co.lt g hg).1),own_turn h.ev t (fun g hg=>hp g (h.ev.lt g hg).1),h.cb,h.eb,
  fun j x v hx hv=>by
   obtain ⟨ps,C⟩:=h.ci j x v hx hv
   exact ⟨ps,C.turn t (fun b _ hb=>hp b (by have:=h.lh;omega))⟩,
  h.lh,Nat.le_trans h.hw t.size⟩
theorem Cl.done {s:Sy} {qs:List Pq} {lo k:Nat} {vC vL:Value} {AW AG:Option Addr} {wm wr:World} (h:Cl s qs lo vC wm k wr) (hk:s.C.length≤k) (hlo:lo≤wm.heap.size)
  (hW:RowI (fun b=>lo≤b∧vC.ownBlock ≠ some b∧vL.ownBlock ≠ some b) wm AW s.M.W) (hG:RowI (fun b=>lo≤b∧vC.ownBlock ≠ some b∧vL.ownBlock ≠ some b) wm AG s.M.G)
  (ev:wm.ownsRow lo 103 5 vL s.L.length (s.L.map evCells).flatten) (ne:∀ g,vL.ownBlock = some g→vC.ownBlock ≠ some g) :
  ∃ own vs,SyI s lo wm.heap.size own vs AW AG vC vL wr:=by
 obtain ⟨⟨vs,own,hl,ho,hj⟩,t,gl⟩:=h
 refine ⟨own,vs,hl,?_,?_,ho,own_turn ev t ne,fun g hg=>⟨(gl g hg).2,fun e=>ne g e hg⟩,fun g hg=>(ev.lt g hg).2,fun j x v hx hv=>?_,hlo,t.size⟩
 ·exact (hW.mono (fun b hl hb=>⟨hb.1,hl,hb.2⟩)).turn t (fun b _ hb=>hb.2.2.1)
 ·exact (hG.mono (fun b hl hb=>⟨hb.1,hl,hb.2⟩)).turn t (fun b _ hb=>hb.2.2.1)
 ·have hjl:j < s.C.length:=(List.getElem?_eq_some_iff.1 hx).1
  exact (hj j x v hx hv).1 (by omega)
open Go.RowKit
set_option linter.unusedVariables false
def syWith (s:Sy) (k:Nat) (x:Co):Sy:=⟨s.M,s.C.set k x,s.L⟩
def coBack (x:Co) (n:Nat) (v e:Int):Co:=⟨x.F.take n,v,e,x.x0,x.x1,x.x2,x.ret⟩
def coSet (x:Co) (n:Nat) (f:Fr):Co:=⟨x.F.set n f,x.v,x.e,x.x0,x.x1,x.x2,x.ret⟩
def coCall (x:Co) (f:Fr):Co:=⟨x.F++[f],x.v,x.e,x.x0,x.x1,x.x2,x.ret⟩
def syLog (s:Sy) (e:Evt):Sy:=⟨s.M,s.C,s.L++[e]⟩
theorem RowF.take {w:World} {A:Option Addr} {fs:List Fr} (h:RowF w A fs) (n:Nat):RowF w A (fs.take n):=fun hn=>by
 have hl:0 < fs.length:=by simp at hn;omega
 obtain ⟨b,o,e,hb,hc⟩:=h hl
 refine ⟨b,o,e,hb,fun j f hf=>hc j f ?_⟩
 have hj:j < n:=by
  have:=(List.getElem?_eq_some_iff.1 hf).1
  simp at this;omega
 rw [List.getElem?_take_of_lt hj] at hf
 exact hf
def ToldCo (w:World) (x:Co) (vF vR:Value):Prop:=∃ AF cF AR cR,vF = .slice AF x.F.length cF∧vR = .slice AR x.ret.length cR∧RowF w AF x.F∧Row w AR x.ret∧(x.F.length≤cF∧x.ret.length≤cR)
def Side (s:Sy) (lo hm:Nat) (own:Nat→Nat) (b:Nat):Prop:=b < lo ∨ (hm≤b∧own b = s.C.length)
theorem SyI.seal {s:Sy} {lo hm:Nat} {own:Nat→Nat} {vs:List (Value × Value)} {AW AG:Option Addr} {vC vL:Value} {w:World} (h:SyI s lo hm own vs AW AG vC vL w):SyI s lo hm (fun b=>if b < w.heap.size then own b else s.C.length) vs AW AG vC vL w :=
 ⟨h.len,h.wr,h.gr,h.co,h.ev,h.cb,h.eb,fun j x v hx hv=>by
  obtain ⟨ps,C⟩:=h.ci j x v hx hv
  exact ⟨ps,C.mono (fun b hl hb=>⟨hb.1,(if_pos hl).trans hb.2⟩)⟩,h.lh,h.hw⟩
theorem SyI.put {s:Sy} {lo hm:Nat} {own:Nat→Nat} {vs:List (Value × Value)} {AW AG:Option Addr} {vC vL:Value} {w w' w0:World} (h:SyI s lo hm own vs AW AG vC vL w) {k:Nat} {x x':Co} {vF vR vF' vR':Value} (hx:s.C[k]? = some x) (hv:vs[k]? = some (vF,vR))
  (t:Turn (fun b=>vC.ownBlock = some b ∨ vF.ownBlock = some b ∨ Side s lo hm own b) w w') (ho:w'.ownsRow lo 39 7 vC s.C.length ((csV s.C vs).set k (coCells x' vF' vR')).flatten) (ht:ToldCo w' x' vF' vR') (cW cG:Nat) (hb:Below w0.heap.size w0 w') :
  RetSys w0 (syWith s k x') (.returned (.agg #[.slice AW s.M.W.length cW,.slice AG s.M.G.length cG,.bool s.M.bad,vC,vL])) w':=by
 have hkl:k < s.C.length:=(List.getElem?_eq_some_iff.1 hx).1
 have hlen:=h.len
 obtain ⟨psk,Ck⟩:=h.ci k x _ hx hv
 have e:(csV s.C vs).set k (coCells x' vF' vR') = csV (s.C.set k x') (vs.set k (vF',vR')):=zip_set (f:=fun (x:Co) (v:Value × Value)=>coCells x v.1 v.2) (us:=s.C) (ys:=vs) (i:=k) (a:=x') (b:=(vF',vR'))
 rw [e] at ho
 have ho':w'.ownsRow lo 39 7 vC (s.C.set k x').length (csV (s.C.set k x') (vs.set k (vF',vR'))).flatten:=by simpa using ho
 obtain ⟨AC,cC,rfl,rC⟩:=cs_told (by simpa using hlen) ho' (fun j y v hy hvj=>by
  by_cases ej:j = k
  ·subst ej
   rw [List.getElem?_set_self hkl] at hy
   rw [List.getElem?_set_self (by omega)] at hvj
   injection hy with hy
   injection hvj with hvj
   subst hy hvj
   exact ht
  ·rw [List.getElem?_set_ne (fun h=>ej h.symm)] at hy hvj
   obtain ⟨ps,C⟩:=h.ci j y v hy hvj
   refine (C.turn t (fun b _ hbk hp=>?_)).told
   have hjl:=(List.getElem?_eq_some_iff.1 hy).1
   have hlh:=h.lh
   rcases hp with hp | hp | hp | hp
   ·have:=(h.cb b hp).1;omega
   ·have:=(Ck.okF b hp).2;omega
   ·omega
   ·omega)
 have tL:w'.ownsRow lo 103 5 vL s.L.length (s.L.map evCells).flatten:=own_turn h.ev t (fun g hg hp=>by
  have h1:=h.eb g hg
  have h3:=(h.ev.lt g hg).1
  rcases hp with hp | hp | hp | hp
  ·exact (h.cb g hp).2 hg
  ·have h2:=(Ck.okF g hp).1;omega
  ·omega
  ·omega)
 obtain ⟨AL,cL,rfl,rL⟩:=ev_told tL
 have tW:=h.wr.turn t (fun b _ hbk hp=>by
  rcases hp with hp | hp | hp | hp
  ·exact hbk.2.2.1 hp
  ·have h2:=(Ck.okF b hp).1;omega
  ·omega
  ·omega)
 have tG:=h.gr.turn t (fun b _ hbk hp=>by
  rcases hp with hp | hp | hp | hp
  ·exact hbk.2.2.1 hp
  ·have h2:=(Ck.okF b hp).1;omega
  ·omega
  ·omega)
 refine ⟨AW,AG,AC,AL,cW,cG,cC,cL,?_,tW.row,tG.row,rC,rL,hb⟩
 simp [syWith]
theorem SyI.log {s:Sy} {lo hm:Nat} {own:Nat→Nat} {vs:List (Value × Value)} {AW AG:Option Addr} {vC vL vL':Value} {w w' w0:World} (h:SyI s lo hm own vs AW AG vC vL w) (e:Evt)
  (t:Turn (fun b=>vL.ownBlock = some b ∨ Side s lo hm own b) w w') (ho:w'.ownsRow lo 103 5 vL' (s.L.length+1) ((s.L++[e]).map evCells).flatten) (cW cG:Nat) (hb:Below w0.heap.size w0 w') :
  RetSys w0 (syLog s e) (.returned (.agg #[.slice AW s.M.W.length cW,.slice AG s.M.G.length cG,.bool s.M.bad,vC,vL'])) w':=by
 have hlen:=h.len
 obtain ⟨AC,cC,rfl,rC⟩:=cs_told hlen (own_turn h.co t (fun g hg hp=>by
  have h1:=(h.co.lt g hg).1
  have h2:=(h.cb g hg).1
  rcases hp with hp | hp | hp
  ·exact (h.cb g hg).2 hp
  ·omega
  ·omega)) (fun j y v hy hvj=>by
  obtain ⟨ps,C⟩:=h.ci j y v hy hvj
  have hjl:=(List.getElem?_eq_some_iff.1 hy).1
  have hlh:=h.lh
  exact (C.turn t (fun b _ hbk hp=>by
   rcases hp with hp | hp | hp
   ·have:=h.eb b hp;omega
   ·omega
   ·omega)).told)
 have ho':w'.ownsRow lo 103 5 vL' (s.L++[e]).length ((s.L++[e]).map evCells).flatten:=by simpa using ho
 obtain ⟨AL,cL,rfl,rL⟩:=ev_told ho'
 have tW:=h.wr.turn t (fun b _ hbk hp=>by
  rcases hp with hp | hp | hp
  ·exact hbk.2.2.2 hp
  ·omega
  ·omega)
 have tG:=h.gr.turn t (fun b _ hbk hp=>by
  rcases hp with hp | hp | hp
  ·exact hbk.2.2.2 hp
  ·omega
  ·omega)
 refine ⟨AW,AG,AC,AL,cW,cG,cC,cL,?_,tW.row,tG.row,rC,rL,hb⟩
 simp [syLog]
theorem SyI.look {s:Sy} {lo hm:Nat} {own:Nat→Nat} {vs:List (Value × Value)} {AW AG:Option Addr} {vC vL:Value} {w:World} (h:SyI s lo hm own vs AW AG vC vL w) {k:Nat} {x:Co} (hx:s.C[k]? = some x) :
  ∃ (g cap:Nat) (AF AR:Option Addr) (cF cR:Nat) (ps:List (Option Addr × Nat)),vC = .slice (some ⟨g,0,none⟩) s.C.length cap∧vs[k]? = some (.slice AF x.F.length cF,.slice AR x.ret.length cR)∧lo≤g∧g < hm ∧
   CoI 60 (fun b=>hm≤b∧own b = k) w x ps (.slice AF x.F.length cF) (.slice AR x.ret.length cR) ∧
   (∀ r v,(coCells x (.slice AF x.F.length cF) (.slice AR x.ret.length cR))[r]? = some v→w.cell? ⟨g,k * 7+r,none⟩ = some v)∧∀ j,w.frozen? ⟨g,j,none⟩ = false:=by
 have hkl:k < s.C.length:=(List.getElem?_eq_some_iff.1 hx).1
 obtain ⟨v,hv⟩:=some_of h.len hx
 obtain ⟨ps,C⟩:=h.ci k x v hx hv
 obtain ⟨vF,vR⟩:=v
 obtain ⟨AF,cF,AR,cR,e1,e2,_,_⟩:=C.told
 dsimp only at e1 e2 C
 subst e1 e2
 obtain ⟨g,cap,e,hg,_⟩:=h.co.form (by omega)
 subst e
 have hco:=h.co
 refine ⟨g,cap,AF,AR,cF,cR,ps,rfl,hv,hg,(h.cb g rfl).1,C,fun r u hu=>?_,hco.frozenAt⟩
 have hr:r < 7:=(List.getElem?_eq_some_iff.1 hu).1
 rw [hco.cellAt _ (by have:(k+1) * 7≤s.C.length * 7:=Nat.mul_le_mul_right _ hkl;omega)]
 exact flat_at csV_each (zip_at hx hv) hu
theorem csV_set3 {s:Sy} {vs:List (Value × Value)} (hl:vs.length = s.C.length) {k:Nat} {x:Co} {vF vR:Value} (hx:s.C[k]? = some x) (hv:vs[k]? = some (vF,vR)) (a0 a1 a2:Value) :
  (((csV s.C vs).flatten.set (k * 7) a0).set (k * 7+1) a1).set (k * 7+2) a2 = ((csV s.C vs).set k [a0,a1,a2,.int .i64 x.x0,.int .i64 x.x1,.int .i64 x.x2,vR]).flatten:=by
 have h0:(csV s.C vs)[k]? = some (coCells x vF vR):=zip_at hx hv
 have hk:k < (csV s.C vs).length:=(List.getElem?_eq_some_iff.1 h0).1
 have:=flat_setL (k:=7) [a0,a1,a2] (r:=0) (csV_each (cs:=s.C) (vs:=vs)) h0 (by simp)
 rw [Nat.add_zero] at this
 exact this
theorem csV_set1 {s:Sy} {vs:List (Value × Value)} (hl:vs.length = s.C.length) {k:Nat} {x:Co} {vF vR:Value} (hx:s.C[k]? = some x) (hv:vs[k]? = some (vF,vR)) (a0:Value) :
  ((csV s.C vs).flatten.set (k * 7) a0) = ((csV s.C vs).set k (coCells x a0 vR)).flatten:=by
 have h0:(csV s.C vs)[k]? = some (coCells x vF vR):=zip_at hx hv
 have:=flat_setL (k:=7) [a0] (r:=0) (csV_each (cs:=s.C) (vs:=vs)) h0 (by simp)
 rw [Nat.add_zero] at this
 exact this
open Go.RowKit
set_option linter.unusedVariables false
def RetSysN (w:World) (s:Sy) (e:Ending) (w':World):Prop:=(∀ w'',Turn (fun b=>b < w.heap.size) w' w''→RetSys w'' s e w'')∧Below w.heap.size w w'
theorem retN {p:Nat→Prop} {w wm w':World} {s:Sy} {e:Ending} (key:∀ w',Turn (fun b=>p b ∨ b < w.heap.size) wm w'→RetSys w' s e w') (t:Turn p wm w') (hb:Below w.heap.size w w'):RetSysN w s e w' :=
 ⟨fun w'' t2=>key w'' ((t.mono (fun _ _ h=>.inl h)).trans (t2.mono (fun _ _ h=>.inr h))),hb⟩
theorem RetSysN.weak {w w':World} {s:Sy} {e:Ending} (h:RetSysN w s e w'):RetSys w s e w':=by
 obtain ⟨A,B,C,L,a,b,c,d,e1,r1,r2,r3,r4,_⟩:=h.1 w' (Turn.refl _ _)
 exact ⟨A,B,C,L,a,b,c,d,e1,r1,r2,r3,r4,h.2⟩
open Go.RowKit
set_option linter.unusedVariables false
def NoInt (w:World) (b:Nat):Prop:=∀ o n,w.cell? ⟨b,o,none⟩ ≠ some (.int .i64 n)
theorem noInt_sys {w:World} {b:Nat} {A B C D:Option Addr} {n1 n2 n3 n4 c1 c2 c3 c4:Nat} {z:Bool} {T:Nat} (h:w.heap[b]? = some (.cells #[.slice A n1 c1,.slice B n2 c2,.bool z,.slice C n3 c3,.slice D n4 c4] T (0,0))):NoInt w b:=fun o n hc=>by
 rw [cell_of_row w b o _ _ _ h] at hc
 match o,hc with
 | 0,hc=>cases hc
 | 1,hc=>cases hc
 | 2,hc=>cases hc
 | 3,hc=>cases hc
 | 4,hc=>cases hc
 | o+5,hc=>simp at hc
theorem Row.turnN {w w':World} {A:Option Addr} {xs:List Int} {b:Nat} (h:Row w A xs) (t:Turn (fun x=>x = b) w w') (hn:NoInt w b):Row w' A xs:=fun hp=>by
 obtain ⟨g,o,e,hl,hc⟩:=h hp
 have hg:g ≠ b:=fun e'=>by
  subst e'
  exact hn _ _ (hc 0 _ (List.getElem?_eq_getElem hp))
 exact ⟨g,o,e,Nat.lt_of_lt_of_le hl t.size,fun j x hx=>(t.cell hl hg).trans (hc j x hx)⟩
theorem FrAt.turnN {w w':World} {g o b:Nat} {f:Fr} (h:FrAt w g o f) (hl:g < w.heap.size) (t:Turn (fun x=>x = b) w w') (hn:NoInt w b) (hg:g ≠ b):FrAt w' g o f:=by
 obtain ⟨h0,h1,h2,h3,A,c,h4,h5⟩:=h
 exact ⟨h0,(t.cell hl hg).trans h1,(t.cell hl hg).trans h2,fun k hk=>(t.cell hl hg).trans (h3 k hk),A,c,(t.cell hl hg).trans h4,h5.turnN t hn⟩
theorem RowF.turnN {w w':World} {A:Option Addr} {fs:List Fr} {b:Nat} (h:RowF w A fs) (t:Turn (fun x=>x = b) w w') (hn:NoInt w b):RowF w' A fs:=fun hp=>by
 obtain ⟨g,o,e,hl,hc⟩:=h hp
 have hg:g ≠ b:=fun e'=>by
  subst e'
  exact hn _ _ (hc 0 _ (List.getElem?_eq_getElem hp)).2.1
 exact ⟨g,o,e,Nat.lt_of_lt_of_le hl t.size,fun j f hf=>(hc j f hf).turnN hl t hn hg⟩
theorem RowC.turnN {w w':World} {A:Option Addr} {cs:List Co} {b:Nat} (h:RowC w A cs) (t:Turn (fun x=>x = b) w w') (hn:NoInt w b):RowC w' A cs:=fun hp=>by
 obtain ⟨g,o,e,hl,hc⟩:=h hp
 have hg:g ≠ b:=fun e'=>by
  subst e'
  exact hn _ _ (hc 0 _ (List.getElem?_eq_getElem hp)).2.1
 refine ⟨g,o,e,Nat.lt_of_lt_of_le hl t.size,fun j x hx=>?_⟩
 obtain ⟨⟨A1,c1,h0,h1,hq⟩,h2,h3,h4,h5,h6,A2,c2,h7,h8⟩:=hc j x hx
 exact ⟨⟨A1,c1,(t.cell hl hg).trans h0,h1.turnN t hn,hq.1,fun A n c e=>hq.2 A n c ((t.cell hl hg).symm.trans e)⟩,(t.cell hl hg).trans h2,(t.cell hl hg).trans h3,(t.cell hl hg).trans h4,(t.cell hl hg).trans h5,(t.cell hl hg).trans h6,A2,c2,(t.cell hl hg).trans h7,h8.turnN t hn⟩
theorem RowE.turnN {w w':World} {A:Option Addr} {es:List Evt} {b:Nat} (h:RowE w A es) (t:Turn (fun x=>x = b) w w') (hn:NoInt w b):RowE w' A es:=fun hp=>by
 obtain ⟨g,o,e,hl,hc⟩:=h hp
 have hg:g ≠ b:=fun e'=>by
  subst e'
  exact hn _ _ (hc 0 _ (List.getElem?_eq_getElem hp)).1
 refine ⟨g,o,e,Nat.lt_of_lt_of_le hl t.size,fun j x hx=>?_⟩
 obtain ⟨h0,h1,h2,h3,h4⟩:=hc j x hx
 exact ⟨(t.cell hl hg).trans h0,(t.cell hl hg).trans h1,(t.cell hl hg).trans h2,(t.cell hl hg).trans h3,(t.cell hl hg).trans h4⟩
theorem ret_store {w0 w w':World} {s:Sy} {A B AC AL:Option Addr} {c d cC cL b:Nat} (hW:Row w A s.M.W) (hG:Row w B s.M.G) (hC:RowC w AC s.C) (hL:RowE w AL s.L) (t:Turn (fun x=>x = b) w w') (hn:NoInt w b) (hb:Below w0.heap.size w0 w') :
  RetSys w0 s (.returned (.agg #[.slice A s.M.W.length c,.slice B s.M.G.length d,.bool s.M.bad,.slice AC s.C.length cC,.slice AL s.L.length cL])) w' :=
 ⟨A,B,AC,AL,c,d,cC,cL,rfl,hW.turnN t hn,hG.turnN t hn,hC.turnN t hn,hL.turnN t hn,hb⟩
end Go.Proofs.YtfipcdhodojodaaGreat
namespace Go.Proofs.YtfipcdhodojodaaGreat
section
variable {P:Program} (w:World)
end
end Go.Proofs.YtfipcdhodojodaaGreat
namespace Go.Proofs.YtfipcdhodojodaaGreat
open Go
theorem i64_mask (k:Nat) (hk:k < 63) (m:Int) (hm:(BitVec.ofInt 64 m).toNat = 2 ^ k - 1) (n:Int):bits .and .i64 n m = n % 2 ^ k:=by
 have key:(BitVec.ofInt 64 n &&& BitVec.ofInt 64 m).toNat = (n % ((2 ^ 64:Nat):Int)).toNat % 2 ^ k:=by
  rw [BitVec.toNat_and,BitVec.toNat_ofInt,hm,Nat.and_two_pow_sub_one_eq_mod]
 show IntKind.i64.wrap ((BitVec.ofInt 64 n &&& BitVec.ofInt 64 m).toNat:Nat) = n % 2 ^ k
 rw [key]
 have hp:(2:Int) ^ 64 = 2 ^ k * 2 ^ (64 - k):=by rw [← Int.pow_add];congr 1;omega
 have h0:0≤n % 2 ^ 64:=Int.emod_nonneg _ (by decide)
 have hkp:(0:Int) < 2 ^ k:=Int.pow_pos (by decide)
 have e1:(((n % ((2 ^ 64:Nat):Int)).toNat % 2 ^ k:Nat):Int) = n % 2 ^ k:=by
  have c1:((2 ^ k:Nat):Int) = 2 ^ k:=by simp
  have c2:((2 ^ 64:Nat):Int) = 2 ^ 64:=rfl
  rw [Int.natCast_emod,c2,Int.toNat_of_nonneg h0,c1,hp]
  exact Int.emod_emod_of_dvd n ⟨_,rfl⟩
 rw [e1]
 have h1:0≤n % 2 ^ k:=Int.emod_nonneg _ (by omega)
 have h2:n % 2 ^ k < 2 ^ k:=Int.emod_lt_of_pos _ hkp
 have h3:(2:Int) ^ k < 2 ^ 63:=Int.pow_lt_pow_of_lt (by decide) hk
 rw [IntKind.wrap_i64]
 omega
theorem mask1 (n:Int):bits .and .i64 n 1 = n % 2:=i64_mask 1 (by decide) 1 (by decide) n
theorem mask20 (n:Int):bits .and .i64 n 1048575 = n % 1048576:=i64_mask 20 (by decide) 1048575 (by decide) n
theorem mask40 (n:Int):bits .and .i64 n 1099511627775 = n % 1099511627776:=i64_mask 40 (by decide) 1099511627775 (by decide) n
theorem mask61 (n:Int):bits .and .i64 n 2305843009213693951 = n % 2305843009213693952:=i64_mask 61 (by decide) 2305843009213693951 (by decide) n
theorem wraps_i63 (n:Int) (h0:0≤n) (h1:n < 2 ^ 63):IntKind.i64.wrap n = n:=by rw [IntKind.wrap_i64];omega
theorem join20 (x y:Int) (hx0:0≤x) (hx:x % 1048576 = 0) (hx1:x < 9223372036854775808) (h0:0≤y) (h1:y < 1048576):bits .or .i64 x y = x+y :=
 bits_join .i64 63 (by decide) wraps_i63 20 x y hx0 hx hx1 h0 h1 (by omega)
theorem join1 (x y:Int) (hx0:0≤x) (hx:x % 2 = 0) (hx1:x < 9223372036854775808) (h0:0≤y) (h1:y < 2):bits .or .i64 x y = x+y :=
 bits_join .i64 63 (by decide) wraps_i63 1 x y hx0 hx hx1 h0 h1 (by omega)
def pIdx (w:Int):Int:=w / 2 % 1048576
def pTag (w:Int):Int:=w / 2097152 % 1099511627776
def pWord (t i m:Int):Int:=t * 2097152+i * 2+m
def pNext (w i m:Int):Int:=pWord ((pTag w+1) % 1099511627776) (i % 1048576) (m % 2)
def pFit (n:Int) (k:Int):Bool:=n % k == n
def pOk (t i m:Int):Bool:=pFit t 1099511627776 && pFit i 1048576 && pFit m 2
theorem pTag_bd (w:Int):0≤pTag w∧pTag w < 1099511627776:=by unfold pTag;omega
theorem pFit_iff (n k:Int) (hk:0 < k):pFit n k = true ↔ 0≤n∧n < k:=by
 unfold pFit
 rw [beq_iff_eq]
 constructor
 ·intro h
  exact ⟨by rw [← h];exact Int.emod_nonneg _ (by omega),by rw [← h];exact Int.emod_lt_of_pos _ hk⟩
 ·intro h;exact Int.emod_eq_of_lt h.1 h.2
theorem pOk_iff (t i m:Int):pOk t i m = true ↔ (0≤t∧t < 1099511627776)∧(0≤i∧i < 1048576)∧(0≤m∧m < 2):=by
 unfold pOk
 rw [Bool.and_eq_true,Bool.and_eq_true,pFit_iff _ _ (by decide),pFit_iff _ _ (by decide),pFit_iff _ _ (by decide)]
 constructor
 ·rintro ⟨⟨a,b⟩,c⟩;exact ⟨a,b,c⟩
 ·rintro ⟨a,b,c⟩;exact ⟨⟨a,b⟩,c⟩
theorem pTag_word (t i m:Int) (ht:0≤t∧t < 1099511627776) (hi:0≤i∧i < 1048576) (hm:0≤m∧m < 2):pTag (pWord t i m) = t:=by
 unfold pTag pWord;omega
theorem pIdx_word (t i m:Int) (hi:0≤i∧i < 1048576) (hm:0≤m∧m < 2):pIdx (pWord t i m) = i:=by
 unfold pIdx pWord;omega
end Go.Proofs.YtfipcdhodojodaaGreat
namespace Go.Proofs.YtfipcdhodojodaaGreat
open Go.ChangeShapes Go.WideShapes Go.ChangeAt Go.RowKit
def rowedAll (P:Program) (ts:List TypeId):Bool:=ts.all fun t=>P.readableRec t && decide (t < P.types.size)
theorem trodAll_below {H:Type} {enc:TypeId × Value→H} {P:Program} (hl:laidOutB P = true) {W W':World} (hb:Below W.heap.size W W') :
  ∀ {ts:List TypeId} {vs:List Value} {ds:List (DataW H)} {ps:List MemPlace},rowedAll P ts = true→(∀ x ∈ ps,x.block < W.heap.size) →
   DataW.TrodAll enc P W 0 (fun _=>true) true ts vs ds ps→DataW.TrodAll enc P W' 0 (fun b=>decide (b < W.heap.size)) true ts vs ds ps
 | [],_,_,_,_,_,h=>by
  obtain ⟨rfl,rfl,rfl⟩:=trodAll_nil h
  exact trodAll_mk0
 | t :: ts,_,_,_,hr,hlt,h=>by
  obtain ⟨v,vs,d,ds,p,q,rfl,rfl,rfl,h0,h1⟩:=trodAll_cons h
  simp only [rowedAll,List.all_cons,Bool.and_eq_true,decide_eq_true_eq] at hr
  exact trodAll_cons_mk (Below.trod hl hr.1.1 hr.1.2 h0 hb fun x hx=>hlt x (by simp [hx]))
   (trodAll_below hl hb hr.2 (fun x hx=>hlt x (by simp [hx])) h1)
theorem law_post {H:Type} {enc:TypeId × Value→H} {P:Program} {f:Func} {s:ChangeSpec} {W W':World} {args:Array Value} {ds gs:List (DataW H)} {before:List MemPlace} {tb:TypeId}
  (hl:laidOutB P = true) (hp:rowedAll P f.params.toList = true) (hr:f.resultTypes = #[tb]) (hu:P.underlying tb = some .bool) (hv:s.vars = [])
  (hW:DataW.Whole enc P f.params.toList s.vars false W args.toList ds gs before)
  (hs:s.fn H (ds++gs) = { results:=[.lit (.bool true)],args:=ds,vars:=[] }) (hb:Below W.heap.size W W') :
  s.post enc P f false true false false W args (.bool true) W':=by
 have hlt:∀ x ∈ before,x.block < W.heap.size:=fun x hx=>hW.lt x hx
 have hW':=hW
 obtain ⟨p,q,hA,hV,rfl,_,_⟩:=hW
 refine ⟨ds,gs,p++q,[],p,[],hW',?_,?_,?_,hb.frame _,nofun⟩
 ·rw [hs,hr]
  exact trodAll_cons_mk (shut_bool hu _) trodAll_mk0
 ·rw [hs]
  exact trodAll_below hl hb hp (fun x hx=>hlt x (by simp [hx])) hA
 ·rw [hs,hv]
  exact rfl
theorem cf5 {w:World} {b T:Nat} {x0 x1 x2 x3 x4:Value} {l:List Value} (h:w.heap[b]? = some (.cells (x0 :: x1 :: x2 :: x3 :: x4 :: l).toArray T (0,0))):w.cell? ⟨b,0,none⟩ = some x0∧w.cell? ⟨b,1,none⟩ = some x1∧w.cell? ⟨b,2,none⟩ = some x2∧w.cell? ⟨b,3,none⟩ = some x3∧w.cell? ⟨b,4,none⟩ = some x4∧w.frozen? ⟨b,0,none⟩ = false∧w.frozen? ⟨b,1,none⟩ = false∧w.frozen? ⟨b,2,none⟩ = false∧w.frozen? ⟨b,3,none⟩ = false∧w.frozen? ⟨b,4,none⟩ = false :=
 ⟨cell_of_row w b 0 _ _ _ h,cell_of_row w b 1 _ _ _ h,cell_of_row w b 2 _ _ _ h,cell_of_row w b 3 _ _ _ h,cell_of_row w b 4 _ _ _ h,frozen_of_row w b 0 _ _ h,frozen_of_row w b 1 _ _ h,frozen_of_row w b 2 _ _ h,frozen_of_row w b 3 _ _ h,frozen_of_row w b 4 _ _ h⟩
theorem cf11 {w:World} {b T:Nat} {x0 x1 x2 x3 x4 x5 x6 x7 x8 x9 x10:Value} {l:List Value} (h:w.heap[b]? = some (.cells (x0 :: x1 :: x2 :: x3 :: x4 :: x5 :: x6 :: x7 :: x8 :: x9 :: x10 :: l).toArray T (0,0))):w.cell? ⟨b,0,none⟩ = some x0∧w.cell? ⟨b,1,none⟩ = some x1∧w.cell? ⟨b,2,none⟩ = some x2∧w.cell? ⟨b,3,none⟩ = some x3∧w.cell? ⟨b,4,none⟩ = some x4∧w.cell? ⟨b,5,none⟩ = some x5∧w.cell? ⟨b,6,none⟩ = some x6∧w.cell? ⟨b,7,none⟩ = some x7∧w.cell? ⟨b,8,none⟩ = some x8∧w.cell? ⟨b,9,none⟩ = some x9∧w.cell? ⟨b,10,none⟩ = some x10∧w.frozen? ⟨b,0,none⟩ = false∧w.frozen? ⟨b,1,none⟩ = false∧w.frozen? ⟨b,2,none⟩ = false∧w.frozen? ⟨b,3,none⟩ = false∧w.frozen? ⟨b,4,none⟩ = false∧w.frozen? ⟨b,5,none⟩ = false∧w.frozen? ⟨b,6,none⟩ = false∧w.frozen? ⟨b,7,none⟩ = false∧w.frozen? ⟨b,8,none⟩ = false∧w.frozen? ⟨b,9,none⟩ = false∧w.frozen? ⟨b,10,none⟩ = false :=
 ⟨cell_of_row w b 0 _ _ _ h,cell_of_row w b 1 _ _ _ h,cell_of_row w b 2 _ _ _ h,cell_of_row w b 3 _ _ _ h,cell_of_row w b 4 _ _ _ h,cell_of_row w b 5 _ _ _ h,cell_of_row w b 6 _ _ _ h,cell_of_row w b 7 _ _ _ h,cell_of_row w b 8 _ _ _ h,cell_of_row w b 9 _ _ _ h,cell_of_row w b 10 _ _ _ h,frozen_of_row w b 0 _ _ h,frozen_of_row w b 1 _ _ h,frozen_of_row w b 2 _ _ h,frozen_of_row w b 3 _ _ h,frozen_of_row w b 4 _ _ h,frozen_of_row w b 5 _ _ h,frozen_of_row w b 6 _ _ h,frozen_of_row w b 7 _ _ h,frozen_of_row w b 8 _ _ h,frozen_of_row w b 9 _ _ h,frozen_of_row w b 10 _ _ h⟩

/-- A system's cells, an empty one's, a frame's. -/
abbrev uS (A B C L:Option Addr) (a b c d:Nat) (s:Sy):Array Value:=#[.slice A s.M.W.length a,.slice B s.M.G.length b,.bool s.M.bad,.slice C s.C.length c,.slice L s.L.length d]
abbrev uZ:Array Value:=#[.slice none 0 0,.slice none 0 0,.bool false,.slice none 0 0,.slice none 0 0]
abbrev uF (p0 p1 p2 p3 p4 p5 p6 p7 p8 p9:Int) (A:Option Addr) (xs:List Int) (c:Nat):Array Value:=#[.int .i64 p0,.int .i64 p1,.int .i64 p2,.int .i64 p3,.int .i64 p4,.int .i64 p5,.int .i64 p6,.int .i64 p7,.int .i64 p8,.int .i64 p9,.slice A xs.length c]
end Go.Proofs.YtfipcdhodojodaaGreat
