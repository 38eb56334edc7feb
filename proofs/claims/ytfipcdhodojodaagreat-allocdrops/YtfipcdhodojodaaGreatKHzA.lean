/- Layer 5 as plain functions: slots, what is named, a step of a core. No Go text. -/
import Derived.Test.YtfipcdhodojodaaGreatKStA
import Derived.Test.YtfipcdhodojodaaGreatStk6
namespace Go.Proofs.YtfipcdhodojodaaGreat
open Go.RowKit
set_option linter.unusedVariables false
def pPlace (i k:Int):Int:=wrap64 (8+3 * i+k)
theorem pPlace_bd (i k:Int):-9223372036854775808≤pPlace i k∧pPlace i k≤9223372036854775807:=wrap64_bd _
def W64 (n:Int):Prop:=-9223372036854775808≤n∧n≤9223372036854775807
def pProt (s:Sy) (i:Int) (f:Fr) (d:Sy):Sy :=
 if f.pc = 0 then
  if pIdx (mVal s.M (f.R.getD 0 0)) = 0 then pBack (syMem s (mLoad s.M (f.R.getD 0 0))) i (mVal s.M (f.R.getD 0 0)) 0
  else pSet (syMem s (mLoad s.M (f.R.getD 0 0))) i ⟨f.op,1,f.R.set 2 (mVal s.M (f.R.getD 0 0)),f.S⟩
 else if f.pc = 1 then pSet (syMem s (mStore s.M (pPlace i (f.R.getD 1 0)) (pIdx (f.R.getD 2 0)))) i ⟨f.op,2,f.R,f.S⟩
 else if f.pc = 2 then
  if mVal s.M (f.R.getD 0 0) = f.R.getD 2 0 ∨ pIdx (mVal s.M (f.R.getD 0 0)) = 0 then pBack (syMem s (mLoad s.M (f.R.getD 0 0))) i (mVal s.M (f.R.getD 0 0)) 0
  else pSet (syMem s (mLoad s.M (f.R.getD 0 0))) i ⟨f.op,1,(f.R.set 3 (mVal s.M (f.R.getD 0 0))).set 2 (mVal s.M (f.R.getD 0 0)),f.S⟩
 else d
def pClr (s:Sy) (i:Int) (f:Fr) (d:Sy):Sy :=
 if f.pc < 0 ∨ 2 < f.pc then d
 else if f.pc = 2 then pBack (syMem s (mStore s.M (pPlace i 2) 0)) i 0 0
 else pSet (syMem s (mStore s.M (pPlace i f.pc) 0)) i ⟨f.op,f.pc+1,f.R,f.S⟩
def pHaz (s:Sy) (i:Int):Sy:=match pTop s i with
 | none=>s
 | some f=>if f.op = 3 then pProt s i f s else if f.op = 4 then pClr s i f s else s
def pNote (bs:List Bool) (p:Int):List Bool:=if 0 < p∧p < (bs.length:Int) then bs.set p.toNat true else bs
theorem pNote_len (bs:List Bool) (p:Int):(pNote bs p).length = bs.length:=by unfold pNote;split <;> simp
set_option linter.unusedSimpArgs false
theorem wrap_pl (i k:Int):wrap64 (wrap64 (8+wrap64 (3 * i))+k) = pPlace i k:=by unfold pPlace wrap64;omega
theorem place_w (i k:Int) (w:World):Calls Tryz.prog 108 #[.int .i64 i,.int .i64 k] w fun e w'=>e = .returned (.int .i64 (pPlace i k))∧w = w':=by
 go_enter Tryz.func108,Tryz.ntmps108
 go_wp2
 go_ret
 exact ⟨ret_int (wrap_pl i k),rfl⟩
theorem rplace_w (i k:Int) (w:World):Calls Tryz.prog 12 #[.int .i64 i,.int .i64 k] w fun e w'=>e = .returned (.int .i64 (pPlace i k))∧w = w':=by
 go_enter Tryz.func12,Tryz.ntmps12
 go_wp2
 go_ret
 exact ⟨ret_int (wrap_pl i k),rfl⟩
theorem own5_any (op:Int) (w:World):Calls Tryz.prog 86 #[.int .i64 op] w fun e w'=>e = .returned (.bool (op == 3 || op == 4))∧w = w':=by
 rcases Bool.eq_false_or_eq_true (op == 3) with h | h
 ·go_enter Tryz.func86,Tryz.ntmps86
  go_wp2
  go_ret
  rw [h]
  exact ⟨rfl,rfl⟩
 ·go_enter Tryz.func86,Tryz.ntmps86
  go_wp2
  go_ret
  rw [h]
  exact ⟨rfl,rfl⟩
theorem rown5_any (op:Int) (w:World):Calls Tryz.prog 60 #[.int .i64 op] w fun e w'=>e = .returned (.bool (op == 3 || op == 4))∧w = w':=by
 rcases Bool.eq_false_or_eq_true (op == 3) with h | h
 ·go_enter Tryz.func60,Tryz.ntmps60
  go_wp2
  go_ret
  rw [h]
  exact ⟨rfl,rfl⟩
 ·go_enter Tryz.func60,Tryz.ntmps60
  go_wp2
  go_ret
  rw [h]
  exact ⟨rfl,rfl⟩
end Go.Proofs.YtfipcdhodojodaaGreat
