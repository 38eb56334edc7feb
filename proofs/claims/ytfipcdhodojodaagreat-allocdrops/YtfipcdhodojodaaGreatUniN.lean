/- core.Call over a plain function, for every core; the rows stand whatever becomes of older blocks. -/
import Derived.Test.YtfipcdhodojodaaGreatKUni
import Derived.Test.YtfipcdhodojodaaGreatCoreC
namespace Go.Proofs.YtfipcdhodojodaaGreat
open Go.RowKit
set_option linter.unusedVariables false
set_option linter.unusedSimpArgs false
theorem call_uN (A B C L:Option Addr) (a b c d:Nat) (s:Sy) (i:Int) (op:Int) (us:List Int) (A9:Option Addr) (c9:Nat) (r0 r1 r2 r3 r4 r5 r6 r7:Int) (hp:pad8 us = [r0,r1,r2,r3,r4,r5,r6,r7]) (hul:us.length≤8) (w:World) (hs:SyFew s) (h:RS w s A B C L) (hU:Row w A9 us) :
  Calls Tryz.prog 66 #[.agg (uS A B C L a b c d s),.int .i64 i,.int .i64 op,.slice A9 us.length c9] w (RetSysN w (pCall s i ⟨op,0,[r0,r1,r2,r3,r4,r5,r6,r7],[]⟩)):=by
 obtain ⟨f0,f1,f2,f3,f4⟩:=hs
 rcases pAt_cases s i with ⟨h1,h1b,h2⟩ | ⟨k,x,rfl,hk,hx,h1,h2⟩
 ·have e:pCall s i ⟨op,0,[r0,r1,r2,r3,r4,r5,r6,r7],[]⟩ = s:=by unfold pCall;rw [h2]
  rw [e]
  exact call_outN A B C L a b c d s i op us A9 c9 h1 w h.W h.G h.C h.L f0 f1 f2 (by omega) f4
 ·by_cases q:40≤x.F.length
  ·have e:pCall s (k:Int) ⟨op,0,[r0,r1,r2,r3,r4,r5,r6,r7],[]⟩ = s:=by unfold pCall;rw [h2];simp [q]
   rw [e]
   exact call_fullN A B C L a b c d s k x op us A9 c9 hx q w h.W h.G h.C h.L f0 f1 f2 (by omega) f4
  ·have e:pCall s (k:Int) ⟨op,0,[r0,r1,r2,r3,r4,r5,r6,r7],[]⟩ = syWith s k (coCall x ⟨op,0,[r0,r1,r2,r3,r4,r5,r6,r7],[]⟩):=by unfold pCall;rw [h2];simp [q]
   rw [e]
   exact call_yesN A B C L a b c d s k x op us A9 c9 hx (by omega) hul r0 r1 r2 r3 r4 r5 r6 r7 hp w hU h.W h.G h.C h.L f0 f1 f2 (by omega) f4
end Go.Proofs.YtfipcdhodojodaaGreat
