/- A map of slices of closures, as a call makes it. Contract: scan.steps, by the program. -/
import Derived.Test.YtfipcdhodojodaaGreatScn5
import Derived.Maps.Own
import Derived.Maps.OwnOps
import Derived.Laws.EntriesVeiled
import Derived.Test.YtfipcdhodojodaaGreatKCpy
import Derived.Test.YtfipcdhodojodaaGreatKCoT
import Derived.Test.YtfipcdhodojodaaGreatStk9
import Derived.Test.YtfipcdhodojodaaGreatScn6
import Derived.Test.YtfipcdhodojodaaGreatScn7
import Derived.Test.YtfipcdhodojodaaGreatMS8
namespace Go.Proofs.YtfipcdhodojodaaGreat
open Go.RowKit
set_option maxRecDepth 100000
set_option maxHeartbeats 8000000
open Go.Maps
set_option linter.unusedVariables false
set_option linter.unusedSimpArgs false
def RF (v:Value):Option (DataW Unit × List MemPlace):=match v with
 | .slice (some ⟨b,0,none⟩) 2 2=>some (.lit (.int .i64 (b:Int)),[])
 | .slice none 0 0=>some (.lit (.int .i64 (-1)),[])
 | _=>none
theorem RF_two {v:Value} {b:Nat} {ps:List MemPlace} (h:RF v = some (.lit (.int .i64 (b:Int)),ps)):v = .slice (some ⟨b,0,none⟩) 2 2:=by
 unfold RF at h
 split at h
 ·next b1 =>
  simp at h
  have:b1 = b:=by omega
  rw [this]
 ·simp at h
  try omega
 ·cases h
theorem wpList_insert_own {H:Type} {P:Program} (w:World) {ops:Array Oper} {rest:List Oper} {o:Oper} {a:Act} {Q:Exit→Act→World→Prop}
  (hg:o.guard = none) (m x v:Operand) (t:TypeId) (hop:o.op = Op.insert t m x v)
  (k e:TypeId) (K:Keyed P k) (ht:P.underlying t = some (.map k e)) (R:Value→Option (DataW H × List MemPlace)) (b n:Nat) (D:DataW H)
  (hm:a.eval m = .map (some b)) (hown:w.ownsMap P k R b n D) (hn:n < maxLen) (key val:Value) (kl:Lit) (hx:a.eval x = key) (hv:a.eval v = val) (hkey:keyOf P k key = some kl)
  (d:DataW H) (ps:List MemPlace) (hval:R val = some (d,ps))
  (hK:∀ w',w'.ownsMap P k R b (n+1) (D.put kl d)→w.grownBy w' (some b)→wpList P ops Q rest (a.put o.dst undef) w') :
  wpList P ops Q (o :: rest) a w:=by
 refine wpList_plain hg fun K' hK'=>?_
 obtain ⟨w',hrun,r1,r2⟩:=hown.update K ht hn hkey hval
 unfold Oper.wp
 simp [execOp,hop,hm,hx,hv,hrun,Result.andThen]
 exact hK' _ _ (hK w' r1 r2)
def stepsD (b5 b6:Nat):DataW Unit:=((DataW.map []).put (.int .i64 5) (.lit (.int .i64 (b5:Int)))).put (.int .i64 6) (.lit (.int .i64 (b6:Int)))
theorem stepsD_5 (b5 b6:Nat):(stepsD b5 b6).atKey (.int .i64 5) (.lit (.int .i64 (-1))) = .lit (.int .i64 (b5:Int)):=by rfl
theorem stepsD_6 (b5 b6:Nat):(stepsD b5 b6).atKey (.int .i64 6) (.lit (.int .i64 (-1))) = .lit (.int .i64 (b6:Int)):=by rfl
theorem keyI:Keyed Tryz.prog 3:=int_keyed Tryz.underlying3
theorem zeroFS (w:World):(zeroValue 110).run Tryz.prog w = .ok (.slice none 0 0) w:=by kernel_rfl
structure Steps (w:World) (cs fc:Array Value) (k:Int) (m b5 b6 p3 p4 p5:Nat):Prop where
 map:w.ownsMap Tryz.prog 3 RF m 2 (stepsD b5 b6)
 c5:w.heap[b5]? = some (.cells #[.func (.func 109) #[] #[.pointer (some ⟨p3,0,none⟩),.pointer (some ⟨p4,0,none⟩),.pointer (some ⟨p5,0,none⟩)],.func (.func 111) #[] #[.pointer (some ⟨p3,0,none⟩),.pointer (some ⟨p4,0,none⟩),.pointer (some ⟨p5,0,none⟩)]] 113 (0,0))
 c6:w.heap[b6]? = some (.cells #[.func (.func 112) #[] #[.pointer (some ⟨p3,0,none⟩),.pointer (some ⟨p4,0,none⟩),.pointer (some ⟨p5,0,none⟩)],.func (.func 114) #[] #[.pointer (some ⟨p3,0,none⟩),.pointer (some ⟨p4,0,none⟩),.pointer (some ⟨p5,0,none⟩)]] 113 (0,0))
 h3:w.heap[p3]? = some (.cells cs 30 (0,0))
 h4:w.heap[p4]? = some (.cells #[.int .i64 k] 3 (0,0))
 h5:w.heap[p5]? = some (.cells fc 60 (0,0))
theorem steps_any (A B C L:Option Addr) (a b c d:Nat) (s:Sy) (k:Int) (AS:Option Addr) (cS:Nat) (op pc r0 r1 r2 r3 r4 r5 r6 r7:Int) (xs:List Int) (w:World) :
  Calls Tryz.prog 101 #[.agg (uS A B C L a b c d s),.int .i64 k,.agg (uF op pc r0 r1 r2 r3 r4 r5 r6 r7 AS xs cS)] w fun e w'=>∃ m b5 b6 p3 p4 p5,e = .returned (.map (some m))∧Steps w' (uS A B C L a b c d s) (uF op pc r0 r1 r2 r3 r4 r5 r6 r7 AS xs cS) k m b5 b6 p3 p4 p5∧Below w.heap.size w w':=by
 have hmm:=@run_makeMap Tryz.prog
 go_enter Tryz.func101,Tryz.ntmps101
 go_upto_region 1 with (fail)
 have e3:=heap_alloc_new w (.cells (uS A B C L a b c d s) 30)
 obtain ⟨h3,h4,h5,hs3⟩:=heap3b w (.cells (uS A B C L a b c d s) 30) (.cells #[.int .i64 k] 3) (.cells (uF op pc r0 r1 r2 r3 r4 r5 r6 r7 AS xs cS) 60)
 have hb:Below w.heap.size w (((w.alloc (.cells (uS A B C L a b c d s) 30)).alloc (.cells #[.int .i64 k] 3)).alloc (.cells (uF op pc r0 r1 r2 r3 r4 r5 r6 r7 AS xs cS) 60)):=bstep (bstep (boxed _ _) (boxed _ _)) (boxed _ _)
 have z5:w.heap.size+1+1 < (((w.alloc (.cells (uS A B C L a b c d s) 30)).alloc (.cells #[.int .i64 k] 3)).alloc (.cells (uF op pc r0 r1 r2 r3 r4 r5 r6 r7 AS xs cS) 60)).heap.size:=by simp
 clear e3 hs3
 generalize (((w.alloc (.cells (uS A B C L a b c d s) 30)).alloc (.cells #[.int .i64 k] 3)).alloc (.cells (uF op pc r0 r1 r2 r3 r4 r5 r6 r7 AS xs cS) 60)) = w1 at *
 obtain ⟨vM,hM⟩:∃ v,v = w1.heap.size:=⟨_,rfl⟩
 have om:=World.ownsMap_made w1 Tryz.prog 3 RF
 have k5:keyOf Tryz.prog 3 (.int .i64 5) = some (.int .i64 5):=keyOf_int_mk Tryz.underlying3 (WalkArith.wf_i64 (by omega))
 have k6:keyOf Tryz.prog 3 (.int .i64 6) = some (.int .i64 6):=keyOf_int_mk Tryz.underlying3 (WalkArith.wf_i64 (by omega))
 have OM:=hid om
 have HMk:=hid hM
 clear om hM
 go_wp2_with (first
  | (refine wpList_insert_own _ rfl _ _ _ 111 rfl 3 110 keyI Tryz.underlying111 RF w1.heap.size 0 _ rfl (OM.out.alloc _) (by decide) _ _ _ rfl rfl k5 (.lit (.int .i64 ((w1.heap.size+1:Nat):Int))) [] rfl ?_;intro w3 om3 g3)
  | (refine wpList_insert_own _ rfl _ _ _ 111 rfl 3 110 keyI Tryz.underlying111 RF w1.heap.size 1 _ rfl (om3.alloc _) (by decide) _ _ _ rfl rfl k6 (.lit (.int .i64 ((w3.heap.size:Nat):Int))) [] rfl ?_;intro w5 om5 g5))
 go_ret
 have t3:Turn (fun b=>b = w1.heap.size) ((w1.alloc (.map #[] 0)).alloc (.cells #[.func (.func 109) #[] #[.pointer (some ⟨w.heap.size,0,none⟩),.pointer (some ⟨w.heap.size+1,0,none⟩),.pointer (some ⟨w.heap.size+1+1,0,none⟩)],.func (.func 111) #[] #[.pointer (some ⟨w.heap.size,0,none⟩),.pointer (some ⟨w.heap.size+1,0,none⟩),.pointer (some ⟨w.heap.size+1+1,0,none⟩)]] 113)) w3:=(Turn.refl _ _).grown g3 (fun g e=>by injection e with e;exact e.symm)
 have t4:Turn (fun b=>b = w1.heap.size) w3 w5:=((Turn.refl _ _).alloc _).grown g5 (fun g e=>by injection e with e;exact e.symm)
 have u5:((w1.alloc (.map #[] 0)).alloc (.cells #[.func (.func 109) #[] #[.pointer (some ⟨w.heap.size,0,none⟩),.pointer (some ⟨w.heap.size+1,0,none⟩),.pointer (some ⟨w.heap.size+1+1,0,none⟩)],.func (.func 111) #[] #[.pointer (some ⟨w.heap.size,0,none⟩),.pointer (some ⟨w.heap.size+1,0,none⟩),.pointer (some ⟨w.heap.size+1+1,0,none⟩)]] 113)).heap[w1.heap.size+1]? = some (.cells #[.func (.func 109) #[] #[.pointer (some ⟨w.heap.size,0,none⟩),.pointer (some ⟨w.heap.size+1,0,none⟩),.pointer (some ⟨w.heap.size+1+1,0,none⟩)],.func (.func 111) #[] #[.pointer (some ⟨w.heap.size,0,none⟩),.pointer (some ⟨w.heap.size+1,0,none⟩),.pointer (some ⟨w.heap.size+1+1,0,none⟩)]] 113 (0,0)):=by
  have:=heap_alloc_new (w1.alloc (.map #[] 0)) (.cells #[.func (.func 109) #[] #[.pointer (some ⟨w.heap.size,0,none⟩),.pointer (some ⟨w.heap.size+1,0,none⟩),.pointer (some ⟨w.heap.size+1+1,0,none⟩)],.func (.func 111) #[] #[.pointer (some ⟨w.heap.size,0,none⟩),.pointer (some ⟨w.heap.size+1,0,none⟩),.pointer (some ⟨w.heap.size+1+1,0,none⟩)]] 113)
  simpa using this
 have z3:w1.heap.size+1 < w3.heap.size:=Nat.lt_of_lt_of_le (Array.getElem?_eq_some_iff.1 u5).1 t3.size
 have tb:Turn (fun b=>b = w1.heap.size) w1 ((w1.alloc (.map #[] 0)).alloc (.cells #[.func (.func 109) #[] #[.pointer (some ⟨w.heap.size,0,none⟩),.pointer (some ⟨w.heap.size+1,0,none⟩),.pointer (some ⟨w.heap.size+1+1,0,none⟩)],.func (.func 111) #[] #[.pointer (some ⟨w.heap.size,0,none⟩),.pointer (some ⟨w.heap.size+1,0,none⟩),.pointer (some ⟨w.heap.size+1+1,0,none⟩)]] 113)):=((Turn.refl _ _).alloc _).alloc _
 have t15:=(tb.trans t3).trans t4
 have b15:=t15.to_below (Nat.le_refl _) (fun g hg=>by omega)
 have u6:w5.heap[w3.heap.size]? = some (.cells #[.func (.func 112) #[] #[.pointer (some ⟨w.heap.size,0,none⟩),.pointer (some ⟨w.heap.size+1,0,none⟩),.pointer (some ⟨w.heap.size+1+1,0,none⟩)],.func (.func 114) #[] #[.pointer (some ⟨w.heap.size,0,none⟩),.pointer (some ⟨w.heap.size+1,0,none⟩),.pointer (some ⟨w.heap.size+1+1,0,none⟩)]] 113 (0,0)):=(g5.block _ (by simp) (fun e=>by injection e with e;omega)).trans (heap_alloc_new w3 _)
 exact ⟨w1.heap.size,w1.heap.size+1,w3.heap.size,w.heap.size,w.heap.size+1,w.heap.size+1+1,rfl,⟨om5,(t4.block _ z3 (by omega)).trans ((t3.block _ (Array.getElem?_eq_some_iff.1 u5).1 (by omega)).trans u5),u6,(b15.block _ (by omega)).trans h3,(b15.block _ (by omega)).trans h4,(b15.block _ z5).trans h5⟩,hb.trans (b15.mono (by omega))⟩
theorem copiedFrame_cap (A:Option Addr) (c:Nat) (op pc r0 r1 r2 r3 r4 r5 r6 r7:Int) (xs:List Int) (w:World) (hA:Row w A xs) (hl:xs.length≤1000000) :
  Calls Tryz.prog 46 #[.agg (uF op pc r0 r1 r2 r3 r4 r5 r6 r7 A xs c)] w fun e w' =>
   ∃ A' c',e = .returned (.agg (uF op pc r0 r1 r2 r3 r4 r5 r6 r7 A' xs c'))∧(RowI (fun b=>w.heap.size≤b) w' A' xs∧xs.length≤c')∧Below w.heap.size w w':=by
 go_enter Tryz.func46,Tryz.ntmps46
 go_wp2_with (go_at_call 65;refine (cloneInt _ _ _ (xs.map inCells) _ (((hA.alloc _).alloc _).src) (by simp) hl).mono ?_;rintro e wk ⟨v,rfl,ho,hk⟩;obtain ⟨A',c',rfl,hr⟩:=own_rowI ho rfl;have hcp:xs.length≤c':=own_cap ho;obtain ⟨gc,gf⟩:=bcell hk;have hz:w.heap.size+1 < wk.heap.size:=(by have:=hk.size;simp at this;omega);have hz0:w.heap.size < wk.heap.size:=(by omega);have p10:wk.cell? ⟨w.heap.size,10,none⟩ = some (.slice A xs.length c):=(by rw [gc _ _ (by simp;omega)];simp [go_sem]);have q0:wk.cell? ⟨w.heap.size+1,0,none⟩ = some (.int .i64 0):=(by rw [gc _ _ (by simp)];simp [go_sem]);have q1:wk.cell? ⟨w.heap.size+1,1,none⟩ = some (.int .i64 0):=(by rw [gc _ _ (by simp)];simp [go_sem]);have q2:wk.cell? ⟨w.heap.size+1,2,none⟩ = some (.int .i64 0):=(by rw [gc _ _ (by simp)];simp [go_sem]);have q3:wk.cell? ⟨w.heap.size+1,3,none⟩ = some (.int .i64 0):=(by rw [gc _ _ (by simp)];simp [go_sem]);have q4:wk.cell? ⟨w.heap.size+1,4,none⟩ = some (.int .i64 0):=(by rw [gc _ _ (by simp)];simp [go_sem]);have q5:wk.cell? ⟨w.heap.size+1,5,none⟩ = some (.int .i64 0):=(by rw [gc _ _ (by simp)];simp [go_sem]);have q6:wk.cell? ⟨w.heap.size+1,6,none⟩ = some (.int .i64 0):=(by rw [gc _ _ (by simp)];simp [go_sem]);have q7:wk.cell? ⟨w.heap.size+1,7,none⟩ = some (.int .i64 0):=(by rw [gc _ _ (by simp)];simp [go_sem]);have q8:wk.cell? ⟨w.heap.size+1,8,none⟩ = some (.int .i64 0):=(by rw [gc _ _ (by simp)];simp [go_sem]);have q9:wk.cell? ⟨w.heap.size+1,9,none⟩ = some (.int .i64 0):=(by rw [gc _ _ (by simp)];simp [go_sem]);have q10:wk.cell? ⟨w.heap.size+1,10,none⟩ = some (.slice none 0 0):=(by rw [gc _ _ (by simp)];simp [go_sem]))
 refine bodyPost_ret (v:=.agg (uF op pc r0 r1 r2 r3 r4 r5 r6 r7 A' xs c')) (by simp [results,Tryz.results46,go_sem,q0,q1,q2,q3,q4,q5,q6,q7,q8,q9,q10]) rfl ?_
 have key:∀ w',Turn (fun b=>b = w.heap.size ∨ b = w.heap.size+1) wk w'→(RowI (fun b=>w.heap.size≤b) w' A' xs∧xs.length≤c')∧Below w.heap.size w w':=fun w' hT =>
  ⟨⟨(hr.turn hT (fun b _ hb=>by simp at hb;omega)).mono (fun b _ hb=>by simp at hb;omega),hcp⟩,(bstep (boxed _ _) (boxed _ _)).trans ((hk.mono (by simp;omega)).trans (hT.to_below (by omega) (fun g hg=>by omega)))⟩
 refine ⟨A',c',rfl,?_⟩
 exact key _ (by repeat (first | (with_reducible exact Turn.refl _ _) | (with_reducible refine Turn.set ?_ (by simp) _ _)))
theorem top_yesC (A B AC AL:Option Addr) (c d cC cL:Nat) (s:Sy) (k n:Nat) (x:Co) (op pc r0 r1 r2 r3 r4 r5 r6 r7:Int) (xs:List Int) (w:World) (hC:RowC w AC s.C) (h2:s.C.length≤1000000) (hx:s.C[k]? = some x) (hn:x.F.length = n+1) (h3:n≤999999) (h4:xs.length≤1000000) (hf:x.F[n]? = some ⟨op,pc,[r0,r1,r2,r3,r4,r5,r6,r7],xs⟩) :
  Calls Tryz.prog 25 #[.agg (uS A B AC AL c d cC cL s),.int .i64 k] w fun e w'=>∃ A' c',e = .returned (.tuple #[.agg (uF op pc r0 r1 r2 r3 r4 r5 r6 r7 A' xs c'),.bool true])∧Row w' A' xs∧xs.length≤c'∧Below w.heap.size w w':=by
 have hlt:k < s.C.length:=(List.getElem?_eq_some_iff.1 hx).1
 obtain ⟨b,o,rfl,hbl,hat⟩:=hC (by omega)
 obtain ⟨⟨AF,cF,c0,rF,_⟩,_⟩:=hat k x hx
 obtain ⟨g,o1,rfl,hgl,hat1⟩:=rF (by omega)
 obtain ⟨⟨AS,cS⟩,_,hc,rS⟩:=(hat1 n _ hf).cs
 dsimp only at rS
 have u0:w.cell? ⟨g,o1+n * 11,none⟩ = some (.int .i64 op):=hc 0 _ rfl
 have u1:w.cell? ⟨g,o1+n * 11+1,none⟩ = some (.int .i64 pc):=hc 1 _ rfl
 have u2:w.cell? ⟨g,o1+n * 11+2,none⟩ = some (.int .i64 r0):=hc 2 _ rfl
 have u3:w.cell? ⟨g,o1+n * 11+3,none⟩ = some (.int .i64 r1):=hc 3 _ rfl
 have u4:w.cell? ⟨g,o1+n * 11+4,none⟩ = some (.int .i64 r2):=hc 4 _ rfl
 have u5:w.cell? ⟨g,o1+n * 11+5,none⟩ = some (.int .i64 r3):=hc 5 _ rfl
 have u6:w.cell? ⟨g,o1+n * 11+6,none⟩ = some (.int .i64 r4):=hc 6 _ rfl
 have u7:w.cell? ⟨g,o1+n * 11+7,none⟩ = some (.int .i64 r5):=hc 7 _ rfl
 have u8:w.cell? ⟨g,o1+n * 11+8,none⟩ = some (.int .i64 r6):=hc 8 _ rfl
 have u9:w.cell? ⟨g,o1+n * 11+9,none⟩ = some (.int .i64 r7):=hc 9 _ rfl
 have u10:w.cell? ⟨g,o1+n * 11+10,none⟩ = some (.slice AS xs.length cS):=hc 10 _ rfl
 clear hat hat1 hc hf
 have HX:=hid hx
 clear hx
 have hpos:decide (0 < x.F.length) = true:=decide_eq_true (by omega)
 have h5:x.F.length≤1000000:=by omega
 have hn':(x.F.length:Int) - 1 = (n:Int):=by omega
 obtain ⟨b1,b2,bs⟩:=heap2 w (.cells (uS A B (some ⟨b,o,none⟩) AL c d cC cL s) 30) (.cells #[.int .i64 0,.int .i64 0,.int .i64 0,.int .i64 0,.int .i64 0,.int .i64 0,.int .i64 0,.int .i64 0,.int .i64 0,.int .i64 0,.slice none 0 0] 60)
 have hw2:Below w.heap.size w ((w.alloc (.cells (uS A B (some ⟨b,o,none⟩) AL c d cC cL s) 30)).alloc (.cells #[.int .i64 0,.int .i64 0,.int .i64 0,.int .i64 0,.int .i64 0,.int .i64 0,.int .i64 0,.int .i64 0,.int .i64 0,.int .i64 0,.slice none 0 0] 60)):=bstep (boxed _ _) (boxed _ _)
 go_enter Tryz.func25,Tryz.ntmps25
 go_wp2_with fail
 generalize ((w.alloc (.cells (uS A B (some ⟨b,o,none⟩) AL c d cC cL s) 30)).alloc (.cells #[.int .i64 0,.int .i64 0,.int .i64 0,.int .i64 0,.int .i64 0,.int .i64 0,.int .i64 0,.int .i64 0,.int .i64 0,.int .i64 0,.slice none 0 0] 60)) = w2 at *
 refine (hasFrame_at _ _ _ _ _ _ _ _ s k x _ (hC.step hw2) h2 HX.out (by omega)).mono ?_
 rintro e wk ⟨rfl,hk⟩
 rw [hpos]
 replace b1:=(hk.block w.heap.size (by omega)).trans b1
 replace b2:=(hk.block (w.heap.size+1) (by omega)).trans b2
 have hb:=bstep hw2 hk
 have hCk:=hC.step hb
 have rSk:=rS.step hb
 have hz:w.heap.size+1 < wk.heap.size:=by have:=hk.size;omega
 obtain ⟨p0,p1,p2,p3,p4⟩:=cells5 b1
 obtain ⟨q0,q1,q2,q3,q4,q5,q6,q7,q8,q9,q10,qf0,qf1,qf2,qf3,qf4,qf5,qf6,qf7,qf8,qf9,qf10⟩:=cf11 b2
 have c1:wk.cell? ⟨b,o+k * 7,none⟩ = some (.slice (some ⟨g,o1,none⟩) x.F.length cF):=(hb.cell hbl).trans c0
 replace u0:=(hb.cell hgl).trans u0
 replace u1:=(hb.cell hgl).trans u1
 replace u2:=(hb.cell hgl).trans u2
 replace u3:=(hb.cell hgl).trans u3
 replace u4:=(hb.cell hgl).trans u4
 replace u5:=(hb.cell hgl).trans u5
 replace u6:=(hb.cell hgl).trans u6
 replace u7:=(hb.cell hgl).trans u7
 replace u8:=(hb.cell hgl).trans u8
 replace u9:=(hb.cell hgl).trans u9
 replace u10:=(hb.cell hgl).trans u10
 have g1:b < wk.heap.size:=Nat.lt_of_lt_of_le hbl hb.size
 have g2:g < wk.heap.size:=Nat.lt_of_lt_of_le hgl hb.size
 have kl:(k:Int) < (s.C.length:Int):=by omega
 have nl:(n:Int) < (x.F.length:Int):=by omega
 have HN:=hid hn'
 have HB:=hid hb
 clear hk hw2 bs b1 b2 hC rS hn hn' hpos rF c0 hb
 have KS:=hid (show ∀ w',Turn (fun b=>b = w.heap.size+1) wk w'→(w'.cell? ⟨w.heap.size,0,none⟩ = some (.slice A s.M.W.length c)∧w'.cell? ⟨w.heap.size,1,none⟩ = some (.slice B s.M.G.length d)∧w'.cell? ⟨w.heap.size,2,none⟩ = some (.bool s.M.bad)∧w'.cell? ⟨w.heap.size,3,none⟩ = some (.slice (some ⟨b,o,none⟩) s.C.length cC)∧w'.cell? ⟨w.heap.size,4,none⟩ = some (.slice AL s.L.length cL)∧w'.cell? ⟨b,o+k * 7,none⟩ = some (.slice (some ⟨g,o1,none⟩) x.F.length cF)∧w'.cell? ⟨g,o1+n * 11,none⟩ = some (.int .i64 op)∧w'.cell? ⟨g,o1+n * 11+1,none⟩ = some (.int .i64 pc)∧w'.cell? ⟨g,o1+n * 11+2,none⟩ = some (.int .i64 r0)∧w'.cell? ⟨g,o1+n * 11+3,none⟩ = some (.int .i64 r1)∧w'.cell? ⟨g,o1+n * 11+4,none⟩ = some (.int .i64 r2)∧w'.cell? ⟨g,o1+n * 11+5,none⟩ = some (.int .i64 r3)∧w'.cell? ⟨g,o1+n * 11+6,none⟩ = some (.int .i64 r4)∧w'.cell? ⟨g,o1+n * 11+7,none⟩ = some (.int .i64 r5)∧w'.cell? ⟨g,o1+n * 11+8,none⟩ = some (.int .i64 r6)∧w'.cell? ⟨g,o1+n * 11+9,none⟩ = some (.int .i64 r7)∧w'.cell? ⟨g,o1+n * 11+10,none⟩ = some (.slice AS xs.length cS)) from fun w' h=>⟨(h.cell (by omega) (by omega)).trans p0,(h.cell (by omega) (by omega)).trans p1,(h.cell (by omega) (by omega)).trans p2,(h.cell (by omega) (by omega)).trans p3,(h.cell (by omega) (by omega)).trans p4,(h.cell g1 (by omega)).trans c1,(h.cell g2 (by omega)).trans u0,(h.cell g2 (by omega)).trans u1,(h.cell g2 (by omega)).trans u2,(h.cell g2 (by omega)).trans u3,(h.cell g2 (by omega)).trans u4,(h.cell g2 (by omega)).trans u5,(h.cell g2 (by omega)).trans u6,(h.cell g2 (by omega)).trans u7,(h.cell g2 (by omega)).trans u8,(h.cell g2 (by omega)).trans u9,(h.cell g2 (by omega)).trans u10⟩)
 go_upto_region 3 with (fail)
 go_region_held3 (fun w'=>w'.cell? ⟨w.heap.size,0,none⟩ = some (.slice A s.M.W.length c)∧w'.cell? ⟨w.heap.size,1,none⟩ = some (.slice B s.M.G.length d)∧w'.cell? ⟨w.heap.size,2,none⟩ = some (.bool s.M.bad)∧w'.cell? ⟨w.heap.size,3,none⟩ = some (.slice (some ⟨b,o,none⟩) s.C.length cC)∧w'.cell? ⟨w.heap.size,4,none⟩ = some (.slice AL s.L.length cL)∧w'.cell? ⟨b,o+k * 7,none⟩ = some (.slice (some ⟨g,o1,none⟩) x.F.length cF)∧w'.cell? ⟨g,o1+n * 11,none⟩ = some (.int .i64 op)∧w'.cell? ⟨g,o1+n * 11+1,none⟩ = some (.int .i64 pc)∧w'.cell? ⟨g,o1+n * 11+2,none⟩ = some (.int .i64 r0)∧w'.cell? ⟨g,o1+n * 11+3,none⟩ = some (.int .i64 r1)∧w'.cell? ⟨g,o1+n * 11+4,none⟩ = some (.int .i64 r2)∧w'.cell? ⟨g,o1+n * 11+5,none⟩ = some (.int .i64 r3)∧w'.cell? ⟨g,o1+n * 11+6,none⟩ = some (.int .i64 r4)∧w'.cell? ⟨g,o1+n * 11+7,none⟩ = some (.int .i64 r5)∧w'.cell? ⟨g,o1+n * 11+8,none⟩ = some (.int .i64 r6)∧w'.cell? ⟨g,o1+n * 11+9,none⟩ = some (.int .i64 r7)∧w'.cell? ⟨g,o1+n * 11+10,none⟩ = some (.slice AS xs.length cS)) (exact KS.out _ (by repeat (first | (with_reducible exact Turn.refl _ _) | (with_reducible refine Turn.set ?_ (by simp) _ _) | (with_reducible refine Turn.drew ?_) | (with_reducible refine Turn.below ?_ hk2) | (with_reducible refine Turn.below ?_ hk1))))
  (first
   | (go_at_call 47;refine (last_at _ _ _ _ _ _ _ _ s k x _ (hCk.step ((Below.refl _ _).drew)) h2 HX.out h5).mono ?_;rintro e w3 ⟨rfl,hk1⟩;rw [HN.out];have hj1:Below wk.heap.size wk w3:=bstep ((Below.refl _ _).drew) hk1)
   | (go_at_call 46;refine (copiedFrame_cap AS cS op pc r0 r1 r2 r3 r4 r5 r6 r7 xs _ (rSk.step hj1) h4).mono ?_;rintro e w4 ⟨A',c',rfl,⟨hr4,hcp⟩,hk2⟩;have hj2:=bstep hj1 hk2;replace q0:=(hj2.cell hz).trans q0;replace qf0:=(hj2.frozen hz).trans qf0;replace q1:=(hj2.cell hz).trans q1;replace qf1:=(hj2.frozen hz).trans qf1;replace q2:=(hj2.cell hz).trans q2;replace qf2:=(hj2.frozen hz).trans qf2;replace q3:=(hj2.cell hz).trans q3;replace qf3:=(hj2.frozen hz).trans qf3;replace q4:=(hj2.cell hz).trans q4;replace qf4:=(hj2.frozen hz).trans qf4;replace q5:=(hj2.cell hz).trans q5;replace qf5:=(hj2.frozen hz).trans qf5;replace q6:=(hj2.cell hz).trans q6;replace qf6:=(hj2.frozen hz).trans qf6;replace q7:=(hj2.cell hz).trans q7;replace qf7:=(hj2.frozen hz).trans qf7;replace q8:=(hj2.cell hz).trans q8;replace qf8:=(hj2.frozen hz).trans qf8;replace q9:=(hj2.cell hz).trans q9;replace qf9:=(hj2.frozen hz).trans qf9;replace q10:=(hj2.cell hz).trans q10;replace qf10:=(hj2.frozen hz).trans qf10))
 all_goals go_wp2_with fail
 all_goals refine bodyPost_ret (v:=.tuple #[.agg (uF op pc r0 r1 r2 r3 r4 r5 r6 r7 A' xs c'),.bool true]) (by simp [results,Tryz.results25,go_sem,q0,q1,q2,q3,q4,q5,q6,q7,q8,q9,q10]) rfl ?_
 all_goals
  have key:∀ w',Turn (fun b=>b = w.heap.size+1) w4 w'→Row w' A' xs∧xs.length≤c'∧Below w.heap.size w w':=fun w' hT =>
   ⟨(hr4.turn hT (fun b _ hb e=>by have:=hj1.size;omega)).row,hcp,(bstep HB.out hj2).trans (hT.to_below (by have:=HB.out.size;have:=hj2.size;omega) (fun g hg=>by omega))⟩
  refine ⟨A',c',rfl,?_⟩
  exact key _ (by repeat (first | (with_reducible exact Turn.refl _ _) | (with_reducible refine Turn.set ?_ (by simp) _ _)))
theorem top_isC (A B C L:Option Addr) (a b c d:Nat) (s:Sy) (i op pc r0 r1 r2 r3 r4 r5 r6 r7:Int) (xs:List Int) (w:World) (hs:SyFew s) (h:RS w s A B C L) (hp:pTop s i = some ⟨op,pc,[r0,r1,r2,r3,r4,r5,r6,r7],xs⟩) (h6:xs.length≤1000000) :
  Calls Tryz.prog 25 #[.agg (uS A B C L a b c d s),.int .i64 i] w fun e w'=>∃ (A':Option Addr) (c':Nat),e = .returned (.tuple #[.agg (uF op pc r0 r1 r2 r3 r4 r5 r6 r7 A' xs c'),.bool true])∧Row w' A' xs∧xs.length≤c'∧Below w.heap.size w w':=by
 obtain ⟨k,n,x,rfl,hx,hn,hf⟩:=pTop_out hp
 have g2:=(hs.2.2.2.2 x (List.mem_of_getElem? hx)).2.1
 exact top_yesC A B C L a b c d s k n x op pc r0 r1 r2 r3 r4 r5 r6 r7 xs w h.C hs.2.2.1 hx hn (by omega) h6 hf
open Go.Maps
theorem Steps.look5 {w:World} {cs fc:Array Value} {k:Int} {m b5 b6 p3 p4 p5:Nat} (h:Steps w cs fc k m b5 b6 p3 p4 p5):(Instr.lookup 111 (.map (some m)) (.int .i64 5) false).run Tryz.prog w = .ok (.slice (some ⟨b5,0,none⟩) 2 2) w:=by
 obtain ⟨v,ps,hr,hv⟩:=h.map.lookup keyI Tryz.underlying111 (zeroFS w) (by rfl:RF (.slice none 0 0) = some (.lit (.int .i64 (-1)),[])) (keyOf_int_mk Tryz.underlying3 (WalkArith.wf_i64 (by omega)):keyOf Tryz.prog 3 (.int .i64 5) = some (.int .i64 5))
 rw [stepsD_5] at hv
 rw [RF_two hv] at hr
 exact hr
theorem Steps.look6 {w:World} {cs fc:Array Value} {k:Int} {m b5 b6 p3 p4 p5:Nat} (h:Steps w cs fc k m b5 b6 p3 p4 p5):(Instr.lookup 111 (.map (some m)) (.int .i64 6) false).run Tryz.prog w = .ok (.slice (some ⟨b6,0,none⟩) 2 2) w:=by
 obtain ⟨v,ps,hr,hv⟩:=h.map.lookup keyI Tryz.underlying111 (zeroFS w) (by rfl:RF (.slice none 0 0) = some (.lit (.int .i64 (-1)),[])) (keyOf_int_mk Tryz.underlying3 (WalkArith.wf_i64 (by omega)):keyOf Tryz.prog 3 (.int .i64 6) = some (.int .i64 6))
 rw [stepsD_6] at hv
 rw [RF_two hv] at hr
 exact hr
theorem clo1_any (A B C L:Option Addr) (a b c d:Nat) (s:Sy) (k:Nat) (x:Co) (AS:Option Addr) (cS:Nat) (op pc r0 r1 r2 r3 r4 r5 r6 r7:Int) (xs:List Int) (p3 p4 p5:Nat) (w:World) (hs:SyFew s) (hg:2≤s.M.G.length) (h:RS w s A B C L) (hS:Row w AS xs) (h6:xs.length≤1000000) (hx:s.C[k]? = some x)  (hb3:w.heap[p3]? = some (.cells (uS A B C L a b c d s) 30 (0,0))) (hb4:w.heap[p4]? = some (.cells #[.int .i64 (k:Int)] 3 (0,0))) (hb5:w.heap[p5]? = some (.cells (uF op pc r0 r1 r2 r3 r4 r5 r6 r7 AS xs cS) 60 (0,0))) :
  Calls Tryz.prog 109 #[.pointer (some ⟨p3,0,none⟩),.pointer (some ⟨p4,0,none⟩),.pointer (some ⟨p5,0,none⟩)] w (RetSysN w (pRetire0 s k ⟨op,pc,[r0,r1,r2,r3,r4,r5,r6,r7],xs⟩)):=by
 obtain ⟨t9,ht9⟩:∃ t,t = pRetire0 s k ⟨op,pc,[r0,r1,r2,r3,r4,r5,r6,r7],xs⟩:=⟨_,rfl⟩
 have HC:=hid (show ∀ w1,Below w.heap.size w w1→Calls Tryz.prog 110 #[.agg (uS A B C L a b c d s),.int .i64 k,.agg (uF op pc r0 r1 r2 r3 r4 r5 r6 r7 AS xs cS)] w1 (RetSysN w1 t9) from fun w1 hb=>by have h9:=retire_any A B C L a b c d s k x AS cS op pc r0 r1 r2 r3 r4 r5 r6 r7 xs w1 hs hg (h.step hb) (hS.step hb) h6 hx;rw [← ht9] at h9;exact h9)
 rw [← ht9]
 clear ht9
 have b2:=heap_alloc_new w (.cells uZ 30)
 have hb:Below w.heap.size w (w.alloc (.cells uZ 30)):=boxed _ _
 have z1:w.heap.size < (w.alloc (.cells uZ 30)).heap.size:=by simp
 have l3:=(Array.getElem?_eq_some_iff.1 hb3).1
 have l4:=(Array.getElem?_eq_some_iff.1 hb4).1
 have l5:=(Array.getElem?_eq_some_iff.1 hb5).1
 replace hb3:=(hb.block _ l3).trans hb3
 replace hb4:=(hb.block _ l4).trans hb4
 replace hb5:=(hb.block _ l5).trans hb5
 clear l3 l4 l5
 go_enter Tryz.func109,Tryz.ntmps109
 go_upto_region 1 with (fail)
 generalize (w.alloc (.cells uZ 30)) = w1 at *
 obtain ⟨y0,y1,y2,y3,y4⟩:=cells5 hb3
 have i0:=cells1 hb4
 obtain ⟨f0,f1,f2,f3,f4,f5,f6,f7,f8,f9,f10⟩:=cells11 hb5
 go_wp2_with (go_at_call 110;(with_reducible refine (HC.out _ hb).mono ?_);rintro e wz hN;have hz:=hN.2;obtain ⟨A9,B9,C9,L9,a9,b9,c9,d9,he,_,_,_,_,_⟩:=hN.1 wz (Turn.refl _ _);subst he;have HN:=hid hN;clear hN;have kR:=(hz.block w.heap.size z1).trans b2;have kb:=bstep hb hz;obtain ⟨q0,q1,q2,q3,q4,qf0,qf1,qf2,qf3,qf4⟩:=cf5 kR)
 refine bodyPost_ret (v:=.agg (uS A9 B9 C9 L9 a9 b9 c9 d9 t9)) (by simp [uS,results,Tryz.results109,go_sem,q0,q1,q2,q3,q4]) rfl ?_
 exact ret_resN _ _ _ _ _ HN.out z1 (by omega) kb
theorem clo2_any (A B C L:Option Addr) (a b c d:Nat) (s:Sy) (k:Nat) (x:Co) (AS:Option Addr) (cS:Nat) (op pc r0 r1 r2 r3 r4 r5 r6 r7:Int) (xs:List Int) (p3 p4 p5:Nat) (w:World) (hs:SyFew s) (hg:2≤s.M.G.length) (h:RS w s A B C L) (hS:Row w AS xs) (h6:xs.length≤1000000) (hx:s.C[k]? = some x)  (hb3:w.heap[p3]? = some (.cells (uS A B C L a b c d s) 30 (0,0))) (hb4:w.heap[p4]? = some (.cells #[.int .i64 (k:Int)] 3 (0,0))) (hb5:w.heap[p5]? = some (.cells (uF op pc r0 r1 r2 r3 r4 r5 r6 r7 AS xs cS) 60 (0,0))) :
  Calls Tryz.prog 111 #[.pointer (some ⟨p3,0,none⟩),.pointer (some ⟨p4,0,none⟩),.pointer (some ⟨p5,0,none⟩)] w (RetSysN w (pBack s k r0 0)):=by
 obtain ⟨t9,ht9⟩:∃ t,t = pBack s k r0 0:=⟨_,rfl⟩
 have HC:=hid (show ∀ w1,Below w.heap.size w w1→Calls Tryz.prog 49 #[.agg (uS A B C L a b c d s),.int .i64 k,.int .i64 r0,.int .i64 0] w1 (RetSysN w1 t9) from fun w1 hb=>by have h9:=back_uN A B C L a b c d s k r0 0 w1 hs (h.step hb);rw [← ht9] at h9;exact h9)
 rw [← ht9]
 clear ht9
 have b2:=heap_alloc_new w (.cells uZ 30)
 have hb:Below w.heap.size w (w.alloc (.cells uZ 30)):=boxed _ _
 have z1:w.heap.size < (w.alloc (.cells uZ 30)).heap.size:=by simp
 have l3:=(Array.getElem?_eq_some_iff.1 hb3).1
 have l4:=(Array.getElem?_eq_some_iff.1 hb4).1
 have l5:=(Array.getElem?_eq_some_iff.1 hb5).1
 replace hb3:=(hb.block _ l3).trans hb3
 replace hb4:=(hb.block _ l4).trans hb4
 replace hb5:=(hb.block _ l5).trans hb5
 clear l3 l4 l5
 go_enter Tryz.func111,Tryz.ntmps111
 go_upto_region 1 with (fail)
 generalize (w.alloc (.cells uZ 30)) = w1 at *
 obtain ⟨y0,y1,y2,y3,y4⟩:=cells5 hb3
 have i0:=cells1 hb4
 obtain ⟨f0,f1,f2,f3,f4,f5,f6,f7,f8,f9,f10⟩:=cells11 hb5
 go_wp2_with (go_at_call 49;(with_reducible refine (HC.out _ hb).mono ?_);rintro e wz hN;have hz:=hN.2;obtain ⟨A9,B9,C9,L9,a9,b9,c9,d9,he,_,_,_,_,_⟩:=hN.1 wz (Turn.refl _ _);subst he;have HN:=hid hN;clear hN;have kR:=(hz.block w.heap.size z1).trans b2;have kb:=bstep hb hz;obtain ⟨q0,q1,q2,q3,q4,qf0,qf1,qf2,qf3,qf4⟩:=cf5 kR)
 refine bodyPost_ret (v:=.agg (uS A9 B9 C9 L9 a9 b9 c9 d9 t9)) (by simp [uS,results,Tryz.results111,go_sem,q0,q1,q2,q3,q4]) rfl ?_
 exact ret_resN _ _ _ _ _ HN.out z1 (by omega) kb
theorem clo3_any (A B C L:Option Addr) (a b c d:Nat) (s:Sy) (k:Nat) (x:Co) (AS:Option Addr) (cS:Nat) (op pc r0 r1 r2 r3 r4 r5 r6 r7:Int) (xs:List Int) (p3 p4 p5:Nat) (w:World) (hs:SyFew s) (hg:2≤s.M.G.length) (h:RS w s A B C L) (hS:Row w AS xs) (h6:xs.length≤1000000) (hx:s.C[k]? = some x) (hcS:xs.length≤cS) (hb3:w.heap[p3]? = some (.cells (uS A B C L a b c d s) 30 (0,0))) (hb4:w.heap[p4]? = some (.cells #[.int .i64 (k:Int)] 3 (0,0))) (hb5:w.heap[p5]? = some (.cells (uF op pc r0 r1 r2 r3 r4 r5 r6 r7 AS xs cS) 60 (0,0))) :
  Calls Tryz.prog 112 #[.pointer (some ⟨p3,0,none⟩),.pointer (some ⟨p4,0,none⟩),.pointer (some ⟨p5,0,none⟩)] w (RetSysN w (pLook s k ⟨op,pc,[r0,r1,r2,r3,r4,r5,r6,r7],xs⟩)):=by
 obtain ⟨t9,ht9⟩:∃ t,t = pLook s k ⟨op,pc,[r0,r1,r2,r3,r4,r5,r6,r7],xs⟩:=⟨_,rfl⟩
 have HC:=hid (show ∀ w1,Below w.heap.size w w1→Calls Tryz.prog 113 #[.agg (uS A B C L a b c d s),.int .i64 k,.agg (uF op pc r0 r1 r2 r3 r4 r5 r6 r7 AS xs cS)] w1 (RetSysN w1 t9) from fun w1 hb=>by have h9:=look_any A B C L a b c d s k AS cS op pc r0 r1 r2 r3 r4 r5 r6 r7 xs w1 hs hg (h.step hb) (hS.step hb) h6 hcS;rw [← ht9] at h9;exact h9)
 rw [← ht9]
 clear ht9
 have b2:=heap_alloc_new w (.cells uZ 30)
 have hb:Below w.heap.size w (w.alloc (.cells uZ 30)):=boxed _ _
 have z1:w.heap.size < (w.alloc (.cells uZ 30)).heap.size:=by simp
 have l3:=(Array.getElem?_eq_some_iff.1 hb3).1
 have l4:=(Array.getElem?_eq_some_iff.1 hb4).1
 have l5:=(Array.getElem?_eq_some_iff.1 hb5).1
 replace hb3:=(hb.block _ l3).trans hb3
 replace hb4:=(hb.block _ l4).trans hb4
 replace hb5:=(hb.block _ l5).trans hb5
 clear l3 l4 l5
 go_enter Tryz.func112,Tryz.ntmps112
 go_upto_region 1 with (fail)
 generalize (w.alloc (.cells uZ 30)) = w1 at *
 obtain ⟨y0,y1,y2,y3,y4⟩:=cells5 hb3
 have i0:=cells1 hb4
 obtain ⟨f0,f1,f2,f3,f4,f5,f6,f7,f8,f9,f10⟩:=cells11 hb5
 go_wp2_with (go_at_call 113;(with_reducible refine (HC.out _ hb).mono ?_);rintro e wz hN;have hz:=hN.2;obtain ⟨A9,B9,C9,L9,a9,b9,c9,d9,he,_,_,_,_,_⟩:=hN.1 wz (Turn.refl _ _);subst he;have HN:=hid hN;clear hN;have kR:=(hz.block w.heap.size z1).trans b2;have kb:=bstep hb hz;obtain ⟨q0,q1,q2,q3,q4,qf0,qf1,qf2,qf3,qf4⟩:=cf5 kR)
 refine bodyPost_ret (v:=.agg (uS A9 B9 C9 L9 a9 b9 c9 d9 t9)) (by simp [uS,results,Tryz.results112,go_sem,q0,q1,q2,q3,q4]) rfl ?_
 exact ret_resN _ _ _ _ _ HN.out z1 (by omega) kb
theorem clo4_any (A B C L:Option Addr) (a b c d:Nat) (s:Sy) (k:Nat) (x:Co) (AS:Option Addr) (cS:Nat) (op pc r0 r1 r2 r3 r4 r5 r6 r7:Int) (xs:List Int) (p3 p4 p5:Nat) (w:World) (hs:SyFew s) (hg:2≤s.M.G.length) (h:RS w s A B C L) (hS:Row w AS xs) (h6:xs.length≤1000000) (hx:s.C[k]? = some x)  (hb3:w.heap[p3]? = some (.cells (uS A B C L a b c d s) 30 (0,0))) (hb4:w.heap[p4]? = some (.cells #[.int .i64 (k:Int)] 3 (0,0))) (hb5:w.heap[p5]? = some (.cells (uF op pc r0 r1 r2 r3 r4 r5 r6 r7 AS xs cS) 60 (0,0))) :
  Calls Tryz.prog 114 #[.pointer (some ⟨p3,0,none⟩),.pointer (some ⟨p4,0,none⟩),.pointer (some ⟨p5,0,none⟩)] w (RetSysN w (pSweep s k ⟨op,pc,[r0,r1,r2,r3,r4,r5,r6,r7],xs⟩)):=by
 obtain ⟨t9,ht9⟩:∃ t,t = pSweep s k ⟨op,pc,[r0,r1,r2,r3,r4,r5,r6,r7],xs⟩:=⟨_,rfl⟩
 have HC:=hid (show ∀ w1,Below w.heap.size w w1→Calls Tryz.prog 115 #[.agg (uS A B C L a b c d s),.int .i64 k,.agg (uF op pc r0 r1 r2 r3 r4 r5 r6 r7 AS xs cS)] w1 (RetSysN w1 t9) from fun w1 hb=>by have h9:=sweep_any A B C L a b c d s k x AS cS op pc r0 r1 r2 r3 r4 r5 r6 r7 xs w1 hs hg (h.step hb) (hS.step hb) h6 hx;rw [← ht9] at h9;exact h9)
 rw [← ht9]
 clear ht9
 have b2:=heap_alloc_new w (.cells uZ 30)
 have hb:Below w.heap.size w (w.alloc (.cells uZ 30)):=boxed _ _
 have z1:w.heap.size < (w.alloc (.cells uZ 30)).heap.size:=by simp
 have l3:=(Array.getElem?_eq_some_iff.1 hb3).1
 have l4:=(Array.getElem?_eq_some_iff.1 hb4).1
 have l5:=(Array.getElem?_eq_some_iff.1 hb5).1
 replace hb3:=(hb.block _ l3).trans hb3
 replace hb4:=(hb.block _ l4).trans hb4
 replace hb5:=(hb.block _ l5).trans hb5
 clear l3 l4 l5
 go_enter Tryz.func114,Tryz.ntmps114
 go_upto_region 1 with (fail)
 generalize (w.alloc (.cells uZ 30)) = w1 at *
 obtain ⟨y0,y1,y2,y3,y4⟩:=cells5 hb3
 have i0:=cells1 hb4
 obtain ⟨f0,f1,f2,f3,f4,f5,f6,f7,f8,f9,f10⟩:=cells11 hb5
 go_wp2_with (go_at_call 115;(with_reducible refine (HC.out _ hb).mono ?_);rintro e wz hN;have hz:=hN.2;obtain ⟨A9,B9,C9,L9,a9,b9,c9,d9,he,_,_,_,_,_⟩:=hN.1 wz (Turn.refl _ _);subst he;have HN:=hid hN;clear hN;have kR:=(hz.block w.heap.size z1).trans b2;have kb:=bstep hb hz;obtain ⟨q0,q1,q2,q3,q4,qf0,qf1,qf2,qf3,qf4⟩:=cf5 kR)
 refine bodyPost_ret (v:=.agg (uS A9 B9 C9 L9 a9 b9 c9 d9 t9)) (by simp [uS,results,Tryz.results114,go_sem,q0,q1,q2,q3,q4]) rfl ?_
 exact ret_resN _ _ _ _ _ HN.out z1 (by omega) kb
end Go.Proofs.YtfipcdhodojodaaGreat
