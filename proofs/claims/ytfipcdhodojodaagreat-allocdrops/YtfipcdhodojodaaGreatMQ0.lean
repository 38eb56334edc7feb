/- Contracts: a system with another core, over rows that stand; hazelref06.kept. -/
import Derived.Test.YtfipcdhodojodaaGreatScn4
import Derived.Test.YtfipcdhodojodaaGreatKCoD
import Derived.Test.YtfipcdhodojodaaGreatKSho
import Derived.Test.YtfipcdhodojodaaGreatMS2
import Derived.Test.YtfipcdhodojodaaGreatKWal
import Derived.Test.YtfipcdhodojodaaGreatKCpy
import Derived.Test.YtfipcdhodojodaaGreatScn5
import Derived.Test.YtfipcdhodojodaaGreatStkR
namespace Go.Proofs.YtfipcdhodojodaaGreat
open Go.RowKit
set_option maxRecDepth 100000
set_option maxHeartbeats 8000000
set_option linter.unusedVariables false
set_option linter.unusedSimpArgs false
theorem turn_wide {V V':Nat→Prop} {w w3 w2:World} (h:Below w.heap.size w w3) (t:Turn V' w3 w2) (hv:∀ b,V' b→V b ∨ w.heap.size≤b):Turn V w w2 :=
 ⟨t.os.trans h.os,t.tape.trans h.tape,t.output.trans h.output,Nat.le_trans h.size t.size,fun b hb hn=>(t.block b (Nat.lt_of_lt_of_le hb h.size) (fun h9=>by rcases hv b h9 with h8 | h8;exact hn h8;omega)).trans (h.block b hb)⟩
theorem rwith_v (A B AC AL:Option Addr) (c d cC cL:Nat) (s:Sy) (k:Nat) (AF AR:Option Addr) (cF cR:Nat) (x:Co) (V:Nat→Prop) (w0 w:World) (hC:RowC w0 AC s.C) (hw:Below w0.heap.size w0 w) (hV:∀ b,V b→w0.heap.size≤b∧b < w.heap.size) (h2:s.C.length≤1000000) (hF:RowF w0 AF x.F) (hRt:RowV V w AR x.ret) (hk:k < s.C.length) (hcp:x.F.length≤cF∧x.ret.length≤cR) :
  Calls Tryz.prog 10 #[.agg (uS A B AC AL c d cC cL s),.int .i64 k,.agg #[.slice AF x.F.length cF,.int .i64 x.v,.int .i64 x.e,.int .i64 x.x0,.int .i64 x.x1,.int .i64 x.x2,.slice AR x.ret.length cR]] w fun e w'=>∃ (C':Option Addr) (c':Nat),e = .returned (.agg (uS A B C' AL c d c' cL s))∧RowCV V w' C' (s.C.set k x)∧Below w.heap.size w w':=by
 obtain ⟨qs,hq,hsC,hR⟩:=hC.src4
 obtain ⟨b1,bf,b2,bs⟩:=heap3b w (.cells (uS A B AC AL c d cC cL s) 30) (.cells #[.slice AF x.F.length cF,.int .i64 x.v,.int .i64 x.e,.int .i64 x.x0,.int .i64 x.x1,.int .i64 x.x2,.slice AR x.ret.length cR] 39) (.cells uZ 30)
 have hw2:Below w.heap.size w (((w.alloc (.cells (uS A B AC AL c d cC cL s) 30)).alloc (.cells #[.slice AF x.F.length cF,.int .i64 x.v,.int .i64 x.e,.int .i64 x.x0,.int .i64 x.x1,.int .i64 x.x2,.slice AR x.ret.length cR] 39)).alloc (.cells uZ 30)):=bstep (bstep (boxed _ _) (boxed _ _)) (boxed _ _)
 go_enter Tryz.func10,Tryz.ntmps10
 have b1':=b1
 go_wp2_with (at_builtin;refine wpList_append_any rfl _ _ _ rfl 39 _ 7 88 Tryz.underlying27 infoCo rfl (by omega) (w.heap.size+3) rfl (by rw [← bs];exact heap_alloc_new _ _) AC cC (csCells s.C qs) s.C.length (csCells_len hq) rfl (hsC.step (bstep hw (bstep hw2 (boxed _ _)))) h2 (by omega) ?_;intro v7 w7 ho7 hk7;have j7:Below (w.heap.size+3) (((w.alloc (.cells (uS A B AC AL c d cC cL s) 30)).alloc (.cells #[.slice AF x.F.length cF,.int .i64 x.v,.int .i64 x.e,.int .i64 x.x0,.int .i64 x.x1,.int .i64 x.x2,.slice AR x.ret.length cR] 39)).alloc (.cells uZ 30)) w7:=(((boxed _ _).mono (by omega)).trans hk7);obtain ⟨g,cap,rfl,hg1,hg2⟩:=ho7.form (by omega);replace b1:=(j7.block w.heap.size (by omega)).trans b1;replace bf:=(j7.block (w.heap.size+1) (by omega)).trans bf;replace b2:=(j7.block (w.heap.size+1+1) (by omega)).trans b2;have hcat:=ho7.cellAt;have hfz:=ho7.frozenAt;obtain ⟨p0,p1,p2,p3,p4⟩:=cells5 b1;obtain ⟨f0,f1,f2,f3,f4,f5,f6⟩:=cells7 bf;obtain ⟨q0,q1,q2,q3,q4,qf0,qf1,qf2,qf3,qf4⟩:=cf5 b2;obtain ⟨y0,hy0⟩:∃ u,w7.cell? ⟨g,k * 7,none⟩ = some u:=⟨_,(hcat _ (by omega)).trans (List.getElem?_eq_getElem (by rw [ho7.1];omega))⟩;have hz0:=hfz (k * 7);obtain ⟨y1,hy1⟩:∃ u,w7.cell? ⟨g,k * 7+1,none⟩ = some u:=⟨_,(hcat _ (by omega)).trans (List.getElem?_eq_getElem (by rw [ho7.1];omega))⟩;have hz1:=hfz (k * 7+1);obtain ⟨y2,hy2⟩:∃ u,w7.cell? ⟨g,k * 7+2,none⟩ = some u:=⟨_,(hcat _ (by omega)).trans (List.getElem?_eq_getElem (by rw [ho7.1];omega))⟩;have hz2:=hfz (k * 7+2);obtain ⟨y3,hy3⟩:∃ u,w7.cell? ⟨g,k * 7+3,none⟩ = some u:=⟨_,(hcat _ (by omega)).trans (List.getElem?_eq_getElem (by rw [ho7.1];omega))⟩;have hz3:=hfz (k * 7+3);obtain ⟨y4,hy4⟩:∃ u,w7.cell? ⟨g,k * 7+4,none⟩ = some u:=⟨_,(hcat _ (by omega)).trans (List.getElem?_eq_getElem (by rw [ho7.1];omega))⟩;have hz4:=hfz (k * 7+4);obtain ⟨y5,hy5⟩:∃ u,w7.cell? ⟨g,k * 7+5,none⟩ = some u:=⟨_,(hcat _ (by omega)).trans (List.getElem?_eq_getElem (by rw [ho7.1];omega))⟩;have hz5:=hfz (k * 7+5);obtain ⟨y6,hy6⟩:∃ u,w7.cell? ⟨g,k * 7+6,none⟩ = some u:=⟨_,(hcat _ (by omega)).trans (List.getElem?_eq_getElem (by rw [ho7.1];omega))⟩;have hz6:=hfz (k * 7+6);have ne1:w.heap.size ≠ g:=(by omega);have ne2:w.heap.size+1 ≠ g:=(by omega);have ne3:w.heap.size+1+1 ≠ g:=(by omega);have kl:(k:Int) < (s.C.length:Int):=(by omega);clear b1 bf b2 hcat hfz)
 refine bodyPost_ret (v:=.agg (uS A B (some ⟨g,0,none⟩) AL c d cap cL s)) (by simp [uS,results,Tryz.results10,go_sem,q0,q1,q2,q3,q4]) rfl ?_
 have key:∀ w',Turn (fun b=>b = w.heap.size+1+1) (((((((w7.setCell ⟨g,k * 7,none⟩ (.slice AF x.F.length cF)).setCell ⟨g,k * 7+1,none⟩ (.int .i64 x.v)).setCell ⟨g,k * 7+2,none⟩ (.int .i64 x.e)).setCell ⟨g,k * 7+3,none⟩ (.int .i64 x.x0)).setCell ⟨g,k * 7+4,none⟩ (.int .i64 x.x1)).setCell ⟨g,k * 7+5,none⟩ (.int .i64 x.x2)).setCell ⟨g,k * 7+6,none⟩ (.slice AR x.ret.length cR)) w'→(∃ (C':Option Addr) (c':Nat),Ending.returned (.agg (uS A B (some ⟨g,0,none⟩) AL c d cap cL s)) = .returned (.agg (uS A B C' AL c d c' cL s))∧RowCV V w' C' (s.C.set k x)∧Below w.heap.size w w'):=fun w' hT=>by
  obtain ⟨h1,h2'⟩:=own_put7 ho7 csCells_each (i:=k) (by rw [csCells_len hq];exact hk) (.slice AF x.F.length cF) (.int .i64 x.v) (.int .i64 x.e) (.int .i64 x.x0) (.int .i64 x.x1) (.int .i64 x.x2) (.slice AR x.ret.length cR)
  have e:(csCells s.C qs).set k [.slice AF x.F.length cF,.int .i64 x.v,.int .i64 x.e,.int .i64 x.x0,.int .i64 x.x1,.int .i64 x.x2,.slice AR x.ret.length cR] = csCells (s.C.set k x) (qs.set k ⟨AF,cF,AR,cR⟩):=zip_set (f:=coC) (us:=s.C) (ys:=qs) (i:=k) (a:=x) (b:=⟨AF,cF,AR,cR⟩)
  rw [e] at h1
  have tg:Turn (fun b=>b = g) w7 _:=(Turn.refl _ _).grown h2' (fun b hb=>by simpa using hb.symm)
  have tt:Turn (fun b=>b = g ∨ b = w.heap.size+1+1) w7 w':=(tg.mono (fun b _ h=>.inl h)).trans (hT.mono (fun b _ h=>.inr h))
  have hb:Below w.heap.size w w':=(hw2.trans (j7.mono (by omega))).trans (tt.to_below (by have:=hw2.size;have:=j7.size;omega) (fun b h=>by omega))
  have hlq:(qs.set k ⟨AF,cF,AR,cR⟩).length = (s.C.set k x).length:=by simpa using hq
  refine ⟨some ⟨g,0,none⟩,cap,rfl,fun w2 t2=>?_,hb⟩
  have ho2:=own_turn (own_turn h1 hT (fun b hb h=>by simp [Value.ownBlock] at hb;omega)) t2 (fun b hb h=>by simp [Value.ownBlock] at hb;have:=(hV b h).2;omega)
  have hb2:Below w0.heap.size w0 w2:=(bstep hw hb).trans (t2.to_below (bstep hw hb).size (fun b h=>(hV b h).1))
  obtain ⟨A9,c9,e9,hs9⟩:=own_src ho2 csCells_each (by rw [csCells_len hlq];simp) (csCells_one _ _)
  have rC:=Src.rowC hlq hs9 (fun j y q hy hqj=>by
   by_cases ej:j = k
   ·subst ej
    rw [List.getElem?_set_self hk] at hy
    rw [List.getElem?_set_self (by omega)] at hqj
    injection hy with hy
    injection hqj with hqj
    subst hy hqj
    exact ⟨hF.step hb2,(hRt.step hb) w2 t2,hcp⟩
   ·rw [List.getElem?_set_ne (fun h=>ej h.symm)] at hy hqj
    obtain ⟨r1,r2,r3⟩:=hR j y q hy hqj
    exact ⟨r1.step hb2,r2.step hb2,r3⟩)
  obtain ⟨rfl,rfl⟩:A9 = some ⟨g,0,none⟩∧c9 = cap:=by simpa using e9.symm
  exact rC
 exact key _ (turn5 _ _ _ _ _ _ _)
theorem rkept_v (A B C L:Option Addr) (a b c d:Nat) (s:Sy) (k:Nat) (x:Co) (AR:Option Addr) (cR:Nat) (l:List Int) (V:Nat→Prop) (w0 w:World) (hx:s.C[k]? = some x) (h2:s.C.length≤1000000) (hC:RowC w0 C s.C) (hw:Below w0.heap.size w0 w) (hV:∀ b,V b→w0.heap.size≤b∧b < w.heap.size) (hl:RowV V w AR l) (hcR:l.length≤cR) :
  Calls Tryz.prog 74 #[.agg (uS A B C L a b c d s),.int .i64 k,.slice AR l.length cR] w fun e w'=>∃ (C':Option Addr) (c':Nat),e = .returned (.agg (uS A B C' L a b c' d s))∧RowCV V w' C' (s.C.set k (coKeep x l))∧Below w.heap.size w w':=by
 have hkl:k < s.C.length:=(List.getElem?_eq_some_iff.1 hx).1
 have kl:(k:Int) < (s.C.length:Int):=by omega
 have k0:(0:Int)≤(k:Int):=by omega
 have HC0:=hid hC
 obtain ⟨b0,o0,rfl,hbl,hat⟩:=hC (by omega)
 obtain ⟨AF,AQ,cF,cQ,hcs,rF,rQ,hcF,hcQ⟩:=(hat k x hx).cs4
 clear hat
 have u0:w.cell? ⟨b0,o0+k * 7,none⟩ = some (.slice AF x.F.length cF):=(hw.cell hbl).trans (hcs 0 _ rfl)
 have u1:w.cell? ⟨b0,o0+k * 7+1,none⟩ = some (.int .i64 x.v):=(hw.cell hbl).trans (hcs 1 _ rfl)
 have u2:w.cell? ⟨b0,o0+k * 7+2,none⟩ = some (.int .i64 x.e):=(hw.cell hbl).trans (hcs 2 _ rfl)
 have u3:w.cell? ⟨b0,o0+k * 7+3,none⟩ = some (.int .i64 x.x0):=(hw.cell hbl).trans (hcs 3 _ rfl)
 have u4:w.cell? ⟨b0,o0+k * 7+4,none⟩ = some (.int .i64 x.x1):=(hw.cell hbl).trans (hcs 4 _ rfl)
 have u5:w.cell? ⟨b0,o0+k * 7+5,none⟩ = some (.int .i64 x.x2):=(hw.cell hbl).trans (hcs 5 _ rfl)
 have u6:w.cell? ⟨b0,o0+k * 7+6,none⟩ = some (.slice AQ x.ret.length cQ):=(hw.cell hbl).trans (hcs 6 _ rfl)
 have hbw:b0 < w.heap.size:=Nat.lt_of_lt_of_le hbl hw.size
 obtain ⟨b1,b2,bs⟩:=heap2 w (.cells (uS A B (some ⟨b0,o0,none⟩) L a b c d s) 30) (.cells uZ 30)
 have hb:Below w.heap.size w ((w.alloc (.cells (uS A B (some ⟨b0,o0,none⟩) L a b c d s) 30)).alloc (.cells uZ 30)):=bstep (boxed _ _) (boxed _ _)
 have z1:w.heap.size+1 < ((w.alloc (.cells (uS A B (some ⟨b0,o0,none⟩) L a b c d s) 30)).alloc (.cells uZ 30)).heap.size:=by simp
 clear bs hcs
 have HX:=hid hx
 clear hx
 go_enter Tryz.func74,Tryz.ntmps74
 go_upto_region 1 with (fail)
 generalize ((w.alloc (.cells (uS A B (some ⟨b0,o0,none⟩) L a b c d s) 30)).alloc (.cells uZ 30)) = w1 at *
 obtain ⟨p0,p1,p2,p3,p4⟩:=cells5 b1
 have d0:=(hb.cell hbw).trans u0
 have d1:=(hb.cell hbw).trans u1
 have d2:=(hb.cell hbw).trans u2
 have d3:=(hb.cell hbw).trans u3
 have d4:=(hb.cell hbw).trans u4
 have d5:=(hb.cell hbw).trans u5
 have d6:=(hb.cell hbw).trans u6
 go_upto_region 2 with (fail)
 have hj:Below w1.heap.size w1 (w1.alloc (.cells #[.slice AF x.F.length cF,.int .i64 x.v,.int .i64 x.e,.int .i64 x.x0,.int .i64 x.x1,.int .i64 x.x2,.slice AQ x.ret.length cQ] 39)):=boxed _ _
 have b3:=heap_alloc_new w1 (.cells #[.slice AF x.F.length cF,.int .i64 x.v,.int .i64 x.e,.int .i64 x.x0,.int .i64 x.x1,.int .i64 x.x2,.slice AQ x.ret.length cQ] 39)
 have z0:w.heap.size < w1.heap.size:=by omega
 replace b1:=(hj.block _ z0).trans b1
 replace b2:=(hj.block _ z1).trans b2
 replace hb:=bstep hb hj
 have z3:w1.heap.size < (w1.alloc (.cells #[.slice AF x.F.length cF,.int .i64 x.v,.int .i64 x.e,.int .i64 x.x0,.int .i64 x.x1,.int .i64 x.x2,.slice AQ x.ret.length cQ] 39)).heap.size:=by simp
 have g3:w.heap.size+2≤w1.heap.size:=by omega
 replace z1:=Nat.lt_of_lt_of_le z1 hj.size
 clear hj z0 p0 p1 p2 p3 p4 d0 u0 d1 u1 d2 u2 d3 u3 d4 u4 d5 u5 d6 u6
 obtain ⟨vC,hv⟩:∃ v,w1.heap.size = v:=⟨_,rfl⟩
 rw [hv] at b3 z3 g3 ⊢
 clear hv
 generalize (w1.alloc (.cells #[.slice AF x.F.length cF,.int .i64 x.v,.int .i64 x.e,.int .i64 x.x0,.int .i64 x.x1,.int .i64 x.x2,.slice AQ x.ret.length cQ] 39)) = w2 at *
 obtain ⟨g0,g1,g2,g3,g4,g5,g6⟩:=cells7 b3
 obtain ⟨gf0,gf1,gf2,gf3,gf4,gf5,gf6⟩:=frz7 b3
 go_upto_region 3 with (fail)
 have t3:Turn (fun b=>b = vC) w2 (w2.setCell ⟨vC,6,none⟩ (.slice AR l.length cR)):=Turn.set (p:=fun b=>b = vC) (Turn.refl _ _) rfl _ _
 have b3s:(w2.setCell ⟨vC,6,none⟩ (.slice AR l.length cR)).heap[vC]? = some (.cells #[.slice AF x.F.length cF,.int .i64 x.v,.int .i64 x.e,.int .i64 x.x0,.int .i64 x.x1,.int .i64 x.x2,.slice AR l.length cR] 39 (0,0)):=heap_setCell_same w2 vC 6 _ _ _ b3
 replace b1:=(t3.block _ (by omega) (by omega)).trans b1
 replace b2:=(t3.block _ z1 (by omega)).trans b2
 replace hb:=hb.trans (t3.to_below hb.size (fun g hg=>by omega))
 replace z3:=Nat.lt_of_lt_of_le z3 t3.size
 replace z1:=Nat.lt_of_lt_of_le z1 t3.size
 clear t3 b3 g0 gf0 g1 gf1 g2 gf2 g3 gf3 g4 gf4 g5 gf5 g6 gf6
 generalize (w2.setCell ⟨vC,6,none⟩ (.slice AR l.length cR)) = w3 at *
 have hV2:∀ b,(V b ∨ b = w.heap.size+1)→w0.heap.size≤b∧b < w3.heap.size:=fun b h=>by
  have:=hw.size;rcases h with h | h
  ·have:=hV b h;omega
  ·omega
 have hl2:RowV (fun b=>V b ∨ b = w.heap.size+1) w3 AR l:=fun w4 t4=>hl w4 (turn_wide hb t4 (fun b h=>by rcases h with h | h;exact .inl h;exact .inr (by omega)))
 have HWI:=hid (show Calls Tryz.prog 10 #[.agg (uS A B (some ⟨b0,o0,none⟩) L a b c d s),.int .i64 k,.agg #[.slice AF x.F.length cF,.int .i64 x.v,.int .i64 x.e,.int .i64 x.x0,.int .i64 x.x1,.int .i64 x.x2,.slice AR l.length cR]] w3 (fun e w'=>∃ (C':Option Addr) (c':Nat),e = .returned (.agg (uS A B C' L a b c' d s))∧RowCV (fun b=>V b ∨ b = w.heap.size+1) w' C' (s.C.set k (coKeep x l))∧Below w3.heap.size w3 w') from rwith_v A B (some ⟨b0,o0,none⟩) L a b c d s k AF AR cF cR (coKeep x l) (fun b=>V b ∨ b = w.heap.size+1) w0 w3 HC0.out (bstep hw hb) hV2 h2 rF hl2 hkl ⟨hcF,hcR⟩)
 obtain ⟨p0,p1,p2,p3,p4⟩:=cells5 b1
 obtain ⟨g0,g1,g2,g3,g4,g5,g6⟩:=cells7 b3s
 clear hV2 hl2
 go_wp2_with (go_at_call 10;(with_reducible refine HWI.out.mono ?_);rintro e w4 ⟨C4,c4,rfl,rC4,hk4⟩;have kR:=(hk4.block _ z1).trans b2;have kb:=bstep hb hk4;obtain ⟨q0,q1,q2,q3,q4,qf0,qf1,qf2,qf3,qf4⟩:=cf5 kR)
 refine bodyPost_ret (v:=.agg (uS A B C4 L a b c4 d s)) (by simp [uS,results,Tryz.results74,go_sem,q0,q1,q2,q3,q4]) rfl ?_
 have t5:=turn5 w4 (w.heap.size+1) (.slice A s.M.W.length a) (.slice B s.M.G.length b) (.bool s.M.bad) (.slice C4 s.C.length c4) (.slice L s.L.length d)
 exact ⟨C4,c4,rfl,fun w5 t6=>rC4 w5 ((t5.mono (fun b _ h=>.inr h)).trans (t6.mono (fun b _ h=>.inl h))),kb.trans (t5.to_below kb.size (fun g hg=>by omega))⟩
theorem step_append_ontoR {P:Program} {w:World} {ops:Array Oper} {o:Oper} {a:Act} {K:Act→World→Prop} {Q:Exit→Act→World→Prop} {E:Prop} (hgd:o.guard = none) (s x:Operand) (t:TypeId)
  (ho:o.op = .call { callee:=.builtin .append,args:=#[s,x],argTypes:=#[t,t] })
  (base:Nat) (ht:P.underlying t = some (.slice 3)) (hinfo:(P.info? 3).map (fun i=>(i.zero,i.size,i.bytes)) = some (some (.int .i64 0),1,8))
  (v:Value) (n:Nat) (xs:List Int) (hn:n = xs.length) (hs:a.eval s = v) (hown:w.ownsRow base 3 1 v n (xs.map inCells).flatten)
  (A2:Option Addr) (c2 m:Nat) (ys:List Int) (hx:a.eval x = .slice A2 m c2) (hm:m = ys.length) (hY:Row w A2 ys) (hlen:xs.length+ys.length≤1000000) (hbase:base≤w.heap.size)
  (h:∀ v' w',w'.ownsRow base 3 1 v' (xs++ys).length ((xs++ys).map inCells).flatten→w.grownBy w' v.ownBlock→K (a.put o.dst v') w') :
  if Region.wanted o (yielded ops a.tmps) = true then Oper.wp P o a w K Q else E:=by
 subst hn;subst hm
 have ef:∀ zs:List Int,(zs.map inCells).flatten = zs.map (Value.int .i64):=fun zs=>by
  induction zs with
  | nil=>rfl
  | cons z zs ih=>simp only [List.map_cons,List.flatten_cons,ih];rfl
 rcases Nat.eq_zero_or_pos ys.length with h0 | h0
 ·have e:ys = []:=List.eq_nil_of_length_eq_zero h0
  subst e
  have hw:Region.wanted o (yielded ops a.tmps) = true:=by simp [Region.wanted,hgd]
  rw [if_pos hw]
  obtain ⟨i,hi,hz0,hz1,hz2⟩:=info_parts hinfo
  obtain ⟨A1,c1,ev⟩:=own_val hown
  have hcap:xs.length≤c1:=by rw [ev] at hown;exact own_cap hown
  have hsrc:Go.Src P i.size t (.slice A2 0 c2) 0 [] w:=by
   cases A2 with
   | none=>exact Go.Src.ofNil w ht c2
   | some ad=>exact Go.Src.ofSlice w ht ad 0 c2 [] (by simp) (fun j v hj=>by simp at hj) (fun u hu=>by cases hu)
  have hr:=run_append_nothing (P:=P) w t t o.type 3 i ht hi A1 xs.length c1 hcap (.slice A2 0 c2) hsrc
  have h9:=h v w (by rw [List.append_nil];exact hown) (World.grownBy.refl _ _)
  unfold Oper.wp execOp
  simp only [ho,resolve,invoke,builtin,Sem.run_bind,Sem.run_pure,Result.andThen_ok,List.map_toArray,List.map_cons,List.map_nil,hs,hx,ev,hr,List.length_nil]
  rw [ev] at h9
  exact h9
 ·obtain ⟨b,of,rfl,_,hc⟩:=hY h0
  refine step_append_onto hgd s x t ho base 3 (.int .i64 0) 1 8 ht hinfo rfl (by omega) v xs.length _ hs hown ⟨b,of,none⟩ ys.length c2 (ys.map (Value.int .i64)) hx (by simp) (fun j u hj=>?_) (fun u hu=>?_) hlen (by omega) hbase (fun v' w' h1 h2 h3=>?_)
  ·simp only [List.getElem?_map,Option.map_eq_some_iff] at hj
   obtain ⟨y,hy,rfl⟩:=hj
   rw [Addr.add_lit]
   exact hc j y hy
  ·obtain ⟨y,_,rfl⟩:=List.mem_map.1 hu
   rfl
  ·refine h v' w' ?_ h2
   rw [ef,List.map_append,List.length_append,← ef xs]
   exact h1
theorem SG.put5 {w:World} {s:Sy} {A B C L:Option Addr} {a b c d:Nat} {fc:Array Value} {A2 B2:Option Addr} {a2 b2:Nat} {wk:World} {m:Ar} (h:SG w s A B C L a b c d fc wk) (r1:Row wk A2 m.W) (r2:Row wk B2 m.G) (n1:0 < m.W.length→∀ q,A2 = some q→q.block ≠ w.heap.size+1) (n2:0 < m.G.length→∀ q,B2 = some q→q.block ≠ w.heap.size+1) :
  SG w (syMem s m) A2 B2 C L a2 b2 c d fc (((((wk.setCell ⟨w.heap.size,0,none⟩ (.slice A2 m.W.length a2)).setCell ⟨w.heap.size,1,none⟩ (.slice B2 m.G.length b2)).setCell ⟨w.heap.size,2,none⟩ (.bool m.bad)).setCell ⟨w.heap.size,3,none⟩ (.slice C s.C.length c)).setCell ⟨w.heap.size,4,none⟩ (.slice L s.L.length d)):=by
 have t:=turn5 wk w.heap.size (.slice A2 m.W.length a2) (.slice B2 m.G.length b2) (.bool m.bad) (.slice C s.C.length c) (.slice L s.L.length d)
 have hl:=h.lt
 have ni:=noInt_sys h.bS
 refine ⟨?_,(t.block _ (by omega) (by omega)).trans h.bF,(t.block _ hl (by omega)).trans h.bR,r1.turnN t ni,r2.turnN t ni,h.rC.turn (t.mono (fun _ _ h=>.inl h)),h.rL,n1,n2,h.be.trans (t.to_below h.be.size (fun g hg=>by omega))⟩
 have e1:=heap_setCell_same wk w.heap.size 0 _ _ (.slice A2 m.W.length a2) h.bS
 have e2:=heap_setCell_same _ w.heap.size 1 _ _ (.slice B2 m.G.length b2) e1
 have e3:=heap_setCell_same _ w.heap.size 2 _ _ (.bool m.bad) e2
 have e4:=heap_setCell_same _ w.heap.size 3 _ _ (.slice C s.C.length c) e3
 exact heap_setCell_same _ w.heap.size 4 _ _ (.slice L s.L.length d) e4
theorem wh_below {w w2:World} {A A3:Option Addr} (h:w.heap.size≤w2.heap.size) (g:Wh w2 A A3):Wh w A A3:=by
 rcases g with g | g
 ·exact .inl g
 ·exact .inr (fun q e=>Nat.le_trans h (g q e))
theorem rlimit_any (n:Int) (w:World) (h0:-1000000000≤n) (h1:n≤1000000000):Calls Tryz.prog 75 #[.int .i64 n] w fun e w'=>e = .returned (.int .i64 (3 * n+1))∧w = w':=by
 have e1:IntKind.i64.wrap (3 * n) = 3 * n:=IntWalk.i64_in _ (by omega)
 have e2:IntKind.i64.wrap (3 * n+1) = 3 * n+1:=IntWalk.i64_in _ (by omega)
 go_enter Tryz.func75,Tryz.ntmps75
 go_wp2
 go_ret
 first
  | exact ⟨rfl,rfl⟩
  | (refine ⟨?_,rfl⟩;simp [e1,e2])
theorem rret_1 (A B C L:Option Addr) (a b c d:Nat) (s:Sy) (k:Nat) (x:Co) (AS:Option Addr) (cS:Nat) (op r0 r1 r2 r3 r4 r5 r6 r7:Int) (xs:List Int) (w:World) (hs:SyFew s) (hg:2≤s.M.G.length) (h:RS w s A B C L) (hS:Row w AS xs) (h6:xs.length≤1000000) (hF:∀ x ∈ s.C,x.F.length≤999998) (hx:s.C[k]? = some x)  :
  Calls Tryz.prog 58 #[.agg (uS A B C L a b c d s),.int .i64 k,.agg (uF op 1 r0 r1 r2 r3 r4 r5 r6 r7 AS xs cS)] w (RetSys w (pBack s k r0 0)):=by
 have hkl:k < s.C.length:=(List.getElem?_eq_some_iff.1 hx).1
 have kl:(k:Int) < (s.C.length:Int):=by omega
 have k0:(0:Int)≤(k:Int):=by omega
 have h2:=hs.2.2.1
 have hC0:=h.C
 obtain ⟨b0,o0,rfl,hbl,hat⟩:=h.C (by omega)
 obtain ⟨AF,AR,cF,cR,hcs,rF,rR,hcF,hcR⟩:=(hat k x hx).cs4
 have c6:w.cell? ⟨b0,o0+k * 7+6,none⟩ = some (.slice AR x.ret.length cR):=hcs 6 _ rfl
 have hrl:x.ret.length≤1000000:=(hs.2.2.2.2 x (List.mem_of_getElem? hx)).1
 have HX:=hid hx
 have HC0:=hid hC0
 clear hat hcs hx rF hcF hC0
 have h0:=hs.1
 have h1:=hs.2.1
 have H:=SF.start w s A B (some ⟨b0,o0,none⟩) L a b c d (uF op 1 r0 r1 r2 r3 r4 r5 r6 r7 AS xs cS) h
 clear h
 go_enter Tryz.func58,Tryz.ntmps58
 go_upto_region 1 with (fail)
 generalize (((w.alloc (.cells (uS A B (some ⟨b0,o0,none⟩) L a b c d s) 30)).alloc (.cells (uF op 1 r0 r1 r2 r3 r4 r5 r6 r7 AS xs cS) 60)).alloc (.cells uZ 30)) = w1 at *
 obtain ⟨z0,z1,z2⟩:=H.zs
 have d6:=(H.be.cell hbl).trans c6
 obtain ⟨p0,p1,p2,p3,p4⟩:=cells5 H.bS
 obtain ⟨f0,f1,f2,f3,f4,f5,f6,f7,f8,f9,f10⟩:=cells11 H.bF
 go_wp2_with (go_at_call 43;(with_reducible refine (rback_u A B (some ⟨b0,o0,none⟩) L a b c d s k r0 0 _ hs H.rs).mono ?_);rintro e wz ⟨A9,B9,C9,L9,a9,b9,c9,d9,rfl,rW,rG,rC,rL,hz⟩;have kR:=(hz.block (w.heap.size+1+1) z2).trans H.bR;have kb:=bstep H.be hz;obtain ⟨q0,q1,q2,q3,q4,qf0,qf1,qf2,qf3,qf4⟩:=cf5 kR)
 refine bodyPost_ret (v:=.agg (uS A9 B9 C9 L9 a9 b9 c9 d9 (pBack s k r0 0))) (by simp [uS,results,Tryz.results58,go_sem,q0,q1,q2,q3,q4]) rfl ?_
 exact ret_res kR kb rW rG rC rL
theorem rret_x (A B C L:Option Addr) (a b c d:Nat) (s:Sy) (k:Nat) (x:Co) (AS:Option Addr) (cS:Nat) (op pc r0 r1 r2 r3 r4 r5 r6 r7:Int) (xs:List Int) (w:World) (hs:SyFew s) (hg:2≤s.M.G.length) (h:RS w s A B C L) (hS:Row w AS xs) (h6:xs.length≤1000000) (hF:∀ x ∈ s.C,x.F.length≤999998) (hx:s.C[k]? = some x) (q0:¬ pc = 0) (q1:¬ pc = 1) :
  Calls Tryz.prog 58 #[.agg (uS A B C L a b c d s),.int .i64 k,.agg (uF op pc r0 r1 r2 r3 r4 r5 r6 r7 AS xs cS)] w (RetSys w (s)):=by
 have e0:(pc != 0) = true:=by simpa using q0
 have e1:(pc == 1) = false:=by simpa using q1
 clear q0 q1
 have hkl:k < s.C.length:=(List.getElem?_eq_some_iff.1 hx).1
 have kl:(k:Int) < (s.C.length:Int):=by omega
 have k0:(0:Int)≤(k:Int):=by omega
 have h2:=hs.2.2.1
 have hC0:=h.C
 obtain ⟨b0,o0,rfl,hbl,hat⟩:=h.C (by omega)
 obtain ⟨AF,AR,cF,cR,hcs,rF,rR,hcF,hcR⟩:=(hat k x hx).cs4
 have c6:w.cell? ⟨b0,o0+k * 7+6,none⟩ = some (.slice AR x.ret.length cR):=hcs 6 _ rfl
 have hrl:x.ret.length≤1000000:=(hs.2.2.2.2 x (List.mem_of_getElem? hx)).1
 have HX:=hid hx
 have HC0:=hid hC0
 clear hat hcs hx rF hcF hC0
 have h0:=hs.1
 have h1:=hs.2.1
 have H:=SF.start w s A B (some ⟨b0,o0,none⟩) L a b c d (uF op pc r0 r1 r2 r3 r4 r5 r6 r7 AS xs cS) h
 clear h
 go_enter Tryz.func58,Tryz.ntmps58
 go_upto_region 1 with (fail)
 generalize (((w.alloc (.cells (uS A B (some ⟨b0,o0,none⟩) L a b c d s) 30)).alloc (.cells (uF op pc r0 r1 r2 r3 r4 r5 r6 r7 AS xs cS) 60)).alloc (.cells uZ 30)) = w1 at *
 obtain ⟨z0,z1,z2⟩:=H.zs
 have d6:=(H.be.cell hbl).trans c6
 obtain ⟨p0,p1,p2,p3,p4⟩:=cells5 H.bS
 obtain ⟨f0,f1,f2,f3,f4,f5,f6,f7,f8,f9,f10⟩:=cells11 H.bF
 have kR:=H.bR
 obtain ⟨q0,q1,q2,q3,q4,qf0,qf1,qf2,qf3,qf4⟩:=cf5 kR
 go_wp2_with fail
 refine bodyPost_ret (v:=.agg (uS A B (some ⟨b0,o0,none⟩) L a b c d s)) (by simp [uS,results,Tryz.results58,go_sem,q0,q1,q2,q3,q4]) rfl ?_
 exact ret_res kR H.be H.rs.W H.rs.G H.rs.C H.rs.L
theorem rret_full (A B C L:Option Addr) (a b c d:Nat) (s:Sy) (k:Nat) (x:Co) (AS:Option Addr) (cS:Nat) (op r0 r1 r2 r3 r4 r5 r6 r7:Int) (xs:List Int) (w:World) (hs:SyFew s) (hg:2≤s.M.G.length) (h:RS w s A B C L) (hS:Row w AS xs) (h6:xs.length≤1000000) (hF:∀ x ∈ s.C,x.F.length≤999998) (hx:s.C[k]? = some x) (hq:200≤x.ret.length) :
  Calls Tryz.prog 58 #[.agg (uS A B C L a b c d s),.int .i64 k,.agg (uF op 0 r0 r1 r2 r3 r4 r5 r6 r7 AS xs cS)] w (RetSys w (pBack s k 0 2)):=by
 have q2:(200:Int)≤(x.ret.length:Int):=by omega
 clear hq
 have hkl:k < s.C.length:=(List.getElem?_eq_some_iff.1 hx).1
 have kl:(k:Int) < (s.C.length:Int):=by omega
 have k0:(0:Int)≤(k:Int):=by omega
 have h2:=hs.2.2.1
 have hC0:=h.C
 obtain ⟨b0,o0,rfl,hbl,hat⟩:=h.C (by omega)
 obtain ⟨AF,AR,cF,cR,hcs,rF,rR,hcF,hcR⟩:=(hat k x hx).cs4
 have c6:w.cell? ⟨b0,o0+k * 7+6,none⟩ = some (.slice AR x.ret.length cR):=hcs 6 _ rfl
 have hrl:x.ret.length≤1000000:=(hs.2.2.2.2 x (List.mem_of_getElem? hx)).1
 have HX:=hid hx
 have HC0:=hid hC0
 clear hat hcs hx rF hcF hC0
 have h0:=hs.1
 have h1:=hs.2.1
 have H:=SF.start w s A B (some ⟨b0,o0,none⟩) L a b c d (uF op 0 r0 r1 r2 r3 r4 r5 r6 r7 AS xs cS) h
 clear h
 go_enter Tryz.func58,Tryz.ntmps58
 go_upto_region 1 with (fail)
 generalize (((w.alloc (.cells (uS A B (some ⟨b0,o0,none⟩) L a b c d s) 30)).alloc (.cells (uF op 0 r0 r1 r2 r3 r4 r5 r6 r7 AS xs cS) 60)).alloc (.cells uZ 30)) = w1 at *
 obtain ⟨z0,z1,z2⟩:=H.zs
 have d6:=(H.be.cell hbl).trans c6
 obtain ⟨p0,p1,p2,p3,p4⟩:=cells5 H.bS
 obtain ⟨f0,f1,f2,f3,f4,f5,f6,f7,f8,f9,f10⟩:=cells11 H.bF
 go_wp2_with (go_at_call 43;(with_reducible refine (rback_u A B (some ⟨b0,o0,none⟩) L a b c d s k 0 2 _ hs H.rs).mono ?_);rintro e wz ⟨A9,B9,C9,L9,a9,b9,c9,d9,rfl,rW,rG,rC,rL,hz⟩;have kR:=(hz.block (w.heap.size+1+1) z2).trans H.bR;have kb:=bstep H.be hz;obtain ⟨q0,q1,q2,q3,q4,qf0,qf1,qf2,qf3,qf4⟩:=cf5 kR)
 refine bodyPost_ret (v:=.agg (uS A9 B9 C9 L9 a9 b9 c9 d9 (pBack s k 0 2))) (by simp [uS,results,Tryz.results58,go_sem,q0,q1,q2,q3,q4]) rfl ?_
 exact ret_res kR kb rW rG rC rL
end Go.Proofs.YtfipcdhodojodaaGreat
