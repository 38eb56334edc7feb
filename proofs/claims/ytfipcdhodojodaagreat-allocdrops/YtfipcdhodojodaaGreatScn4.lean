/- A system whose cores' row stands whatever becomes of a call's variables. Contract: scan.keep, by the program. -/
import Derived.Test.YtfipcdhodojodaaGreatScn1
import Derived.Test.YtfipcdhodojodaaGreatStk6
namespace Go.Proofs.YtfipcdhodojodaaGreat
open Go.RowKit
set_option maxRecDepth 100000
set_option maxHeartbeats 4000000
set_option linter.unusedVariables false
set_option linter.unusedSimpArgs false
def RowCV (V:Nat→Prop) (w:World) (C:Option Addr) (cs:List Co):Prop:=∀ w',Turn V w w'→RowC w' C cs
def RowV (V:Nat→Prop) (w:World) (A:Option Addr) (xs:List Int):Prop:=∀ w',Turn V w w'→Row w' A xs
theorem turn_of_below {V:Nat→Prop} {w w':World} (h:Below w.heap.size w w'):Turn V w w':=Turn.below (Turn.refl _ _) h
theorem RowCV.step {V:Nat→Prop} {w w':World} {C:Option Addr} {cs:List Co} (h:RowCV V w C cs) (hb:Below w.heap.size w w'):RowCV V w' C cs:=fun w2 t=>h w2 ((turn_of_below hb).trans t)
theorem RowCV.turn {V:Nat→Prop} {w w':World} {C:Option Addr} {cs:List Co} (h:RowCV V w C cs) (hb:Turn V w w'):RowCV V w' C cs:=fun w2 t=>h w2 (hb.trans t)
theorem RowCV.row {V:Nat→Prop} {w:World} {C:Option Addr} {cs:List Co} (h:RowCV V w C cs):RowC w C cs:=h w (Turn.refl _ _)
theorem RowV.step {V:Nat→Prop} {w w':World} {A:Option Addr} {xs:List Int} (h:RowV V w A xs) (hb:Below w.heap.size w w'):RowV V w' A xs:=fun w2 t=>h w2 ((turn_of_below hb).trans t)
theorem RowV.row {V:Nat→Prop} {w:World} {A:Option Addr} {xs:List Int} (h:RowV V w A xs):Row w A xs:=h w (Turn.refl _ _)
theorem RowV.of {V:Nat→Prop} {w:World} {A:Option Addr} {xs:List Int} (h:Row w A xs) (hA:∀ q,A = some q→¬ V q.block):RowV V w A xs:=fun w' t hn=>by
 obtain ⟨b,o,e,hl,hc⟩:=h hn
 exact ⟨b,o,e,Nat.lt_of_lt_of_le hl t.size,fun j x hx=>(t.cell hl (hA _ e)).trans (hc j x hx)⟩
theorem RowV.old {V:Nat→Prop} {w0 w:World} {A:Option Addr} {xs:List Int} (h:Row w0 A xs) (hb:Below w0.heap.size w0 w) (hV:∀ b,V b→w0.heap.size≤b):RowV V w A xs:=fun w' t=>h.step (hb.trans (t.to_below hb.size hV))
theorem RowCV.old {V:Nat→Prop} {w0 w:World} {C:Option Addr} {cs:List Co} (h:RowC w0 C cs) (hb:Below w0.heap.size w0 w) (hV:∀ b,V b→w0.heap.size≤b):RowCV V w C cs:=fun w' t=>h.step (hb.trans (t.to_below hb.size hV))
theorem set6 {cs:List Co} {qs:List Pq} {k:Nat} {x:Co} {q:Pq} (hx:cs[k]? = some x) (hq:qs[k]? = some q) (l:List Int) (A:Option Addr) (c:Nat) :
  (csCells cs qs).flatten.set (k * 7+6) (.slice A l.length c) = (csCells (cs.set k (coKeep x l)) (qs.set k ⟨q.AF,q.cF,A,c⟩)).flatten:=by
 have h0:(csCells cs qs)[k]? = some (coC x q):=zip_at hx hq
 have h1:=flat_setL (k:=7) [.slice A l.length c] (r:=6) (csCells_each (cs:=cs) (qs:=qs)) h0 (by simp)
 have h2:setL (csCells cs qs).flatten (k * 7+6) [.slice A l.length c] = (csCells cs qs).flatten.set (k * 7+6) (.slice A l.length c):=rfl
 rw [h2] at h1
 rw [h1]
 have h3:setL (coC x q) 6 [.slice A l.length c] = coC (coKeep x l) ⟨q.AF,q.cF,A,c⟩:=rfl
 rw [h3]
 have h4:(csCells cs qs).set k (coC (coKeep x l) ⟨q.AF,q.cF,A,c⟩) = csCells (cs.set k (coKeep x l)) (qs.set k ⟨q.AF,q.cF,A,c⟩):=zip_set (f:=coC) (us:=cs) (ys:=qs) (i:=k) (a:=coKeep x l) (b:=⟨q.AF,q.cF,A,c⟩)
 rw [h4]
theorem keep_row {V:Nat→Prop} {w0 wk w':World} {cs:List Co} {qs:List Pq} {g cap k:Nat} {x:Co} {q:Pq} {l:List Int} {AR:Option Addr} {cR B:Nat}
  (hq:qs.length = cs.length) (hR:∀ (j:Nat) (x:Co) (q:Pq),cs[j]? = some x→qs[j]? = some q→RowF w0 q.AF x.F∧Row w0 q.AR x.ret∧(x.F.length≤q.cF∧x.ret.length≤q.cR))
  (ho:wk.ownsRow B 39 7 (.slice (some ⟨g,0,none⟩) cs.length cap) cs.length (csCells cs qs).flatten) (hx:cs[k]? = some x) (hqk:qs[k]? = some q) (hl:∀ w'',Turn V w' w''→Row w'' AR l) (hcR:l.length≤cR)
  (hb:Below w0.heap.size w0 w') (hV:∀ b,V b→w0.heap.size≤b∧b < B) (t:Turn V (wk.setCell ⟨g,k * 7+6,none⟩ (.slice AR l.length cR)) w') :
  RowCV V w' (some ⟨g,0,none⟩) (cs.set k (coKeep x l)):=fun w2 t2=>by
 have h1:=(ho.stored (k * 7+6) (.slice AR l.length cR)).1
 rw [set6 hx hqk] at h1
 have hg:=(ho.lt g rfl).1
 have hlq:(qs.set k ⟨q.AF,q.cF,AR,cR⟩).length = (cs.set k (coKeep x l)).length:=by simpa using hq
 obtain ⟨A9,c9,e9,hs9⟩:=own_src (own_turn h1 (t.trans t2) (fun b hb' h=>by simp [Value.ownBlock] at hb';have:=(hV b h).2;omega)) csCells_each (by rw [csCells_len hlq];simp) (csCells_one _ _)
 obtain ⟨rfl,rfl⟩:A9 = some ⟨g,0,none⟩∧c9 = cap:=by simpa using e9.symm
 have hb2:Below w0.heap.size w0 w2:=hb.trans (t2.to_below hb.size (fun b h=>(hV b h).1))
 have hkl:k < cs.length:=(List.getElem?_eq_some_iff.1 hx).1
 refine Src.rowC hlq hs9 (fun j y p hy hp=>?_)
 by_cases ej:j = k
 ·subst ej
  rw [List.getElem?_set_self hkl] at hy
  rw [List.getElem?_set_self (by omega)] at hp
  injection hy with hy
  injection hp with hp
  subst hy hp
  obtain ⟨r1,_,r3⟩:=hR j x q hx hqk
  exact ⟨r1.step hb2,hl w2 t2,r3.1,hcR⟩
 ·rw [List.getElem?_set_ne (fun h=>ej h.symm)] at hy hp
  obtain ⟨r1,r2,r3⟩:=hR j y p hy hp
  exact ⟨r1.step hb2,r2.step hb2,r3⟩
theorem keep_any (A B C L:Option Addr) (a b c d:Nat) (s:Sy) (k:Nat) (x:Co) (AR:Option Addr) (cR:Nat) (l:List Int) (V:Nat→Prop) (w0 w:World) (hx:s.C[k]? = some x) (h2:s.C.length≤1000000) (hC:RowC w0 C s.C) (hw:Below w0.heap.size w0 w) (hV:∀ b,V b→w0.heap.size≤b∧b < w.heap.size) (hl:RowV V w AR l) (hcR:l.length≤cR) :
  Calls Tryz.prog 120 #[.agg (uS A B C L a b c d s),.int .i64 k,.slice AR l.length cR] w fun e w'=>∃ (C':Option Addr) (c':Nat),e = .returned (.agg (uS A B C' L a b c' d s))∧RowCV V w' C' (s.C.set k (coKeep x l))∧Below w.heap.size w w':=by
 obtain ⟨qs,hq,hsC,hR⟩:=hC.src4
 have hkl:k < s.C.length:=(List.getElem?_eq_some_iff.1 hx).1
 have kl:(k:Int) < (s.C.length:Int):=by omega
 have k0:(0:Int)≤(k:Int):=by omega
 obtain ⟨q,hqk⟩:=some_of hq hx
 obtain ⟨b1,b2,bs⟩:=heap2 w (.cells (uS A B C L a b c d s) 30) (.cells uZ 30)
 have hb:Below w.heap.size w ((w.alloc (.cells (uS A B C L a b c d s) 30)).alloc (.cells uZ 30)):=bstep (boxed _ _) (boxed _ _)
 have z1:w.heap.size+1 < ((w.alloc (.cells (uS A B C L a b c d s) 30)).alloc (.cells uZ 30)).heap.size:=by simp
 have z9:w.heap.size+2≤((w.alloc (.cells (uS A B C L a b c d s) 30)).alloc (.cells uZ 30)).heap.size:=by simp
 clear bs
 have HR:=hid hR
 have HX:=hid hx
 have HQ:=hid hqk
 have HL:=hid hl
 have HV:=hid hV
 have HQ2:=hid hq
 clear hR hx hqk hl hV
 go_enter Tryz.func120,Tryz.ntmps120
 go_upto_region 1 with (fail)
 generalize ((w.alloc (.cells (uS A B C L a b c d s) 30)).alloc (.cells uZ 30)) = w1 at *
 have z0:w.heap.size < w1.heap.size:=by omega
 obtain ⟨p0,p1,p2,p3,p4,pf0,pf1,pf2,pf3,pf4⟩:=cf5 b1
 go_upto_region 2 with (go_at_call 81;(with_reducible refine (cloneCo C s.C.length c (csCells s.C qs) _ (hsC.step (bstep hw hb)) (csCells_len hq) h2).mono ?_);rintro e w2 ⟨v2,rfl,ho,hk⟩;obtain ⟨g,cap,rfl,hg1,hg2⟩:=ho.form (by omega);replace p3:=(hk.cell z0).trans p3;replace pf3:=(hk.frozen z0).trans pf3)
 clear p0 p1 p2 p3 p4 pf0 pf1 pf2 pf3 pf4 hq
 replace b1:=(hk.block w.heap.size z0).trans b1
 replace b2:=(hk.block (w.heap.size+1) z1).trans b2
 replace z0:=Nat.lt_of_lt_of_le z0 hk.size
 replace z1:=Nat.lt_of_lt_of_le z1 hk.size
 have hb2:=bstep hb hk
 have hg3:w.heap.size+2≤g:=by omega
 have t3:Turn (fun b=>b = w.heap.size) w2 (w2.setCell ⟨w.heap.size,3,none⟩ (.slice (some ⟨g,0,none⟩) s.C.length cap)):=Turn.set (p:=fun b=>b = w.heap.size) (Turn.refl _ _) rfl _ _
 have b1:(w2.setCell ⟨w.heap.size,3,none⟩ (.slice (some ⟨g,0,none⟩) s.C.length cap)).heap[w.heap.size]? = some (.cells (uS A B (some ⟨g,0,none⟩) L a b cap d s) 30 (0,0)):=heap_setCell_same w2 w.heap.size 3 _ _ (.slice (some ⟨g,0,none⟩) s.C.length cap) b1
 replace b2:=(t3.block (w.heap.size+1) z1 (by omega)).trans b2
 have ho3:=own_turn ho t3 (fun b hb h=>by simp [Value.ownBlock] at hb;omega)
 have hb3:=hb2.trans (t3.to_below hb2.size (fun b h=>by omega))
 replace z0:=Nat.lt_of_lt_of_le z0 t3.size
 replace z1:=Nat.lt_of_lt_of_le z1 t3.size
 have hg4:g < (w2.setCell ⟨w.heap.size,3,none⟩ (.slice (some ⟨g,0,none⟩) s.C.length cap)).heap.size:=by have:=t3.size;omega
 clear t3 hb2 ho hk hb hsC
 generalize (w2.setCell ⟨w.heap.size,3,none⟩ (.slice (some ⟨g,0,none⟩) s.C.length cap)) = w3 at *
 obtain ⟨p0,p1,p2,p3,p4⟩:=cells5 b1
 have u6:∃ u,w3.cell? ⟨g,k * 7+6,none⟩ = some u:=⟨_,(ho3.cellAt _ (by have:(k+1) * 7≤s.C.length * 7:=Nat.mul_le_mul_right _ hkl;omega)).trans (flat_at (k:=7) (r:=6) (csCells_each (cs:=s.C) (qs:=qs)) (zip_at HX.out HQ.out) rfl)⟩
 obtain ⟨u,u6⟩:=u6
 have f6:w3.frozen? ⟨g,k * 7+6,none⟩ = false:=ho3.frozenAt _
 go_upto_region 3 with (fail)
 have t4:Turn (fun b=>b = g) w3 (w3.setCell ⟨g,k * 7+6,none⟩ (.slice AR l.length cR)):=Turn.set (p:=fun b=>b = g) (Turn.refl _ _) rfl _ _
 obtain ⟨w4,hw4⟩:∃ w4,w4 = w3.setCell ⟨g,k * 7+6,none⟩ (.slice AR l.length cR):=⟨_,rfl⟩
 rw [← hw4] at t4 ⊢
 replace b1:=(t4.block w.heap.size z0 (by omega)).trans b1
 replace b2:=(t4.block (w.heap.size+1) z1 (by omega)).trans b2
 have hb4:=hb3.trans (t4.to_below hb3.size (fun b h=>by omega))
 clear p0 p1 p2 p3 p4 u6 f6
 obtain ⟨p0,p1,p2,p3,p4⟩:=cells5 b1
 obtain ⟨q0,q1,q2,q3,q4,qf0,qf1,qf2,qf3,qf4⟩:=cf5 b2
 have HW4:=hid hw4
 clear hw4
 go_wp2_with fail
 refine bodyPost_ret (v:=.agg (uS A B (some ⟨g,0,none⟩) L a b cap d s)) (by simp [uS,results,Tryz.results120,go_sem,q0,q1,q2,q3,q4]) rfl ?_
 have key:∀ w',Turn (fun b=>b = w.heap.size+1) w4 w'→RowCV V w' (some ⟨g,0,none⟩) (s.C.set k (coKeep x l))∧Below w.heap.size w w':=fun w' hT=>by
  have hb5:=hb4.trans (hT.to_below hb4.size (fun b h=>by omega))
  refine ⟨?_,hb5⟩
  have tG:Turn (fun b=>b = w.heap.size+1) w4 w':=hT
  have hgg:∀ b,V b→b < w.heap.size:=fun b h=>(HV.out b h).2
  have H:RowCV (fun b=>V b ∨ b = w.heap.size+1) w' (some ⟨g,0,none⟩) (s.C.set k (coKeep x l)):=by
   refine keep_row (AR:=AR) (B:=w1.heap.size) (V:=fun b=>V b ∨ b = w.heap.size+1) (w0:=w0) (wk:=w3) (q:=q) HQ2.out HR.out ho3 HX.out HQ.out (fun w'' t''=>?_) hcR (bstep hw hb5) (fun b h=>?_) ?_
   ·exact HL.out w'' (((turn_of_below (V:=fun b=>V b ∨ b = w.heap.size+1) hb5).trans t'').mono (fun b hl h=>h.elim id (fun h=>by omega)))
   ·rcases h with h | h
    ·have:=HV.out b h;have:=hgg b h;omega
    ·have:=hw.size;omega
   ·rw [← HW4.out];exact hT.mono (fun _ _ h=>.inr h)
  exact fun w2 t2=>H w2 (t2.mono (fun _ _ h=>.inl h))
 refine ⟨_,_,rfl,key _ (turn5 _ _ _ _ _ _ _)⟩
end Go.Proofs.YtfipcdhodojodaaGreat
