/- Contracts: hazelref07.part, Parts, Own, Start, by the document; alloc.Start where it says no. -/
import Derived.Test.YthpflcknommpdaaGreatKAlB
import Derived.Deep.RegionHeld3
namespace Go.Proofs.YthpflcknommpdaaGreat
open Go.RowKit
set_option maxRecDepth 100000
set_option maxHeartbeats 4000000
set_option linter.unusedVariables false
set_option linter.unusedSimpArgs false
theorem rpart_any (A B C L:Option Addr) (a b c d:Nat) (s:Sy) (z:Int) (w:World) (hG:Row w B s.M.G) (hl:s.M.G.length≤1000000) (hg:1≤s.M.G.length) :
  Calls Tryz.prog 75 #[.agg (uS A B C L a b c d s),.int .i64 z] w (RetL w (pPart s.M.G z)):=by
 have b1:=heap_alloc_new w (.cells (uS A B C L a b c d s) 28)
 have hb:Below w.heap.size w (w.alloc (.cells (uS A B C L a b c d s) 28)):=boxed _ _
 have z1:w.heap.size < (w.alloc (.cells (uS A B C L a b c d s) 28)).heap.size:=by simp
 go_enter Tryz.func75,Tryz.ntmps75
 go_upto_region 1 with (fail)
 generalize (w.alloc (.cells (uS A B C L a b c d s) 28)) = w1 at *
 go_wp2_with fail
 go_loopw [5,6] (fun v i wr=>∃ k:Nat,1≤k∧k≤s.M.G.length∧i = .int .i64 k∧wr.ownsRow w1.heap.size 3 1 v (pPartTo s.M.G z k).length ((pPartTo s.M.G z k).map inCells).flatten∧Below w1.heap.size w1 wr) (fun _ i _=>s.M.G.length - (intOf i).toNat)
 case atStart=>exact ⟨1,Nat.le_refl _,hg,rfl,by rw [pPartTo_no (fun h=>by omega)];exact part_nil _ _ _ _,Below.refl _ _⟩
 case round =>
  obtain ⟨k,hk0,hk,rfl,ho,hk1⟩:=hrel
  obtain ⟨A1,c1,rfl⟩:=own_val ho
  have b1r:=(hk1.block w.heap.size z1).trans b1
  obtain ⟨-,y1⟩:=cells2 b1r
  by_cases hlt:k < s.M.G.length
  ·have kl:(k:Int) < (s.M.G.length:Int):=by omega
   have k0:(0:Int)≤(k:Int):=by omega
   obtain ⟨u,hu⟩:∃ u,u = s.M.G.getD k 0:=⟨_,rfl⟩
   obtain ⟨gG,oG,rfl,hbG,hatG⟩:=hG (by omega)
   have cG:wr.cell? ⟨gG,oG+k,none⟩ = some (.int .i64 u):=((bstep hb hk1).cell hbG).trans (hatG k u (by rw [hu,List.getD_eq_getElem?_getD,List.getElem?_eq_getElem hlt];rfl))
   have hle:=pPartTo_le s.M.G z k
   have HU:=hid hu
   have HO:=hid ho
   clear hu ho hatG
   by_cases q1:u = z
   ·have d1:(u == z) = true:=by simpa using q1
    have HE:=hid (pPartTo_yes (G:=s.M.G) (z:=z) (j:=k) ⟨by omega,by rw [← HU.out];exact q1⟩)
    clear q1
    go_wp2_with (at_builtin;(refine wpList_append_ontoR rfl _ _ _ rfl w1.heap.size Tryz.underlying22 infoI _ _ (pPartTo s.M.G z k) rfl rfl (own_step HO.out (boxed _ _)) _ _ 1 [(k:Int)] rfl rfl (Blk.row (heap_alloc_new wr (.cells #[.int .i64 (k:Int)] 3))) (by simp;omega) (by have:=hk1.size;simp;omega) ?_);intro v8 w8 ho8 hg8)
    obtain ⟨A8,c8,rfl⟩:=own_val ho8
    have hk8:Below w1.heap.size wr w8:=((boxed wr (.cells #[.int .i64 (k:Int)] 3)).mono hk1.size).trans (Turn.to_below ((Turn.refl (fun b=>w1.heap.size≤b) _).grown hg8 (fun q e=>(HO.out.lt q e).1)) (by have:=hk1.size;simp;omega) (fun _ h=>h))
    rw [← HE.out] at ho8 ⊢
    go_roundw
    case rel=>exact ⟨k+1,by omega,by omega,by go_num,ho8,hk1.trans hk8⟩
    case measure=>simp [intOf];omega
   ·have d1:(u == z) = false:=by simpa using q1
    have HE:=hid (pPartTo_no (G:=s.M.G) (z:=z) (j:=k) (fun h=>q1 (by rw [HU.out];exact h.2)))
    clear q1
    go_wp2_with fail
    rw [← HE.out] at HO ⊢
    go_roundw
    case rel=>exact ⟨k+1,by omega,by omega,by go_num,HO.out,hk1⟩
    case measure=>simp [intOf];omega
  ·have kl:¬ (k:Int) < (s.M.G.length:Int):=by omega
   have ek:k = s.M.G.length:=by omega
   subst ek
   have HO:=hid ho
   clear ho
   go_wp2_with fail
   have r8:∃ A8 c8,Value.slice A1 (pPart s.M.G z).length c1 = .slice A8 (pPart s.M.G z).length c8∧Row wr A8 (pPart s.M.G z):=own_row1 HO.out rfl
   obtain ⟨A8,c8,e8,r8⟩:=r8
   injection e8 with e8 _ e9
   subst e8 e9
   refine bodyPost_ret (v:=.slice A1 (pPartTo s.M.G z s.M.G.length).length c1) (by simp [results,Tryz.results75,go_sem]) rfl ?_
   exact ⟨A1,c1,rfl,r8,bstep hb hk1⟩
theorem rparts_any (A B C L:Option Addr) (a b c d:Nat) (s:Sy) (w:World) (hG:Row w B s.M.G) (hl:s.M.G.length≤1000000) (hg:1≤s.M.G.length) :
  Calls Tryz.prog 27 #[.agg (uS A B C L a b c d s)] w (RetL3 w (pPart s.M.G 0) (pPart s.M.G 1) (pPart s.M.G 2)):=by
 have b1:=heap_alloc_new w (.cells (uS A B C L a b c d s) 28)
 have hb:Below w.heap.size w (w.alloc (.cells (uS A B C L a b c d s) 28)):=boxed _ _
 have z1:w.heap.size < (w.alloc (.cells (uS A B C L a b c d s) 28)).heap.size:=by simp
 obtain ⟨l0,hl0⟩:∃ l,l = pPart s.M.G 0:=⟨_,rfl⟩
 obtain ⟨l1,hl1⟩:∃ l,l = pPart s.M.G 1:=⟨_,rfl⟩
 obtain ⟨l2,hl2⟩:∃ l,l = pPart s.M.G 2:=⟨_,rfl⟩
 have H0:=hid (show ∀ w',Row w' B s.M.G→Calls Tryz.prog 75 #[.agg (uS A B C L a b c d s),.int .i64 0] w' (RetL w' l0) from fun w' k=>by rw [hl0];exact rpart_any A B C L a b c d s 0 w' k hl hg)
 have H1:=hid (show ∀ w',Row w' B s.M.G→Calls Tryz.prog 75 #[.agg (uS A B C L a b c d s),.int .i64 1] w' (RetL w' l1) from fun w' k=>by rw [hl1];exact rpart_any A B C L a b c d s 1 w' k hl hg)
 have H2:=hid (show ∀ w',Row w' B s.M.G→Calls Tryz.prog 75 #[.agg (uS A B C L a b c d s),.int .i64 2] w' (RetL w' l2) from fun w' k=>by rw [hl2];exact rpart_any A B C L a b c d s 2 w' k hl hg)
 rw [← hl0,← hl1,← hl2]
 clear hl0 hl1 hl2
 go_enter Tryz.func27,Tryz.ntmps27
 go_upto_region 1 with (fail)
 replace hG:=hG.step hb
 generalize (w.alloc (.cells (uS A B C L a b c d s) 28)) = w1 at *
 obtain ⟨p0,p1,p2,p3,p4⟩:=cells5 b1
 have KS:=hid (show ∀ w',Below w1.heap.size w1 w'→(w'.cell? ⟨w.heap.size,0,none⟩ = some (.slice A s.M.W.length a)∧w'.cell? ⟨w.heap.size,1,none⟩ = some (.slice B s.M.G.length b)∧w'.cell? ⟨w.heap.size,2,none⟩ = some (.bool s.M.bad)∧w'.cell? ⟨w.heap.size,3,none⟩ = some (.slice C s.C.length c)∧w'.cell? ⟨w.heap.size,4,none⟩ = some (.slice L s.L.length d)) from fun w' h=>⟨(h.cell z1).trans p0,(h.cell z1).trans p1,(h.cell z1).trans p2,(h.cell z1).trans p3,(h.cell z1).trans p4⟩)
 go_region_held3 (fun w'=>w'.cell? ⟨w.heap.size,0,none⟩ = some (.slice A s.M.W.length a)∧w'.cell? ⟨w.heap.size,1,none⟩ = some (.slice B s.M.G.length b)∧w'.cell? ⟨w.heap.size,2,none⟩ = some (.bool s.M.bad)∧w'.cell? ⟨w.heap.size,3,none⟩ = some (.slice C s.C.length c)∧w'.cell? ⟨w.heap.size,4,none⟩ = some (.slice L s.L.length d)) (exact KS.out _ (by repeat (first | (with_reducible exact Below.refl _ _) | (with_reducible refine Below.drew ?_) | (with_reducible refine bstep ?_ (boxed _ _)) | (with_reducible refine bstep ?_ hk3) | (with_reducible refine bstep ?_ hk2) | (with_reducible refine bstep ?_ hk1))))
  (first | (go_at_call 75;(with_reducible refine (H0.out _ (hG.step (by repeat (first | (with_reducible exact Below.refl _ _) | (with_reducible refine Below.drew ?_) | (with_reducible refine bstep ?_ (boxed _ _)) | (with_reducible refine bstep ?_ hk3) | (with_reducible refine bstep ?_ hk2) | (with_reducible refine bstep ?_ hk1))))).mono ?_);rintro e wk1 ⟨A1,c1,rfl,r1,hk1⟩) | (go_at_call 75;(with_reducible refine (H1.out _ (hG.step (by repeat (first | (with_reducible exact Below.refl _ _) | (with_reducible refine Below.drew ?_) | (with_reducible refine bstep ?_ (boxed _ _)) | (with_reducible refine bstep ?_ hk3) | (with_reducible refine bstep ?_ hk2) | (with_reducible refine bstep ?_ hk1))))).mono ?_);rintro e wk2 ⟨A2,c2,rfl,r2,hk2⟩) | (go_at_call 75;(with_reducible refine (H2.out _ (hG.step (by repeat (first | (with_reducible exact Below.refl _ _) | (with_reducible refine Below.drew ?_) | (with_reducible refine bstep ?_ (boxed _ _)) | (with_reducible refine bstep ?_ hk3) | (with_reducible refine bstep ?_ hk2) | (with_reducible refine bstep ?_ hk1))))).mono ?_);rintro e wk3 ⟨A3,c3,rfl,r3,hk3⟩))
 all_goals go_wp2_with fail
 all_goals refine bodyPost_ret (v:=.tuple #[.slice A1 l0.length c1,.slice A2 l1.length c2,.slice A3 l2.length c3]) (by simp [results,Tryz.results27,go_sem]) rfl ?_
 all_goals exact ⟨A1,A2,A3,c1,c2,c3,rfl,r1.step (by repeat (first | (with_reducible exact Below.refl _ _) | (with_reducible refine Below.drew ?_) | (with_reducible refine bstep ?_ (boxed _ _)) | (with_reducible refine bstep ?_ hk3) | (with_reducible refine bstep ?_ hk2) | (with_reducible refine bstep ?_ hk1))),r2.step (by repeat (first | (with_reducible exact Below.refl _ _) | (with_reducible refine Below.drew ?_) | (with_reducible refine bstep ?_ (boxed _ _)) | (with_reducible refine bstep ?_ hk3) | (with_reducible refine bstep ?_ hk2) | (with_reducible refine bstep ?_ hk1))),r3.step (by repeat (first | (with_reducible exact Below.refl _ _) | (with_reducible refine Below.drew ?_) | (with_reducible refine bstep ?_ (boxed _ _)) | (with_reducible refine bstep ?_ hk3) | (with_reducible refine bstep ?_ hk2) | (with_reducible refine bstep ?_ hk1))),bstep hb (by repeat (first | (with_reducible exact Below.refl _ _) | (with_reducible refine Below.drew ?_) | (with_reducible refine bstep ?_ (boxed _ _)) | (with_reducible refine bstep ?_ hk3) | (with_reducible refine bstep ?_ hk2) | (with_reducible refine bstep ?_ hk1)))⟩
theorem rown7_any (op:Int) (w:World):Calls Tryz.prog 31 #[.int .i64 op] w fun e w'=>e = .returned (.bool (pOwn7 op))∧w = w':=by
 by_cases h1:1≤op
 ·by_cases h2:op≤8
  ·have e:pOwn7 op = true:=by
    have:op = 1 ∨ op = 2 ∨ op = 3 ∨ op = 4 ∨ op = 5 ∨ op = 6 ∨ op = 7 ∨ op = 8:=by omega
    rcases this with rfl | rfl | rfl | rfl | rfl | rfl | rfl | rfl <;> rfl
   rw [e]
   go_enter Tryz.func31,Tryz.ntmps31
   go_wp2
   go_ret
   exact ⟨rfl,rfl⟩
  ·have e:pOwn7 op = false:=by unfold pOwn7 pOwn6;simp;omega
   rw [e]
   go_enter Tryz.func31,Tryz.ntmps31
   go_wp2
   go_ret
   exact ⟨rfl,rfl⟩
 ·have e:pOwn7 op = false:=by unfold pOwn7 pOwn6;simp;omega
  rw [e]
  go_enter Tryz.func31,Tryz.ntmps31
  go_wp2
  go_ret
  exact ⟨rfl,rfl⟩
def pGood (k n:Int):Prop:=(1≤n∧n≤200)∧1≤k∧k≤8
theorem snew_no {k n:Int} (h:¬ pGood k n) (w:World):Calls Tryz.prog 76 #[.int .i64 k,.int .i64 n] w (RetSys2 w syNone (.int .i64 1)):=by
 by_cases hn:1≤n∧n≤200
 ·obtain ⟨m,rfl⟩:∃ m:Nat,n = (m:Int):=⟨n.toNat,by omega⟩
  exact snew_cores k m w (by omega) (by omega) (by unfold pGood at h;omega)
 ·exact snew_nodes k n w (by omega)
theorem rsnew_no {k n:Int} (h:¬ pGood k n) (w:World):Calls Tryz.prog 78 #[.int .i64 k,.int .i64 n] w (RetSys2 w syNone (.int .i64 1)):=by
 by_cases hn:1≤n∧n≤200
 ·obtain ⟨m,rfl⟩:∃ m:Nat,n = (m:Int):=⟨n.toNat,by omega⟩
  exact rsnew_cores k m w (by omega) (by omega) (by unfold pGood at h;omega)
 ·exact rsnew_nodes k n w (by omega)
theorem start_no (k n:Int) (w:World) (h:¬ pGood k n):Calls Tryz.prog 28 #[.int .i64 k,.int .i64 n] w (RetSys2 w syNone (.int .i64 1)):=by
 have b1:=heap_alloc_new w (.cells uZ 28)
 have hb:Below w.heap.size w (w.alloc (.cells uZ 28)):=boxed _ _
 have z1:w.heap.size < (w.alloc (.cells uZ 28)).heap.size:=by simp
 go_enter Tryz.func28,Tryz.ntmps28
 go_upto_region 1 with (fail)
 generalize (w.alloc (.cells uZ 28)) = w1 at *
 go_upto_region 2 with (go_at_call 76;(with_reducible refine (snew_no h _).mono ?_);rintro e w2 ⟨A3,B3,C3,L3,a3,b3,c3,d3,rfl,rW,rG,rC,rL,hk⟩)
 have hj:Below w1.heap.size w1 (w2.alloc (.cells (uS A3 B3 C3 L3 a3 b3 c3 d3 syNone) 28)):=bstep hk (boxed _ _)
 have b6:=heap_alloc_new w2 (.cells (uS A3 B3 C3 L3 a3 b3 c3 d3 syNone) 28)
 have S3:RS (w2.alloc (.cells (uS A3 B3 C3 L3 a3 b3 c3 d3 syNone) 28)) syNone A3 B3 C3 L3:=(RS.mk rW rG rC rL).step (boxed _ _)
 replace b1:=(hj.block _ z1).trans b1
 replace hb:=bstep hb hj
 replace z1:=Nat.lt_of_lt_of_le z1 hj.size
 clear hj hk rW rG rC rL
 obtain ⟨v6,hv⟩:∃ v,w2.heap.size = v:=⟨_,rfl⟩
 rw [hv] at b6 ⊢
 clear hv
 generalize (w2.alloc (.cells (uS A3 B3 C3 L3 a3 b3 c3 d3 syNone) 28)) = w3 at *
 obtain ⟨q0,q1,q2,q3,q4,qf0,qf1,qf2,qf3,qf4⟩:=cf5 b1
 go_wp2_with fail
 refine bodyPost_ret (v:=.tuple #[.agg uZ,.int .i64 1]) (by simp [results,Tryz.results28,go_sem,q0,q1,q2,q3,q4]) rfl ?_
 have t5:=turn5 w3 w.heap.size (.slice none 0 0) (.slice none 0 0) (.bool false) (.slice none 0 0) (.slice none 0 0)
 exact ⟨none,none,none,none,0,0,0,0,rfl,Row.nil _ _,Row.nil _ _,fun h=>absurd h (by simp [syNone]),fun h=>absurd h (by simp [syNone]),hb.trans (t5.to_below hb.size (fun g hg=>by omega))⟩
theorem rstart_no (k n:Int) (w:World) (h:¬ pGood k n):Calls Tryz.prog 29 #[.int .i64 k,.int .i64 n] w (RetSys2 w syNone (.int .i64 1)):=by
 have b1:=heap_alloc_new w (.cells uZ 28)
 have hb:Below w.heap.size w (w.alloc (.cells uZ 28)):=boxed _ _
 have z1:w.heap.size < (w.alloc (.cells uZ 28)).heap.size:=by simp
 go_enter Tryz.func29,Tryz.ntmps29
 go_upto_region 1 with (fail)
 generalize (w.alloc (.cells uZ 28)) = w1 at *
 go_upto_region 2 with (go_at_call 78;(with_reducible refine (rsnew_no h _).mono ?_);rintro e w2 ⟨A3,B3,C3,L3,a3,b3,c3,d3,rfl,rW,rG,rC,rL,hk⟩)
 have hj:Below w1.heap.size w1 (w2.alloc (.cells (uS A3 B3 C3 L3 a3 b3 c3 d3 syNone) 28)):=bstep hk (boxed _ _)
 have b6:=heap_alloc_new w2 (.cells (uS A3 B3 C3 L3 a3 b3 c3 d3 syNone) 28)
 have S3:RS (w2.alloc (.cells (uS A3 B3 C3 L3 a3 b3 c3 d3 syNone) 28)) syNone A3 B3 C3 L3:=(RS.mk rW rG rC rL).step (boxed _ _)
 replace b1:=(hj.block _ z1).trans b1
 replace hb:=bstep hb hj
 replace z1:=Nat.lt_of_lt_of_le z1 hj.size
 clear hj hk rW rG rC rL
 obtain ⟨v6,hv⟩:∃ v,w2.heap.size = v:=⟨_,rfl⟩
 rw [hv] at b6 ⊢
 clear hv
 generalize (w2.alloc (.cells (uS A3 B3 C3 L3 a3 b3 c3 d3 syNone) 28)) = w3 at *
 obtain ⟨p0,p1,p2,p3,p4⟩:=cells5 b6
 obtain ⟨q0,q1,q2,q3,q4,qf0,qf1,qf2,qf3,qf4⟩:=cf5 b1
 go_wp2_with fail
 refine bodyPost_ret (v:=.tuple #[.agg (uS A3 B3 C3 L3 a3 b3 c3 d3 syNone),.int .i64 1]) (by simp [uS,results,Tryz.results29,go_sem,q0,q1,q2,q3,q4]) rfl ?_
 have t5:=turn5 w3 w.heap.size (.slice A3 syNone.M.W.length a3) (.slice B3 syNone.M.G.length b3) (.bool syNone.M.bad) (.slice C3 syNone.C.length c3) (.slice L3 syNone.L.length d3)
 have S6:=S3.turnN t5 (noInt_sys b1)
 exact ⟨A3,B3,C3,L3,a3,b3,c3,d3,rfl,S6.W,S6.G,S6.C,S6.L,hb.trans (t5.to_below hb.size (fun g hg=>by omega))⟩
theorem rstart_yes (k n:Nat) (w:World) (h1:1≤n) (h2:n≤200) (h3:1≤k) (h4:k≤8):Calls Tryz.prog 29 #[.int .i64 (k:Int),.int .i64 (n:Int)] w (RetSys2 w (syFill k n) (.int .i64 0)):=by
 have hN:=hid (fun w=>rsnew_yes k n w h1 h2 h3 h4)
 have hF:=hid (fun w=>rnew4_any k n w h1 h2 h3 h4)
 obtain ⟨s1,hs1⟩:∃ s,s = syNew k n:=⟨_,rfl⟩
 obtain ⟨s9,hs9⟩:∃ s,s = syFill k n:=⟨_,rfl⟩
 rw [← hs1] at hN
 rw [← hs9] at hF ⊢
 clear hs1 hs9
 have b1:=heap_alloc_new w (.cells uZ 28)
 have hb:Below w.heap.size w (w.alloc (.cells uZ 28)):=boxed _ _
 have z1:w.heap.size < (w.alloc (.cells uZ 28)).heap.size:=by simp
 go_enter Tryz.func29,Tryz.ntmps29
 go_upto_region 1 with (fail)
 generalize (w.alloc (.cells uZ 28)) = w1 at *
 go_upto_region 2 with (go_at_call 78;(with_reducible refine (hN.out _).mono ?_);rintro e w2 ⟨A3,B3,C3,L3,a3,b3,c3,d3,rfl,rW,rG,rC,rL,hk⟩)
 have hj:Below w1.heap.size w1 (w2.alloc (.cells (uS A3 B3 C3 L3 a3 b3 c3 d3 s1) 28)):=bstep hk (boxed _ _)
 have b6:=heap_alloc_new w2 (.cells (uS A3 B3 C3 L3 a3 b3 c3 d3 s1) 28)
 have S3:RS (w2.alloc (.cells (uS A3 B3 C3 L3 a3 b3 c3 d3 s1) 28)) s1 A3 B3 C3 L3:=(RS.mk rW rG rC rL).step (boxed _ _)
 replace b1:=(hj.block _ z1).trans b1
 replace hb:=bstep hb hj
 replace z1:=Nat.lt_of_lt_of_le z1 hj.size
 clear hj hk rW rG rC rL
 obtain ⟨v6,hv⟩:∃ v,w2.heap.size = v:=⟨_,rfl⟩
 rw [hv] at b6 ⊢
 clear hv
 generalize (w2.alloc (.cells (uS A3 B3 C3 L3 a3 b3 c3 d3 s1) 28)) = w3 at *
 clear S3 b6
 go_wp2_with (go_at_call 61;(with_reducible refine (hF.out _).mono ?_);rintro e w5 ⟨A4,B4,C4,L4,a4,b4,c4,d4,rfl,rW,rG,rC,rL,hk⟩;have b1q:=(hk.block _ z1).trans b1;obtain ⟨q0,q1,q2,q3,q4,qf0,qf1,qf2,qf3,qf4⟩:=cf5 b1q)
 replace hb:=bstep hb hk
 refine bodyPost_ret (v:=.tuple #[.agg (uS A4 B4 C4 L4 a4 b4 c4 d4 s9),.int .i64 0]) (by simp [uS,results,Tryz.results29,go_sem,q0,q1,q2,q3,q4]) rfl ?_
 have t5:=turn5 w5 w.heap.size (.slice A4 s9.M.W.length a4) (.slice B4 s9.M.G.length b4) (.bool s9.M.bad) (.slice C4 s9.C.length c4) (.slice L4 s9.L.length d4)
 have S6:=(RS.mk rW rG rC rL).turnN t5 (noInt_sys b1q)
 exact ⟨A4,B4,C4,L4,a4,b4,c4,d4,rfl,S6.W,S6.G,S6.C,S6.L,hb.trans (t5.to_below hb.size (fun g hg=>by omega))⟩
def pStart (k n:Int):Sy:=if 1≤n∧n≤200∧1≤k∧k≤8 then syFill k.toNat n.toNat else syNone
def pCode (k n:Int):Int:=if 1≤n∧n≤200∧1≤k∧k≤8 then 0 else 1
theorem start_any (k n:Int) (w:World):Calls Tryz.prog 28 #[.int .i64 k,.int .i64 n] w (RetSys2 w (pStart k n) (.int .i64 (pCode k n))):=by
 by_cases h:1≤n∧n≤200∧1≤k∧k≤8
 ·unfold pStart pCode
  rw [if_pos h,if_pos h]
  obtain ⟨m,rfl⟩:∃ m:Nat,n = (m:Int):=⟨n.toNat,by omega⟩
  obtain ⟨j,rfl⟩:∃ m:Nat,k = (m:Int):=⟨k.toNat,by omega⟩
  exact start_yes j m w (by omega) (by omega) (by omega) (by omega)
 ·unfold pStart pCode
  rw [if_neg h,if_neg h]
  exact start_no k n w (fun g=>h ⟨g.1.1,g.1.2,g.2⟩)
theorem rstart_any (k n:Int) (w:World):Calls Tryz.prog 29 #[.int .i64 k,.int .i64 n] w (RetSys2 w (pStart k n) (.int .i64 (pCode k n))):=by
 by_cases h:1≤n∧n≤200∧1≤k∧k≤8
 ·unfold pStart pCode
  rw [if_pos h,if_pos h]
  obtain ⟨m,rfl⟩:∃ m:Nat,n = (m:Int):=⟨n.toNat,by omega⟩
  obtain ⟨j,rfl⟩:∃ m:Nat,k = (m:Int):=⟨k.toNat,by omega⟩
  exact rstart_yes j m w (by omega) (by omega) (by omega) (by omega)
 ·unfold pStart pCode
  rw [if_neg h,if_neg h]
  exact rstart_no k n w (fun g=>h ⟨g.1.1,g.1.2,g.2⟩)
end Go.Proofs.YthpflcknommpdaaGreat
