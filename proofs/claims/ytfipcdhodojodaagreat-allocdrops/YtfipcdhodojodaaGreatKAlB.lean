/- Contracts: alloc.part, Parts, Own, Start, by the program. -/
import Derived.Test.YtfipcdhodojodaaGreatMPl
import Derived.Test.YtfipcdhodojodaaGreatKShS
import Derived.Test.YtfipcdhodojodaaGreatKSho
import Derived.Test.YtfipcdhodojodaaGreatKFil
import Derived.Test.YtfipcdhodojodaaGreatKCoT
import Derived.Test.YtfipcdhodojodaaGreatKNew
import Derived.Deep.RegionHeld3
import Derived.Test.YtfipcdhodojodaaGreatKAlA
namespace Go.Proofs.YtfipcdhodojodaaGreat
open Go.RowKit
set_option maxRecDepth 100000
set_option maxHeartbeats 8000000
set_option linter.unusedVariables false
set_option linter.unusedSimpArgs false
def pPartTo (G:List Int) (z:Int):Nat→List Int
 | 0=>[]
 | j+1=>if 0 < j∧G.getD j 0 = z then pPartTo G z j++[(j:Int)] else pPartTo G z j
def pPart (G:List Int) (z:Int):List Int:=pPartTo G z G.length
theorem pPartTo_le (G:List Int) (z:Int) (j:Nat):(pPartTo G z j).length≤j:=by
 induction j with
 | zero=>simp [pPartTo]
 | succ j ih =>
  unfold pPartTo
  split
  ·simp;omega
  ·omega
theorem pPartTo_yes {G:List Int} {z:Int} {j:Nat} (h:0 < j∧G.getD j 0 = z):pPartTo G z (j+1) = pPartTo G z j++[(j:Int)]:=by
 show (if 0 < j∧G.getD j 0 = z then _ else _) = _
 rw [if_pos h]
theorem pPartTo_no {G:List Int} {z:Int} {j:Nat} (h:¬ (0 < j∧G.getD j 0 = z)):pPartTo G z (j+1) = pPartTo G z j:=by
 show (if 0 < j∧G.getD j 0 = z then _ else _) = _
 rw [if_neg h]
theorem part_nil (w:World) (base:Nat) (G:List Int) (z:Int):w.ownsRow base 3 1 (.slice none 0 0) (pPartTo G z 0).length ((pPartTo G z 0).map inCells).flatten:=⟨by simp [pPartTo],.inl ⟨by simp [pPartTo],by simp [pPartTo]⟩⟩
theorem part_any (A:Option Addr) (c:Nat) (G:List Int) (z:Int) (w:World) (hG:Row w A G) (hl:G.length≤1000000) :
  Calls Tryz.prog 34 #[.slice A G.length c,.int .i64 z] w (RetL w (pPart G z)):=by
 go_enter Tryz.func34,Tryz.ntmps34
 go_wp2_with fail
 go_loopw [5,10] (fun v i wr=>∃ k:Nat,k≤G.length∧i = .int .i64 k∧wr.ownsRow w.heap.size 3 1 v (pPartTo G z k).length ((pPartTo G z k).map inCells).flatten∧Below w.heap.size w wr) (fun _ i _=>G.length - (intOf i).toNat)
 case atStart=>exact ⟨0,Nat.zero_le _,rfl,part_nil _ _ _ _,Below.refl _ _⟩
 case round =>
  obtain ⟨k,hk,rfl,ho,hk1⟩:=hrel
  obtain ⟨A1,c1,rfl⟩:=own_val ho
  by_cases hlt:k < G.length
  ·have kl:(k:Int) < (G.length:Int):=by omega
   have k0:(0:Int)≤(k:Int):=by omega
   obtain ⟨u,hu⟩:∃ u,u = G.getD k 0:=⟨_,rfl⟩
   obtain ⟨gG,oG,rfl,hbG,hatG⟩:=hG (by omega)
   have cG:wr.cell? ⟨gG,oG+k,none⟩ = some (.int .i64 u):=(hk1.cell hbG).trans (hatG k u (by rw [hu,List.getD_eq_getElem?_getD,List.getElem?_eq_getElem hlt];rfl))
   have hle:=pPartTo_le G z k
   have HU:=hid hu
   have HO:=hid ho
   clear hu ho hatG
   by_cases q0:0 < k
   ·have d0:decide ((0:Int) < (k:Int)) = true:=by simp;omega
    by_cases q1:u = z
    ·have d1:(u == z) = true:=by simpa using q1
     have HE:=hid (pPartTo_yes (G:=G) (z:=z) (j:=k) ⟨q0,by rw [← HU.out];exact q1⟩)
     clear q1
     go_wp2_with (at_builtin;(refine wpList_append_ontoR rfl _ _ _ rfl w.heap.size Tryz.underlying24 infoI _ _ (pPartTo G z k) rfl rfl (own_step HO.out (boxed _ _)) _ _ 1 [(k:Int)] rfl rfl (Blk.row (heap_alloc_new wr (.cells #[.int .i64 (k:Int)] 3))) (by simp;omega) (by have:=hk1.size;simp;omega) ?_);intro v8 w8 ho8 hg8)
     obtain ⟨A8,c8,rfl⟩:=own_val ho8
     have hk8:Below w.heap.size wr w8:=((boxed wr (.cells #[.int .i64 (k:Int)] 3)).mono hk1.size).trans (Turn.to_below ((Turn.refl (fun b=>w.heap.size≤b) _).grown hg8 (fun q e=>(HO.out.lt q e).1)) (by have:=hk1.size;simp;omega) (fun _ h=>h))
     rw [← HE.out] at ho8 ⊢
     go_roundw
     case rel=>exact ⟨k+1,by omega,by go_num,ho8,hk1.trans hk8⟩
     case measure=>simp [intOf];omega
    ·have d1:(u == z) = false:=by simpa using q1
     have HE:=hid (pPartTo_no (G:=G) (z:=z) (j:=k) (fun h=>q1 (by rw [HU.out];exact h.2)))
     clear q1
     go_wp2_with fail
     rw [← HE.out] at HO ⊢
     go_roundw
     case rel=>exact ⟨k+1,by omega,by go_num,HO.out,hk1⟩
     case measure=>simp [intOf];omega
   ·have d0:decide ((0:Int) < (k:Int)) = false:=by simp;omega
    have HE:=hid (pPartTo_no (G:=G) (z:=z) (j:=k) (fun h=>q0 h.1))
    go_wp2_with fail
    rw [← HE.out] at HO ⊢
    go_roundw
    case rel=>exact ⟨k+1,by omega,by go_num,HO.out,hk1⟩
    case measure=>simp [intOf];omega
  ·have kl:¬ (k:Int) < (G.length:Int):=by omega
   have ek:k = G.length:=by omega
   subst ek
   have HO:=hid ho
   clear ho
   go_wp2_with fail
   have r8:∃ A8 c8,Value.slice A1 (pPart G z).length c1 = .slice A8 (pPart G z).length c8∧Row wr A8 (pPart G z):=own_row1 HO.out rfl
   obtain ⟨A8,c8,e8,r8⟩:=r8
   injection e8 with e8 _ e9
   subst e8 e9
   refine bodyPost_ret (v:=.slice A1 (pPartTo G z G.length).length c1) (by simp [results,Tryz.results34,go_sem]) rfl ?_
   exact ⟨A1,c1,rfl,r8,hk1⟩
def RetL3 (w:World) (l m n:List Int) (e:Ending) (w':World):Prop:=∃ (A1 A2 A3:Option Addr) (c1 c2 c3:Nat),e = .returned (.tuple #[.slice A1 l.length c1,.slice A2 m.length c2,.slice A3 n.length c3])∧Row w' A1 l∧Row w' A2 m∧Row w' A3 n∧Below w.heap.size w w'
theorem parts_any (A B C L:Option Addr) (a b c d:Nat) (s:Sy) (w:World) (hG:Row w B s.M.G) (hl:s.M.G.length≤1000000) :
  Calls Tryz.prog 19 #[.agg (uS A B C L a b c d s)] w (RetL3 w (pPart s.M.G 0) (pPart s.M.G 1) (pPart s.M.G 2)):=by
 have b1:=heap_alloc_new w (.cells (uS A B C L a b c d s) 30)
 have hb:Below w.heap.size w (w.alloc (.cells (uS A B C L a b c d s) 30)):=boxed _ _
 have z1:w.heap.size < (w.alloc (.cells (uS A B C L a b c d s) 30)).heap.size:=by simp
 obtain ⟨l0,hl0⟩:∃ l,l = pPart s.M.G 0:=⟨_,rfl⟩
 obtain ⟨l1,hl1⟩:∃ l,l = pPart s.M.G 1:=⟨_,rfl⟩
 obtain ⟨l2,hl2⟩:∃ l,l = pPart s.M.G 2:=⟨_,rfl⟩
 have H0:=hid (show ∀ w',Row w' B s.M.G→Calls Tryz.prog 34 #[.slice B s.M.G.length b,.int .i64 0] w' (RetL w' l0) from fun w' k=>by rw [hl0];exact part_any B b s.M.G 0 w' k hl)
 have H1:=hid (show ∀ w',Row w' B s.M.G→Calls Tryz.prog 34 #[.slice B s.M.G.length b,.int .i64 1] w' (RetL w' l1) from fun w' k=>by rw [hl1];exact part_any B b s.M.G 1 w' k hl)
 have H2:=hid (show ∀ w',Row w' B s.M.G→Calls Tryz.prog 34 #[.slice B s.M.G.length b,.int .i64 2] w' (RetL w' l2) from fun w' k=>by rw [hl2];exact part_any B b s.M.G 2 w' k hl)
 rw [← hl0,← hl1,← hl2]
 clear hl0 hl1 hl2
 go_enter Tryz.func19,Tryz.ntmps19
 go_upto_region 1 with (fail)
 replace hG:=hG.step hb
 generalize (w.alloc (.cells (uS A B C L a b c d s) 30)) = w1 at *
 obtain ⟨-,p1⟩:=cells2 b1
 have KS:=hid (show ∀ w',Below w1.heap.size w1 w'→(w'.cell? ⟨w.heap.size,1,none⟩ = some (.slice B s.M.G.length b)) from fun w' h=>(h.cell z1).trans p1)
 go_region_held3 (fun w'=>w'.cell? ⟨w.heap.size,1,none⟩ = some (.slice B s.M.G.length b)) (exact KS.out _ (by repeat (first | (with_reducible exact Below.refl _ _) | (with_reducible refine Below.drew ?_) | (with_reducible refine bstep ?_ (boxed _ _)) | (with_reducible refine bstep ?_ hk3) | (with_reducible refine bstep ?_ hk2) | (with_reducible refine bstep ?_ hk1))))
  (first | (go_at_call 34;(with_reducible refine (H0.out _ (hG.step (by repeat (first | (with_reducible exact Below.refl _ _) | (with_reducible refine Below.drew ?_) | (with_reducible refine bstep ?_ (boxed _ _)) | (with_reducible refine bstep ?_ hk3) | (with_reducible refine bstep ?_ hk2) | (with_reducible refine bstep ?_ hk1))))).mono ?_);rintro e wk1 ⟨A1,c1,rfl,r1,hk1⟩) | (go_at_call 34;(with_reducible refine (H1.out _ (hG.step (by repeat (first | (with_reducible exact Below.refl _ _) | (with_reducible refine Below.drew ?_) | (with_reducible refine bstep ?_ (boxed _ _)) | (with_reducible refine bstep ?_ hk3) | (with_reducible refine bstep ?_ hk2) | (with_reducible refine bstep ?_ hk1))))).mono ?_);rintro e wk2 ⟨A2,c2,rfl,r2,hk2⟩) | (go_at_call 34;(with_reducible refine (H2.out _ (hG.step (by repeat (first | (with_reducible exact Below.refl _ _) | (with_reducible refine Below.drew ?_) | (with_reducible refine bstep ?_ (boxed _ _)) | (with_reducible refine bstep ?_ hk3) | (with_reducible refine bstep ?_ hk2) | (with_reducible refine bstep ?_ hk1))))).mono ?_);rintro e wk3 ⟨A3,c3,rfl,r3,hk3⟩))
 all_goals go_wp2_with fail
 all_goals refine bodyPost_ret (v:=.tuple #[.slice A1 l0.length c1,.slice A2 l1.length c2,.slice A3 l2.length c3]) (by simp [results,Tryz.results19,go_sem]) rfl ?_
 all_goals exact ⟨A1,A2,A3,c1,c2,c3,rfl,r1.step (by repeat (first | (with_reducible exact Below.refl _ _) | (with_reducible refine Below.drew ?_) | (with_reducible refine bstep ?_ (boxed _ _)) | (with_reducible refine bstep ?_ hk3) | (with_reducible refine bstep ?_ hk2) | (with_reducible refine bstep ?_ hk1))),r2.step (by repeat (first | (with_reducible exact Below.refl _ _) | (with_reducible refine Below.drew ?_) | (with_reducible refine bstep ?_ (boxed _ _)) | (with_reducible refine bstep ?_ hk3) | (with_reducible refine bstep ?_ hk2) | (with_reducible refine bstep ?_ hk1))),r3.step (by repeat (first | (with_reducible exact Below.refl _ _) | (with_reducible refine Below.drew ?_) | (with_reducible refine bstep ?_ (boxed _ _)) | (with_reducible refine bstep ?_ hk3) | (with_reducible refine bstep ?_ hk2) | (with_reducible refine bstep ?_ hk1))),bstep hb (by repeat (first | (with_reducible exact Below.refl _ _) | (with_reducible refine Below.drew ?_) | (with_reducible refine bstep ?_ (boxed _ _)) | (with_reducible refine bstep ?_ hk3) | (with_reducible refine bstep ?_ hk2) | (with_reducible refine bstep ?_ hk1)))⟩
def pOwn7 (op:Int):Bool:=op == 7 || (op == 8 || pOwn6 op)
theorem own7_any (op:Int) (w:World):Calls Tryz.prog 20 #[.int .i64 op] w fun e w'=>e = .returned (.bool (pOwn7 op))∧Below w.heap.size w w':=by
 have HO:=hid (own6_any op)
 obtain ⟨ob,hob⟩:∃ b,b = pOwn6 op:=⟨_,rfl⟩
 rw [← hob] at HO
 unfold pOwn7
 rw [← hob]
 clear hob
 rcases Bool.eq_false_or_eq_true (op == 7) with h1 | h1
 ·rw [h1]
  go_enter Tryz.func20,Tryz.ntmps20
  go_wp2_with fail
  go_ret
  exact ⟨rfl,Below.refl _ _⟩
 ·rcases Bool.eq_false_or_eq_true (op == 8) with h2 | h2
  ·rw [h1,h2]
   go_enter Tryz.func20,Tryz.ntmps20
   go_wp2_with fail
   go_ret
   exact ⟨rfl,Below.refl _ _⟩
  ·rw [h1,h2]
   go_enter Tryz.func20,Tryz.ntmps20
   go_wp2_with (go_at_call 35;(with_reducible refine (HO.out _).mono ?_);rintro e wo ⟨rfl,hk⟩)
   go_ret
   exact ⟨rfl,hk⟩
theorem start_yes (k n:Nat) (w:World) (h1:1≤n) (h2:n≤200) (h3:1≤k) (h4:k≤8):Calls Tryz.prog 18 #[.int .i64 (k:Int),.int .i64 (n:Int)] w (RetSys2 w (syFill k n) (.int .i64 0)):=by
 have hN:=hid (fun w=>snew_yes k n w h1 h2 h3 h4)
 have l0:(syNew k n).M.W.length≤1000000∧(syNew k n).M.G.length≤1000000∧2≤(syNew k n).M.G.length:=by simp [syNew,mNew];omega
 obtain ⟨s1,hs1⟩:∃ s,s = syNew k n:=⟨_,rfl⟩
 have hs2:syFill k n = syMem s1 (pFill s1.M):=by rw [hs1];rfl
 rw [hs2]
 rw [← hs1] at hN l0
 clear hs1 hs2
 obtain ⟨m2,hm2⟩:∃ m,m = pFill s1.M:=⟨_,rfl⟩
 rw [← hm2]
 have HFi:=hid (show ∀ (A B:Option Addr) (a b:Nat) w',Row w' A s1.M.W→Row w' B s1.M.G→Calls Tryz.prog 33 #[.agg #[.slice A s1.M.W.length a,.slice B s1.M.G.length b,.bool s1.M.bad]] w' (RetMem w' m2) from fun A B a b w' k1 k2=>by rw [hm2];exact fill_any A B a b s1.M w' k1 k2 l0.1 l0.2.1 l0.2.2)
 clear hm2 l0
 have b1:=heap_alloc_new w (.cells uZ 30)
 have hb:Below w.heap.size w (w.alloc (.cells uZ 30)):=boxed _ _
 have z1:w.heap.size < (w.alloc (.cells uZ 30)).heap.size:=by simp
 go_enter Tryz.func18,Tryz.ntmps18
 go_upto_region 1 with (fail)
 generalize (w.alloc (.cells uZ 30)) = w1 at *
 go_upto_region 2 with (go_at_call 32;(with_reducible refine (hN.out _).mono ?_);rintro e w2 ⟨A3,B3,C3,L3,a3,b3,c3,d3,rfl,rW,rG,rC,rL,hk⟩)
 have hj:Below w1.heap.size w1 (w2.alloc (.cells (uS A3 B3 C3 L3 a3 b3 c3 d3 s1) 30)):=bstep hk (boxed _ _)
 have b6:=heap_alloc_new w2 (.cells (uS A3 B3 C3 L3 a3 b3 c3 d3 s1) 30)
 have z6:w2.heap.size < (w2.alloc (.cells (uS A3 B3 C3 L3 a3 b3 c3 d3 s1) 30)).heap.size:=by simp
 have n6:w.heap.size ≠ w2.heap.size:=Nat.ne_of_lt (Nat.lt_of_lt_of_le z1 hk.size)
 have g6:w.heap.size≤w2.heap.size:=Nat.le_of_lt (Nat.lt_of_lt_of_le z1 hk.size)
 have S3:RS (w2.alloc (.cells (uS A3 B3 C3 L3 a3 b3 c3 d3 s1) 30)) s1 A3 B3 C3 L3:=(RS.mk rW rG rC rL).step (boxed _ _)
 replace b1:=(hj.block _ z1).trans b1
 replace hb:=bstep hb hj
 replace z1:=Nat.lt_of_lt_of_le z1 hj.size
 clear hj hk rW rG rC rL
 obtain ⟨v6,hv⟩:∃ v,w2.heap.size = v:=⟨_,rfl⟩
 rw [hv] at b6 z6 n6 g6 ⊢
 clear hv
 generalize (w2.alloc (.cells (uS A3 B3 C3 L3 a3 b3 c3 d3 s1) 30)) = w3 at *
 go_upto_region 4 with (fail)
 obtain ⟨p0,p1,p2⟩:=cells3 b6
 go_upto_region 5 with (go_at_call 33;(with_reducible refine (HFi.out _ _ _ _ _ S3.W S3.G).mono ?_);rintro e w4 ⟨A4,B4,a4,b4,rfl,rW,rG,hk⟩;have b6q:=(hk.block v6 z6).trans b6;obtain ⟨q0,q1,q2⟩:=cells3 b6q;obtain ⟨qf0,qf1,qf2⟩:=frz3 b6q)
 have t3:Turn (fun b=>b = v6) w4 (((w4.setCell ⟨v6,0,none⟩ (.slice A4 m2.W.length a4)).setCell ⟨v6,1,none⟩ (.slice B4 m2.G.length b4)).setCell ⟨v6,2,none⟩ (.bool m2.bad)):=(((Turn.refl (fun b=>b = v6) w4).set rfl 0 _).set rfl 1 _).set rfl 2 _
 have b6s:(((w4.setCell ⟨v6,0,none⟩ (.slice A4 m2.W.length a4)).setCell ⟨v6,1,none⟩ (.slice B4 m2.G.length b4)).setCell ⟨v6,2,none⟩ (.bool m2.bad)).heap[v6]? = some (.cells #[.slice A4 m2.W.length a4,.slice B4 m2.G.length b4,.bool m2.bad,.slice C3 s1.C.length c3,.slice L3 s1.L.length d3] 30 (0,0)):=heap_setCell_same _ v6 2 _ _ _ (heap_setCell_same _ v6 1 _ _ _ (heap_setCell_same w4 v6 0 _ _ _ b6q))
 have S5:RS (((w4.setCell ⟨v6,0,none⟩ (.slice A4 m2.W.length a4)).setCell ⟨v6,1,none⟩ (.slice B4 m2.G.length b4)).setCell ⟨v6,2,none⟩ (.bool m2.bad)) (syMem s1 m2) A4 B4 C3 L3:=(RS.mk (s:=syMem s1 m2) rW rG (S3.C.step hk) (S3.L.step hk)).turnN t3 (noInt_sys b6q)
 replace b1:=(t3.block _ (Nat.lt_of_lt_of_le z1 hk.size) n6).trans ((hk.block _ z1).trans b1)
 replace z6:=Nat.lt_of_lt_of_le z6 (Nat.le_trans hk.size t3.size)
 replace z1:=Nat.lt_of_lt_of_le z1 (Nat.le_trans hk.size t3.size)
 replace hb:=(bstep hb hk).trans (t3.to_below (bstep hb hk).size (fun g hg=>by omega))
 clear S3 b6 b6q hk t3 rW rG p0 q0 qf0 p1 q1 qf1 p2 q2 qf2
 generalize (((w4.setCell ⟨v6,0,none⟩ (.slice A4 m2.W.length a4)).setCell ⟨v6,1,none⟩ (.slice B4 m2.G.length b4)).setCell ⟨v6,2,none⟩ (.bool m2.bad)) = w5 at *
 obtain ⟨p0,p1,p2,p3,p4⟩:=cells5 b6s
 obtain ⟨q0,q1,q2,q3,q4,qf0,qf1,qf2,qf3,qf4⟩:=cf5 b1
 go_wp2_with fail
 refine bodyPost_ret (v:=.tuple #[.agg #[.slice A4 m2.W.length a4,.slice B4 m2.G.length b4,.bool m2.bad,.slice C3 s1.C.length c3,.slice L3 s1.L.length d3],.int .i64 0]) (by simp [results,Tryz.results18,go_sem,q0,q1,q2,q3,q4]) rfl ?_
 have t5:=turn5 w5 w.heap.size (.slice A4 m2.W.length a4) (.slice B4 m2.G.length b4) (.bool m2.bad) (.slice C3 s1.C.length c3) (.slice L3 s1.L.length d3)
 have S6:=S5.turnN t5 (noInt_sys b1)
 exact ⟨A4,B4,C3,L3,a4,b4,c3,d3,rfl,S6.W,S6.G,S6.C,S6.L,hb.trans (t5.to_below hb.size (fun g hg=>by omega))⟩
def One (a b:List Int):Prop:=b = a ∨ ∃ p v,b = a.set p v
theorem One.len {a b:List Int} (h:One a b):b.length = a.length:=by
 rcases h with rfl | ⟨p,v,rfl⟩ <;> simp
def st7:Nat→Sy
 | 0=>syFill 1 2
 | n+1=>if n % 10 = 0 then pCall (st7 n) 0 ⟨7,0,[0,0,0,0,0,0,0,0],[]⟩ else pAlc (st7 n) 0
theorem st7_ok:∀ n,n < 31→SyFew (st7 n)∧2≤(st7 n).M.G.length∧(st7 n).L.length≤999998∧(((pTop (st7 n) 0).map (fun f:Fr=>f.R.getD 0 0)).getD 0).natAbs≤1000000000000:=by unfold SyFew;decide +kernel
theorem st7_co:∀ q,q < 3→(st7 (10 * (q+1))).C.length = 1∧((st7 (10 * (q+1))).C[0]?).map (fun x=>(x.v,x.e,x.F.length)) = some (if q < 2 then ((q:Int)+1,0,0) else (0,2,0)):=by decide +kernel
theorem st7_end:pPart (st7 30).M.G 0 = []∧pPart (st7 30).M.G 1 = [1,2]∧pPart (st7 30).M.G 2 = []:=by decide +kernel
theorem st7_top {n:Nat} (h:n < 31):∀ f,pTop (st7 n) 0 = some f→W64 (f.R.getD 0 0):=fun f hf=>by
 have h7:=(st7_ok n h).2.2.2
 rw [hf] at h7
 simp only [Option.map_some,Option.getD_some] at h7
 unfold W64;omega
theorem st7_call (q:Nat):st7 (10 * q+1) = pCall (st7 (10 * q)) 0 ⟨7,0,[0,0,0,0,0,0,0,0],[]⟩:=by
 show (if 10 * q % 10 = 0 then _ else _) = _
 rw [if_pos (by omega)]
theorem st7_step (q j:Nat) (h:j < 9):st7 (10 * q+1+(j+1)) = pAlc (st7 (10 * q+1+j)) 0:=by
 show (if (10 * q+1+j) % 10 = 0 then _ else _) = _
 rw [if_neg (by omega)]
 rfl
theorem own7_8:pOwn7 8 = true:=by decide +kernel
theorem own7_9:pOwn7 9 = false:=by decide +kernel
def Hol (w0:World) (v:Nat) (s:Sy) (wr:World):Prop:=∃ (A B C L:Option Addr) (a b c d:Nat),wr.heap[v]? = some (.cells (uS A B C L a b c d s) 30 (0,0))∧RS wr s A B C L∧Below w0.heap.size w0 wr
theorem Hol.put {w0 wk w9:World} {v:Nat} {s t:Sy} {A B C L A9 B9 C9 L9:Option Addr} {a b c d a9 b9 c9 d9:Nat} (hv:w0.heap.size≤v) (hB:wk.heap[v]? = some (.cells (uS A B C L a b c d s) 30 (0,0))) (hb:Below w0.heap.size w0 wk) (hk:Below wk.heap.size wk w9) (rW:Row w9 A9 t.M.W) (rG:Row w9 B9 t.M.G) (rC:RowC w9 C9 t.C) (rL:RowE w9 L9 t.L) :
  Hol w0 v t ((((((w9.setCell ⟨v,0,none⟩ (.slice A9 t.M.W.length a9)).setCell ⟨v,1,none⟩ (.slice B9 t.M.G.length b9)).setCell ⟨v,2,none⟩ (.bool t.M.bad)).setCell ⟨v,3,none⟩ (.slice C9 t.C.length c9)).setCell ⟨v,4,none⟩ (.slice L9 t.L.length d9))):=by
 have lz:v < wk.heap.size:=(Array.getElem?_eq_some_iff.1 hB).1
 have K9:=(hk.block v lz).trans hB
 exact ⟨A9,B9,C9,L9,a9,b9,c9,d9,blk5 K9 _ _ _ _ _,(RS.mk rW rG rC rL).turnN (turn5 _ _ _ _ _ _ _) (noInt_sys K9),(bstep hb hk).trans ((turn5 _ _ _ _ _ _ _).to_below (bstep hb hk).size (fun g hg=>by rw [hg];exact hv))⟩
def RO7 (w0:World) (v:Nat) (i:Value) (wr:World):Prop:=∃ q:Nat,q≤3∧i = .int .i64 q∧Hol w0 v (st7 (10 * q)) wr
def RI7 (w0:World) (v q:Nat) (i:Value) (wr:World):Prop:=∃ j:Nat,j≤9∧i = .int .i64 j∧Hol w0 v (st7 (10 * q+1+j)) wr
theorem shown7_any (w0:World):Calls Tryz.prog 5 #[] w0 fun e w'=>e = .returned (.bool true)∧Below w0.heap.size w0 w':=by
 have hb:Below w0.heap.size w0 w0:=Below.refl _ _
 obtain ⟨s0,hs0⟩:∃ s,s = st7 0:=⟨_,rfl⟩
 have HN:=hid (show ∀ w,Calls Tryz.prog 18 #[.int .i64 1,.int .i64 2] w (RetSys2 w s0 (.int .i64 0)) from fun w=>by rw [hs0];exact start_yes 1 2 w (by omega) (by omega) (by omega) (by omega))
 have hc0:((s0.C.length:Int) != 1) = false:=by rw [hs0];decide +kernel
 have HS0:=hid hs0
 clear hs0
 have HCA:=hid (show ∀ (q:Nat) (A B C L:Option Addr) (a b c d:Nat) (w:World),q < 3→RS w (st7 (10 * q)) A B C L→Calls Tryz.prog 8 #[.agg (uS A B C L a b c d (st7 (10 * q))),.int .i64 0,.int .i64 7,.int .i64 0,.int .i64 0,.int .i64 0] w (RetSys w (st7 (10 * q+1))) from fun q A B C L a b c d w hq k1=>by rw [st7_call];exact rcall_u A B C L a b c d (st7 (10 * q)) 0 7 0 0 0 w (st7_ok _ (by omega)).1 k1)
 have HST:=hid (show ∀ (q j:Nat) (A B C L:Option Addr) (a b c d:Nat) (w:World),q < 3→j < 9→RS w (st7 (10 * q+1+j)) A B C L→Calls Tryz.prog 15 #[.agg (uS A B C L a b c d (st7 (10 * q+1+j))),.int .i64 0] w (RetSys w (st7 (10 * q+1+(j+1)))) from fun q j A B C L a b c d w hq hj k1=>by have h8:=st7_ok (10 * q+1+j) (by omega);rw [st7_step q j hj];exact (alst_any A B C L a b c d (st7 (10 * q+1+j)) 0 w h8.1 h8.2.1 k1 h8.2.2.1 (st7_top (by omega))).mono (fun _ _ h=>h.weak))
 have HO8:=hid (show ∀ w,Calls Tryz.prog 20 #[.int .i64 8] w fun e w'=>e = .returned (.bool true)∧Below w.heap.size w w' from fun w=>by have h9:=own7_any 8 w;rw [own7_8] at h9;exact h9)
 have HO9:=hid (show ∀ w,Calls Tryz.prog 20 #[.int .i64 9] w fun e w'=>e = .returned (.bool false)∧Below w.heap.size w w' from fun w=>by have h9:=own7_any 9 w;rw [own7_9] at h9;exact h9)
 have HI:=hid (show ∀ (A B:Option Addr) (c d:Nat) (w:World),Row w A [1,2]→Row w B [1,2]→Calls Tryz.prog 17 #[.slice A 2 c,.slice B 2 d] w fun e w'=>e = .returned (.bool true)∧Below w.heap.size w w' from fun A B c d w k1 k2=>by have h9:=rints_any A B c d [1,2] [1,2] w k1 k2 (by simp);rw [show mInts [1,2] [1,2] = true by simp [mInts]] at h9;exact h9)
 go_enter Tryz.func5,Tryz.ntmps5
 go_upto_region 1 with (fail)
 go_wp2_with fail
 refine (HN.out _).mono ?_
 rintro e w1 ⟨A1,B1,C1,L1,a1,b1,c1,d1,rfl,rW,rG,rC,rL,hk⟩
 replace hb:=bstep hb hk
 clear hk
 have S1:RS w1 s0 A1 B1 C1 L1:=⟨rW,rG,rC,rL⟩
 clear rW rG rC rL
 go_upto_region 2 with (fail)
 have Bk1:=heap_alloc_new w1 (.cells (uS A1 B1 C1 L1 a1 b1 c1 d1 s0) 30)
 have lt1:w1.heap.size < (w1.alloc (.cells (uS A1 B1 C1 L1 a1 b1 c1 d1 s0) 30)).heap.size:=by simp
 have hk:Below w1.heap.size w1 (w1.alloc (.cells (uS A1 B1 C1 L1 a1 b1 c1 d1 s0) 30)):=boxed _ _
 have nw1:w0.heap.size≤w1.heap.size:=hb.size
 replace S1:=S1.step hk
 replace hb:=bstep hb hk
 clear hk
 obtain ⟨v1,hv⟩:∃ v,w1.heap.size = v:=⟨_,rfl⟩
 replace nw1:=Nat.le_trans nw1 (Nat.le_of_eq hv)
 rw [hv] at Bk1 lt1 ⊢
 clear hv
 generalize (w1.alloc (.cells (uS A1 B1 C1 L1 a1 b1 c1 d1 s0) 30)) = w2 at *
 obtain ⟨m1_0,m1_1,m1_2,m1_3,m1_4⟩:=cells5 Bk1
 go_upto_region 4 with (fail)
 clear m1_0 m1_1 m1_2 m1_3 m1_4
 have HH:Hol w0 v1 (st7 (10 * 0)) w2:=by rw [show st7 (10 * 0) = s0 from HS0.out.symm];exact ⟨A1,B1,C1,L1,a1,b1,c1,d1,Bk1,S1,hb⟩
 clear Bk1 lt1 S1 hb hc0 HN
 go_wp2_with fail
 go_loopw [3] (fun i wr=>RO7 w0 v1 i wr) (fun i _=>3 - (intOf i).toNat)
 case atStart=>exact ⟨0,by omega,rfl,HH⟩
 case round =>
  clear HH
  obtain ⟨q,hq1,rfl,A,B,C,L,a,b,c,d,kB,kS,kb⟩:=hrel
  have lz:v1 < wr.heap.size:=(Array.getElem?_eq_some_iff.1 kB).1
  by_cases hlt:q < 3
  ·have ql:(q:Int) < 3:=by omega
   obtain ⟨p0,p1,p2,p3,p4⟩:=cells5 kB
   go_upto_region 8 with (go_at_call 8;(with_reducible refine (HCA.out q A B C L a b c d _ hlt kS).mono ?_);rintro e w9 ⟨A9,B9,C9,L9,a9,b9,c9,d9,rfl,rW,rG,rC,rL,hk⟩;have K9:=(hk.block v1 lz).trans kB;obtain ⟨y0,y1,y2,y3,y4,yf0,yf1,yf2,yf3,yf4⟩:=cf5 K9)
   have HH:Hol w0 v1 (st7 (10 * q+1+0)) ((((((w9.setCell ⟨v1,0,none⟩ (.slice A9 (st7 (10 * q+1)).M.W.length a9)).setCell ⟨v1,1,none⟩ (.slice B9 (st7 (10 * q+1)).M.G.length b9)).setCell ⟨v1,2,none⟩ (.bool (st7 (10 * q+1)).M.bad)).setCell ⟨v1,3,none⟩ (.slice C9 (st7 (10 * q+1)).C.length c9)).setCell ⟨v1,4,none⟩ (.slice L9 (st7 (10 * q+1)).L.length d9))):=Hol.put nw1 kB kb hk rW rG rC rL
   clear p0 p1 p2 p3 p4 K9 rW rG rC rL hk kB kS kb lz y0 yf0 y1 yf1 y2 yf2 y3 yf3 y4 yf4
   generalize (((((w9.setCell ⟨v1,0,none⟩ (.slice A9 (st7 (10 * q+1)).M.W.length a9)).setCell ⟨v1,1,none⟩ (.slice B9 (st7 (10 * q+1)).M.G.length b9)).setCell ⟨v1,2,none⟩ (.bool (st7 (10 * q+1)).M.bad)).setCell ⟨v1,3,none⟩ (.slice C9 (st7 (10 * q+1)).C.length c9)).setCell ⟨v1,4,none⟩ (.slice L9 (st7 (10 * q+1)).L.length d9)) = w10 at *
   go_wp2_with fail
   go_loopw [4] (fun i wr=>RI7 w0 v1 q i wr) (fun i _=>9 - (intOf i).toNat)
   case atStart=>exact ⟨0,by omega,rfl,HH⟩
   case round =>
    clear HH
    obtain ⟨j,hj1,rfl,A,B,C,L,a,b,c,d,kB,kS,kb⟩:=hrel
    have lz:v1 < wr.heap.size:=(Array.getElem?_eq_some_iff.1 kB).1
    by_cases hj:j < 9
    ·have jl:(j:Int) < 9:=by omega
     obtain ⟨p0,p1,p2,p3,p4⟩:=cells5 kB
     go_wp2_with (go_at_call 15;(with_reducible refine (HST.out q j A B C L a b c d _ hlt hj kS).mono ?_);rintro e w9 ⟨A9,B9,C9,L9,a9,b9,c9,d9,rfl,rW,rG,rC,rL,hk⟩;have K9:=(hk.block v1 lz).trans kB;obtain ⟨y0,y1,y2,y3,y4,yf0,yf1,yf2,yf3,yf4⟩:=cf5 K9)
     go_roundw
     case rel=>exact ⟨j+1,by omega,by go_num,Hol.put nw1 kB kb hk rW rG rC rL⟩
     case measure=>simp [intOf];omega
    ·have j9:9 = j:=by omega
     subst j9
     have hst:st7 (10 * q+1+9) = st7 (10 * (q+1)):=by rw [show 10 * q+1+9 = 10 * (q+1) by omega]
     rw [hst] at kB kS
     clear hst
     obtain ⟨hl7,hm7⟩:=st7_co q hlt
     obtain ⟨t7,ht7⟩:∃ t,t = st7 (10 * (q+1)):=⟨_,rfl⟩
     have HT7:=hid ht7
     rw [← ht7] at kB kS hl7 hm7
     clear ht7
     obtain ⟨x,hx,hxe⟩:=Option.map_eq_some_iff.1 hm7
     clear hm7
     obtain ⟨bC,oC,eC,hbC,hatC⟩:=kS.C (by omega)
     obtain ⟨AFx,ARx,cFx,cRx,hcx,_,_⟩:=(hatC 0 x hx).cs
     subst eC
     clear hatC
     have x0:wr.cell? ⟨bC,oC,none⟩ = some (.slice AFx x.F.length cFx):=by have h:=hcx 0 _ rfl;simpa using h
     have x1:wr.cell? ⟨bC,oC+1,none⟩ = some (.int .i64 x.v):=by have h:=hcx 1 _ rfl;simpa using h
     have x2:wr.cell? ⟨bC,oC+2,none⟩ = some (.int .i64 x.e):=by have h:=hcx 2 _ rfl;simpa using h
     clear hcx
     obtain ⟨p0,p1,p2,p3,p4⟩:=cells5 kB
     have hq:((t7.C.length:Int) != 1) = false:=by rw [hl7];rfl
     have hi:(0:Int) < (t7.C.length:Int):=by omega
     have KB:=hid kB
     have KS:=hid kS
     clear kB kS hl7
     have hq3:q = 0 ∨ q = 1 ∨ q = 2:=by omega
     rcases hq3 with rfl | rfl | rfl
     ·obtain ⟨h1,h2,h3⟩:x.v = 1∧x.e = 0∧x.F.length = 0:=by simpa using hxe
      rw [h3] at x0;rw [h1] at x1;rw [h2] at x2
      clear h1 h2 h3 hxe
      go_wp2_with fail
      go_roundw
      case rel=>exact ⟨1,by omega,by go_num,by rw [show st7 (10 * 1) = t7 from HT7.out.symm];exact ⟨A,B,_,L,a,b,c,d,KB.out,KS.out,kb⟩⟩
      case measure=>simp [intOf]
     ·obtain ⟨h1,h2,h3⟩:x.v = 2∧x.e = 0∧x.F.length = 0:=by simpa using hxe
      rw [h3] at x0;rw [h1] at x1;rw [h2] at x2
      clear h1 h2 h3 hxe
      go_wp2_with fail
      go_roundw
      case rel=>exact ⟨2,by omega,by go_num,by rw [show st7 (10 * 2) = t7 from HT7.out.symm];exact ⟨A,B,_,L,a,b,c,d,KB.out,KS.out,kb⟩⟩
      case measure=>simp [intOf]
     ·obtain ⟨h1,h2,h3⟩:x.v = 0∧x.e = 2∧x.F.length = 0:=by simpa using hxe
      rw [h3] at x0;rw [h1] at x1;rw [h2] at x2
      clear h1 h2 h3 hxe
      go_wp2_with fail
      go_roundw
      case rel=>exact ⟨3,by omega,by go_num,by rw [show st7 (10 * 3) = t7 from HT7.out.symm];exact ⟨A,B,_,L,a,b,c,d,KB.out,KS.out,kb⟩⟩
      case measure=>simp [intOf]
  ·have ql:¬ (q:Int) < 3:=by omega
   have q3:3 = q:=by omega
   subst q3
   have l30:=(st7_co 2 (by omega)).1
   have m30:=(st7_co 2 (by omega)).2
   obtain ⟨pe0,pe1,pe2⟩:=st7_end
   have ok30:=st7_ok 30 (by omega)
   obtain ⟨t7,ht7⟩:∃ t,t = st7 30:=⟨_,rfl⟩
   have kB2:wr.heap[v1]? = some (.cells (uS A B C L a b c d t7) 30 (0,0)):=by rw [ht7];exact kB
   have kS2:RS wr t7 A B C L:=by rw [ht7];exact kS
   clear kB kS
   have L30:=hid (show t7.C.length = 1 by rw [ht7];exact l30)
   clear l30
   replace m30:(t7.C[0]?).map (fun x=>(x.v,x.e,x.F.length)) = some (0,2,0):=by rw [ht7];exact m30
   rw [← ht7] at pe0 pe1 pe2 ok30
   have HP:=hid (show ∀ w',RS w' t7 A B C L→Calls Tryz.prog 19 #[.agg (uS A B C L a b c d t7)] w' (RetL3 w' [] [1,2] []) from fun w' k1=>by have h9:=parts_any A B C L a b c d t7 w' k1.G ok30.1.2.1;rw [pe0,pe1,pe2] at h9;exact h9)
   clear pe0 pe1 pe2 ok30 ht7
   obtain ⟨p0,p1,p2,p3,p4⟩:=cells5 kB2
   go_upto_region 15 with (go_at_call 19;(with_reducible refine (HP.out _ kS2).mono ?_);rintro e w9 ⟨A11,A12,A13,c11,c12,c13,rfl,r11,r12,r13,hk⟩)
   have kB9:=(hk.block v1 lz).trans kB2
   have kS9:=kS2.step hk
   have kb9:=bstep kb hk
   clear kB2 kS2 kb lz hk p0 p1 p2 p3 p4
   obtain ⟨x,hx,hxe⟩:=Option.map_eq_some_iff.1 m30
   clear m30
   obtain ⟨bC,oC,eC,hbC,hatC⟩:=kS9.C (by have:=L30.out;omega)
   obtain ⟨AFx,ARx,cFx,cRx,hcx,_,_⟩:=(hatC 0 x hx).cs
   subst eC
   clear hatC
   have h2:x.e = 2:=by have h9:=congrArg (fun z=>z.2.1) hxe;simpa using h9
   have x2:w9.cell? ⟨bC,oC+2,none⟩ = some (.int .i64 2):=by have h:=hcx 2 _ rfl;rw [← h2];simpa using h
   clear hcx hxe hx h2
   obtain ⟨p0,p1,p2,p3,p4⟩:=cells5 kB9
   have hi:(0:Int) < (t7.C.length:Int):=by have:=L30.out;omega
   go_wp2_with fail
   have r8:Row (w9.alloc (.cells #[.int .i64 1,.int .i64 2] 3)) (some ⟨w9.heap.size,0,none⟩) [1,2]:=Blk.row (heap_alloc_new w9 (.cells #[.int .i64 1,.int .i64 2] 3))
   refine (HI.out _ _ _ _ _ (r12.step (boxed w9 _)) r8).mono ?_
   rintro e wa ⟨rfl,hk⟩
   go_wp2_with (first | (go_at_call 20;(with_reducible refine (HO8.out _).mono ?_);rintro e wy ⟨rfl,hk1⟩) | (go_at_call 20;(with_reducible refine (HO9.out _).mono ?_);rintro e wx ⟨rfl,hk2⟩))
   go_ret
   exact ⟨rfl,bstep (bstep (bstep (bstep kb9 (boxed w9 _)) hk) hk1) hk2⟩
end Go.Proofs.YtfipcdhodojodaaGreat
