/- Contracts: systems that are copied. -/
import Derived.Test.YtfipcdhodojodaaGreatKCpy
import Derived.Test.YtfipcdhodojodaaGreatKBas
namespace Go.Proofs.YtfipcdhodojodaaGreat
open Go.RowKit
set_option maxRecDepth 100000
set_option maxHeartbeats 16000000
set_option linter.unusedVariables false
set_option linter.unusedSimpArgs false
theorem v_kept {w2 w3 w4:World} {o:Obj} (hk1:Below (w2.alloc o).drew.heap.size (w2.alloc o).drew w3) (hk2:Below w3.heap.size w3 w4):w4.heap[w2.heap.size]? = some o:=by
 have hs:(w2.alloc o).drew.heap.size = w2.heap.size+1:=by simp
 have h1:=hk1.size
 rw [hs] at h1
 rw [hk2.block _ (by omega),hk1.block _ (by rw [hs];omega)]
 exact heap_alloc_new w2 o
theorem v_kept2 {w3 w4:World} {o:Obj} (hk2:Below (w3.alloc o).heap.size (w3.alloc o) w4):w4.heap[w3.heap.size]? = some o:=by
 rw [hk2.block _ (by simp)]
 exact heap_alloc_new w3 o
structure Sl (s:Sy) (qs:List Pq) (lo:Nat) (x0 x1 x2:Value) (AC:Option Addr) (cC:Nat) (AL:Option Addr) (cL:Nat) (v:Nat) (w2 wx:World):Prop where
 lv:lo≤v
 vx:v < wx.heap.size
 bv:wx.heap[v]? = some (.cells #[x0,x1,x2,.slice AC s.C.length cC,.slice AL s.L.length cL] 30 (0,0))
 co:wx.ownsRow lo 39 7 (.slice AC s.C.length cC) s.C.length (csCells s.C qs).flatten
 ev:wx.ownsRow lo 103 5 (.slice AL s.L.length cL) s.L.length (s.L.map evCells).flatten
 cv:∀ g,Value.ownBlock (.slice AC s.C.length cC) = some g→g ≠ v
 ev_:∀ g,Value.ownBlock (.slice AL s.L.length cL) = some g→g ≠ v∧Value.ownBlock (.slice AC s.C.length cC) ≠ some g
 be:Below w2.heap.size w2 wx
theorem Sl.mk2 {s:Sy} {qs:List Pq} {lo:Nat} {x0 x1 x2:Value} {AC:Option Addr} {cC:Nat} {AL:Option Addr} {cL:Nat} {v B1 B2:Nat} {w2 wa wb wx:World}
  (ho1:wa.ownsRow B1 39 7 (.slice AC s.C.length cC) s.C.length (csCells s.C qs).flatten) (hab:Below wa.heap.size wa wb) (ho2:wb.ownsRow B2 103 5 (.slice AL s.L.length cL) s.L.length (s.L.map evCells).flatten)
  (hB1:lo≤B1) (hlo:lo≤wa.heap.size) (hB2:wa.heap.size≤B2) (t:Turn (fun b=>b = v) wb wx) (bv:wx.heap[v]? = some (.cells #[x0,x1,x2,.slice AC s.C.length cC,.slice AL s.L.length cL] 30 (0,0))) (lv:lo≤v) (vx:v < wx.heap.size)
  (hv1:v < B1 ∨ wa.heap.size≤v) (hv2:v < B2 ∨ wb.heap.size≤v) (be:Below w2.heap.size w2 wx):Sl s qs lo x0 x1 x2 AC cC AL cL v w2 wx:=by
 have c1:=ho1.lt
 have c2:=ho2.lt
 have c3:=hab.size
 refine ⟨lv,vx,bv,own_base (own_turn (own_step ho1 hab) t (fun g hg e=>?_)) hB1,own_base (own_turn ho2 t (fun g hg e=>?_)) ?_,fun g hg e=>?_,fun g hg=>⟨fun e=>?_,fun e=>?_⟩,be⟩
 ·have:=c1 g hg;omega
 ·have:=c2 g hg;omega
 ·exact Nat.le_trans hlo hB2
 ·have:=c1 g hg;omega
 ·have:=c2 g hg;omega
 ·have h1:=c1 g e;have h2:=c2 g hg;omega
theorem set5 {w:World} {v T:Nat} {z0 z1 z2 z3 z4:Value} (h:w.heap[v]? = some (.cells #[z0,z1,z2,z3,z4] T (0,0))) (x0 x1 x2 x3 x4:Value) :
  (((((w.setCell ⟨v,0,none⟩ x0).setCell ⟨v,1,none⟩ x1).setCell ⟨v,2,none⟩ x2).setCell ⟨v,3,none⟩ x3).setCell ⟨v,4,none⟩ x4).heap[v]? = some (.cells #[x0,x1,x2,x3,x4] T (0,0)) :=
 heap_setCell_same _ _ _ _ _ _ (heap_setCell_same _ _ _ _ _ _ (heap_setCell_same _ _ _ _ _ _ (heap_setCell_same _ _ _ _ _ _ (heap_setCell_same _ _ _ _ _ _ h))))
theorem turn5 (w:World) (v:Nat) (x0 x1 x2 x3 x4:Value):Turn (fun b=>b = v) w (((((w.setCell ⟨v,0,none⟩ x0).setCell ⟨v,1,none⟩ x1).setCell ⟨v,2,none⟩ x2).setCell ⟨v,3,none⟩ x3).setCell ⟨v,4,none⟩ x4) :=
 (((((Turn.refl (fun b=>b = v) w).set rfl 0 x0).set rfl 1 x1).set rfl 2 x2).set rfl 3 x3).set rfl 4 x4
theorem lt5 {w:World} {v:Nat} (h:v < w.heap.size) (x0 x1 x2 x3 x4:Value):v < (((((w.setCell ⟨v,0,none⟩ x0).setCell ⟨v,1,none⟩ x1).setCell ⟨v,2,none⟩ x2).setCell ⟨v,3,none⟩ x3).setCell ⟨v,4,none⟩ x4).heap.size :=
 Nat.lt_of_lt_of_le h (turn5 w v x0 x1 x2 x3 x4).size
theorem way3 {s:Sy} {qs:List Pq} {lo:Nat} {x0 x1 x2:Value} {AC:Option Addr} {cC:Nat} {AL:Option Addr} {cL:Nat} {w2 w3 w4:World} (bs:w2.heap.size = lo) (hk1:Below w2.drew.heap.size w2.drew w3) (hk2:Below w3.heap.size w3 w4)
  (ho1:w3.ownsRow w2.drew.heap.size 39 7 (.slice AC s.C.length cC) s.C.length (csCells s.C qs).flatten) (ho2:w4.ownsRow w3.heap.size 103 5 (.slice AL s.L.length cL) s.L.length (s.L.map evCells).flatten) :
  Sl s qs lo x0 x1 x2 AC cC AL cL w4.heap.size w2 (w4.alloc (.cells #[x0,x1,x2,.slice AC s.C.length cC,.slice AL s.L.length cL] 30)):=by
 subst bs
 have k1:Below w2.heap.size w2 w3:=((Below.refl _ _).drew).trans hk1
 have s1:=k1.size
 have s2:=hk2.size
 exact Sl.mk2 ho1 hk2 ho2 (Nat.le_refl _) s1 (Nat.le_refl _) ((Turn.refl _ _).alloc _) (heap_alloc_new _ _) (by omega) (by simp) (.inr s2) (.inr (Nat.le_refl _)) (bstep (bstep k1 hk2) (boxed _ _))
theorem way2 {s:Sy} {qs:List Pq} {lo:Nat} {x0 x1 x2:Value} {AC:Option Addr} {cC:Nat} {AL:Option Addr} {cL:Nat} {w2 w3 w4:World} {o:Obj} {z0 z1 z2 z3 z4:Value} (bs:w2.heap.size = lo) (hk1:Below w2.drew.heap.size w2.drew w3) (hk2:Below (w3.alloc o).heap.size (w3.alloc o) w4)
  (ho1:w3.ownsRow w2.drew.heap.size 39 7 (.slice AC s.C.length cC) s.C.length (csCells s.C qs).flatten) (ho2:w4.ownsRow (w3.alloc o).heap.size 103 5 (.slice AL s.L.length cL) s.L.length (s.L.map evCells).flatten)
  (yb:w4.heap[w3.heap.size]? = some (.cells #[z0,z1,z2,z3,z4] 30 (0,0))) :
  Sl s qs lo x0 x1 x2 AC cC AL cL w3.heap.size w2 (((((w4.setCell ⟨w3.heap.size,0,none⟩ x0).setCell ⟨w3.heap.size,1,none⟩ x1).setCell ⟨w3.heap.size,2,none⟩ x2).setCell ⟨w3.heap.size,3,none⟩ (.slice AC s.C.length cC)).setCell ⟨w3.heap.size,4,none⟩ (.slice AL s.L.length cL)):=by
 subst bs
 have k1:Below w2.heap.size w2 w3:=((Below.refl _ _).drew).trans hk1
 have k2:Below w3.heap.size w3 w4:=bstep (boxed _ _) hk2
 have s1:=k1.size
 have s2:=hk2.size
 have e:(w3.alloc o).heap.size = w3.heap.size+1:=by simp
 have hv:w3.heap.size < w4.heap.size:=by omega
 exact Sl.mk2 ho1 k2 ho2 (Nat.le_refl _) s1 (by omega) (turn5 _ _ _ _ _ _ _) (set5 yb _ _ _ _ _) s1 (lt5 hv _ _ _ _ _) (.inr (Nat.le_refl _)) (.inl (by omega)) ((bstep k1 k2).trans ((turn5 _ _ _ _ _ _ _).to_below (by omega) (fun g hg=>by omega)))
theorem way1 {s:Sy} {qs:List Pq} {lo:Nat} {x0 x1 x2:Value} {AC:Option Addr} {cC:Nat} {AL:Option Addr} {cL:Nat} {w2 w3 w4:World} {o:Obj} {z0 z1 z2 z3 z4:Value} (bs:w2.heap.size = lo) (hk1:Below (w2.alloc o).drew.heap.size (w2.alloc o).drew w3) (hk2:Below w3.heap.size w3 w4)
  (ho1:w3.ownsRow (w2.alloc o).drew.heap.size 39 7 (.slice AC s.C.length cC) s.C.length (csCells s.C qs).flatten) (ho2:w4.ownsRow w3.heap.size 103 5 (.slice AL s.L.length cL) s.L.length (s.L.map evCells).flatten)
  (yb:w4.heap[w2.heap.size]? = some (.cells #[z0,z1,z2,z3,z4] 30 (0,0))) :
  Sl s qs lo x0 x1 x2 AC cC AL cL w2.heap.size w2 (((((w4.setCell ⟨w2.heap.size,0,none⟩ x0).setCell ⟨w2.heap.size,1,none⟩ x1).setCell ⟨w2.heap.size,2,none⟩ x2).setCell ⟨w2.heap.size,3,none⟩ (.slice AC s.C.length cC)).setCell ⟨w2.heap.size,4,none⟩ (.slice AL s.L.length cL)):=by
 subst bs
 have k1:Below w2.heap.size w2 w3:=bstep ((boxed _ _).drew) hk1
 have s1:=hk1.size
 have s2:=hk2.size
 have e:(w2.alloc o).drew.heap.size = w2.heap.size+1:=by simp
 have hv:w2.heap.size < w4.heap.size:=by omega
 exact Sl.mk2 ho1 hk2 ho2 (by omega) k1.size (Nat.le_refl _) (turn5 _ _ _ _ _ _ _) (set5 yb _ _ _ _ _) (Nat.le_refl _) (lt5 hv _ _ _ _ _) (.inl (by omega)) (.inl (by omega)) ((bstep k1 hk2).trans ((turn5 _ _ _ _ _ _ _).to_below (by omega) (fun g hg=>by omega)))
theorem copied_any (A B AC AL:Option Addr) (c d cC cL:Nat) (s:Sy) (w:World) (hW:Row w A s.M.W) (hG:Row w B s.M.G) (hC:RowC w AC s.C) (hL:RowE w AL s.L) (h0:s.M.W.length≤1000000) (h1:s.M.G.length≤1000000) (h2:s.C.length≤1000000) (h3:s.L.length≤1000000)
  (h4:∀ x ∈ s.C,x.ret.length≤1000000∧x.F.length≤1000000∧∀ f ∈ x.F,f.S.length≤1000000) :
  Calls Tryz.prog 67 #[.agg (uS A B AC AL c d cC cL s)] w (RetCopy w s):=by
 obtain ⟨qs,hq,hsC,hR⟩:=hC.src
 have hsL:=hL.src
 have H4:=hid h4
 have HR:=hid hR
 have HQ:=hid hq
 clear h4 hR hq
 obtain ⟨b1,b2,bs⟩:=heap2 w (.cells (uS A B AC AL c d cC cL s) 30) (.cells uZ 30)
 have hw2:Below w.heap.size w ((w.alloc (.cells (uS A B AC AL c d cC cL s) 30)).alloc (.cells uZ 30)):=bstep (boxed _ _) (boxed _ _)
 go_enter Tryz.func67,Tryz.ntmps67
 go_upto_region 1 with (fail)
 generalize ((w.alloc (.cells (uS A B AC AL c d cC cL s) 30)).alloc (.cells uZ 30)) = w2 at *
 have BS:=hid bs
 clear bs
 replace hsC:=hsC.step hw2
 replace hsL:=hsL.step hw2
 obtain ⟨p0,p1,p2,p3,p4⟩:=cells5 b1
 have hS:∀ w',Below w2.heap.size w2 w'→(w'.cell? ⟨w.heap.size,0,none⟩ = some (.slice A s.M.W.length c)∧w'.cell? ⟨w.heap.size,1,none⟩ = some (.slice B s.M.G.length d)∧w'.cell? ⟨w.heap.size,2,none⟩ = some (.bool s.M.bad)∧w'.cell? ⟨w.heap.size,3,none⟩ = some (.slice AC s.C.length cC)∧w'.cell? ⟨w.heap.size,4,none⟩ = some (.slice AL s.L.length cL)):=fun w' h=>⟨(h.cell (by rw [BS.out];simp)).trans p0,(h.cell (by rw [BS.out];simp)).trans p1,(h.cell (by rw [BS.out];simp)).trans p2,(h.cell (by rw [BS.out];simp)).trans p3,(h.cell (by rw [BS.out];simp)).trans p4⟩
 have KS:=hid hS
 have Hb1:=hid b1
 have Hb2:=hid b2
 clear hS b1 b2
 go_cut [3] from 4 (fun t wx=>∃ (v:Nat) (AC' AL':Option Addr) (cC' cL':Nat),t = .pointer (some ⟨v,0,none⟩)∧Sl s qs (w.heap.size+2) (.slice A s.M.W.length c) (.slice B s.M.G.length d) (.bool s.M.bad) AC' cC' AL' cL' v w2 wx)
 case first =>
  clear hW hG hC hL H4 HR Hb1 Hb2 hw2 h0 h1
  go_region_held3 (fun w'=>w'.cell? ⟨w.heap.size,0,none⟩ = some (.slice A s.M.W.length c)∧w'.cell? ⟨w.heap.size,1,none⟩ = some (.slice B s.M.G.length d)∧w'.cell? ⟨w.heap.size,2,none⟩ = some (.bool s.M.bad)∧w'.cell? ⟨w.heap.size,3,none⟩ = some (.slice AC s.C.length cC)∧w'.cell? ⟨w.heap.size,4,none⟩ = some (.slice AL s.L.length cL)) (exact KS.out _ (by repeat (first | (with_reducible exact Below.refl _ _) | (with_reducible refine Below.drew ?_) | (with_reducible refine bstep ?_ hk2) | (with_reducible refine bstep ?_ hk1) | (with_reducible refine bstep ?_ (boxed _ _)) | (with_reducible refine Below.setCell ?_ (by first | (dsimp only;omega) | (simp;done)) _))))
   (first
    | (go_at_call 81;refine (cloneCo _ _ _ (csCells s.C qs) _ (hsC.step (by repeat (first | (with_reducible exact Below.refl _ _) | (with_reducible refine Below.drew ?_) | (with_reducible refine bstep ?_ (boxed _ _))))) (csCells_len HQ.out) (by omega)).mono ?_;rintro e w3 ⟨v1,rfl,ho1,hk1⟩;obtain ⟨AC',cC',rfl,hs1⟩:=own_src ho1 csCells_each (csCells_len HQ.out) (csCells_one _ _);clear hs1;have sz1:w2.heap.size≤w3.heap.size:=(bstep (by repeat (first | (with_reducible exact Below.refl _ _) | (with_reducible refine Below.drew ?_) | (with_reducible refine bstep ?_ (boxed _ _)))) hk1).size;have sy1:=hk1.size;(try simp at sy1);(first | (refine (fun (sx1:w2.heap.size < w3.heap.size)=>?_) ?_;rotate_left;omega) | skip))
    | (go_at_call 82;refine (cloneEv _ _ _ (s.L.map evCells) _ (hsL.step (by repeat (first | (with_reducible exact Below.refl _ _) | (with_reducible refine Below.drew ?_) | (with_reducible refine bstep ?_ hk1) | (with_reducible refine bstep ?_ (boxed _ _))))) (by simp) (by omega)).mono ?_;rintro e w4 ⟨v2,rfl,ho2,hk2⟩;obtain ⟨AL',cL',rfl,hs2⟩:=own_src ho2 hsL.each (by simp) hsL.one;clear hs2;have sz2:w2.heap.size≤w4.heap.size:=(bstep (by repeat (first | (with_reducible exact Below.refl _ _) | (with_reducible refine Below.drew ?_) | (with_reducible refine bstep ?_ hk1) | (with_reducible refine bstep ?_ (boxed _ _)))) hk2).size;have sy2:=hk2.size;(try simp at sy2);(first | (have yb:=v_kept hk1 hk2;obtain ⟨y0,y1,y2,y3,y4,yf0,yf1,yf2,yf3,yf4⟩:=cf5 yb) | (have yb:=v_kept2 hk2;obtain ⟨y0,y1,y2,y3,y4,yf0,yf1,yf2,yf3,yf4⟩:=cf5 yb) | skip)))
  all_goals go_wp2_with fail
  all_goals go_meet
  ·exact ⟨_,AC',AL',cC',cL',rfl,way3 BS.out hk1 hk2 ho1 ho2⟩
  ·exact ⟨_,AC',AL',cC',cL',rfl,way2 BS.out hk1 hk2 ho1 ho2 yb⟩
  ·exact ⟨_,AC',AL',cC',cL',rfl,way1 BS.out hk1 hk2 ho1 ho2 yb⟩
 case rest =>
  obtain ⟨v,AC',AL',cC',cL',rfl,L⟩:=hcut
  clear KS p0 p1 p2 p3 p4
  have lv:=L.lv
  have vx:=L.vx
  have hs2:=BS.out
  have a1:=(L.be.block w.heap.size (by omega)).trans Hb1.out
  have a2:=(L.be.block (w.heap.size+1) (by omega)).trans Hb2.out
  have bv:=L.bv
  have co:=L.co
  have ev:=L.ev
  have hw:Below w.heap.size w wc:=hw2.trans (L.be.mono (by omega))
  have HCV:=hid L.cv
  have HEV:=hid L.ev_
  have HCX:=hid (show ∀ g,Value.ownBlock (.slice AC' s.C.length cC') = some g→g < wc.heap.size from fun g hg=>(co.lt g hg).2)
  have HLX:=hid (show ∀ g,Value.ownBlock (.slice AL' s.L.length cL') = some g→g < wc.heap.size from fun g hg=>(ev.lt g hg).2)
  clear L hs2 hw2 Hb1 Hb2 hsC hsL
  obtain ⟨n0,n1,n2,n3,n4⟩:=cells5 a1
  go_wp2_with fail
  refine (cloneInt _ _ _ (s.M.W.map inCells) _ ((hW.step hw).src) (by simp) h0).mono ?_
  rintro e wd ⟨v1,rfl,ho,hk⟩
  obtain ⟨AW',cW',rfl,hrW⟩:=own_rowI ho rfl
  clear ho n0 n1 n2 n3 n4
  replace a1:=(hk.block w.heap.size (by omega)).trans a1
  replace a2:=(hk.block (w.heap.size+1) (by omega)).trans a2
  replace bv:=(hk.block v vx).trans bv
  replace co:=own_step co hk
  replace ev:=own_step ev hk
  replace hw:=bstep hw hk
  have vd:v < wd.heap.size:=Nat.lt_of_lt_of_le vx hk.size
  have sc:wc.heap.size≤wd.heap.size:=hk.size
  clear hk
  obtain ⟨n0,n1,n2,n3,n4⟩:=cells5 a1
  obtain ⟨m0,m1,m2,m3,m4,mf0,mf1,mf2,mf3,mf4⟩:=cf5 bv
  go_wp2_with fail
  have t1:Turn (fun b=>b = v) wd (wd.setCell ⟨v,0,none⟩ (.slice AW' s.M.W.length cW')):=(Turn.refl _ _).set (p:=fun b=>b = v) rfl _ _
  replace a1:=(t1.block w.heap.size (by omega) (by omega)).trans a1
  replace a2:=(t1.block (w.heap.size+1) (by omega) (by omega)).trans a2
  replace bv:(wd.setCell ⟨v,0,none⟩ (.slice AW' s.M.W.length cW')).heap[v]? = some (.cells (uS AW' B AC' AL' cW' d cC' cL' s) 30 (0,0)):=heap_setCell_same wd _ _ _ _ _ bv
  replace co:=own_turn co t1 (fun g hg e=>HCV.out g hg e)
  replace ev:=own_turn ev t1 (fun g hg e=>(HEV.out g hg).1 e)
  replace hrW:=hrW.turn t1 (fun b _ hb e=>by omega)
  replace hw:=hw.setCell (p:=⟨v,0,none⟩) (show w.heap.size≤v by omega) (.slice AW' s.M.W.length cW')
  replace vd:=Nat.lt_of_lt_of_le vd t1.size
  replace sc:=Nat.le_trans sc t1.size
  clear t1 n0 n1 n2 n3 n4 m0 m1 m2 m3 m4 mf0 mf1 mf2 mf3 mf4
  generalize (wd.setCell ⟨v,0,none⟩ (.slice AW' s.M.W.length cW')) = we at *
  refine (cloneInt _ _ _ (s.M.G.map inCells) _ ((hG.step hw).src) (by simp) h1).mono ?_
  rintro e wf ⟨v1,rfl,ho,hk⟩
  obtain ⟨AG',cG',rfl,hrG⟩:=own_rowI ho rfl
  clear ho
  replace hrG:RowI (fun b=>wc.heap.size≤b) wf AG' s.M.G:=hrG.mono (fun b _ hb=>by omega)
  replace a2:=(hk.block (w.heap.size+1) (by omega)).trans a2
  replace bv:=(hk.block v vd).trans bv
  clear a1
  replace co:=own_step co hk
  replace ev:=own_step ev hk
  replace hw:=bstep hw hk
  replace hrW:=hrW.keep hk.size (fun b hl _=>hk.block b hl)
  have vf:v < wf.heap.size:=Nat.lt_of_lt_of_le vd hk.size
  clear hk
  obtain ⟨m0,m1,m2,m3,m4,mf0,mf1,mf2,mf3,mf4⟩:=cf5 bv
  go_wp2_with fail
  have t1:Turn (fun b=>b = v) wf (wf.setCell ⟨v,1,none⟩ (.slice AG' s.M.G.length cG')):=(Turn.refl _ _).set (p:=fun b=>b = v) rfl _ _
  replace a2:=(t1.block (w.heap.size+1) (by omega) (by omega)).trans a2
  replace bv:(wf.setCell ⟨v,1,none⟩ (.slice AG' s.M.G.length cG')).heap[v]? = some (.cells (uS AW' AG' AC' AL' cW' cG' cC' cL' s) 30 (0,0)):=heap_setCell_same wf _ _ _ _ _ bv
  replace co:=own_turn co t1 (fun g hg e=>HCV.out g hg e)
  replace ev:=own_turn ev t1 (fun g hg e=>(HEV.out g hg).1 e)
  replace hrW:=hrW.turn t1 (fun b _ hb e=>by omega)
  replace hrG:=hrG.turn t1 (fun b _ hb e=>by omega)
  replace hw:=hw.setCell (p:=⟨v,1,none⟩) (show w.heap.size≤v by omega) (.slice AG' s.M.G.length cG')
  replace vf:=Nat.lt_of_lt_of_le vf t1.size
  clear t1 m0 m1 m2 m3 m4 mf0 mf1 mf2 mf3 mf4
  generalize (wf.setCell ⟨v,1,none⟩ (.slice AG' s.M.G.length cG')) = wm at *
  skip
  have C0:=Cl.start HQ.out co
  clear co
  go_loopw [29] (fun i wr=>∃ k:Nat,k≤s.C.length∧i = .int .i64 k∧Cl s qs (w.heap.size+2) (.slice AC' s.C.length cC') wm k wr) (fun i _=>s.C.length - (intOf i).toNat)
  case atStart=>exact ⟨0,Nat.zero_le _,rfl,C0⟩
  case round =>
   obtain ⟨k,hkk,rfl,CL⟩:=hrel
   have hbr:Below w.heap.size w wr:=hw.trans (CL.t.to_below hw.size (fun g hg=>by have h3:=(CL.gl g hg).1;omega))
   have d1:=(CL.t.block v vf (fun e=>HCV.out v e rfl)).trans bv
   have d2:=(CL.t.block (w.heap.size+1) (by omega) (fun e=>by have h3:=(CL.gl _ e).1;omega)).trans a2
   by_cases hlt:k < s.C.length
   ·obtain ⟨g,rfl⟩:∃ g,AC' = some ⟨g,0,none⟩:=by
     obtain ⟨_,_,_,ho2,_⟩:=CL.ex
     obtain ⟨g,cap,e,_⟩:=ho2.form (by omega)
     injection e with e1
     exact ⟨g,e1⟩
    obtain ⟨x,hx⟩:∃ x,s.C[k]? = some x:=⟨_,List.getElem?_eq_getElem hlt⟩
    obtain ⟨y1,y2,y3⟩:=H4.out x (List.mem_of_getElem? hx)
    obtain ⟨⟨AF,cF,AR,cR⟩,hqk,hc,hfz⟩:=CL.look hx
    obtain ⟨rF,rR⟩:=HR.out k x _ hx hqk
    dsimp only at rF rR
    replace rF:=rF.step hbr
    replace rR:=rR.step hbr
    have u0:wr.cell? ⟨g,k * 7,none⟩ = some (.slice AF x.F.length cF):=hc 0 _ rfl
    have u1:wr.cell? ⟨g,k * 7+1,none⟩ = some (.int .i64 x.v):=hc 1 _ rfl
    have u2:wr.cell? ⟨g,k * 7+2,none⟩ = some (.int .i64 x.e):=hc 2 _ rfl
    have u3:wr.cell? ⟨g,k * 7+3,none⟩ = some (.int .i64 x.x0):=hc 3 _ rfl
    have u4:wr.cell? ⟨g,k * 7+4,none⟩ = some (.int .i64 x.x1):=hc 4 _ rfl
    have u5:wr.cell? ⟨g,k * 7+5,none⟩ = some (.int .i64 x.x2):=hc 5 _ rfl
    have u6:wr.cell? ⟨g,k * 7+6,none⟩ = some (.slice AR x.ret.length cR):=hc 6 _ rfl
    obtain ⟨-,-,-,c0⟩:=cells4 d1
    have hg1:g < wr.heap.size:=World.block_lt_of_cell? wr _ u0
    have hv1:v < wr.heap.size:=World.block_lt_of_cell? wr _ c0
    have HX:=hid hx
    have HZ:=hid hfz
    have HY:=hid y3
    have kl:(k:Int) < (s.C.length:Int):=by omega
    clear hc hx hfz hqk d1 d2 y3
    go_upto_region 7 with (fail)
    go_region_with (first
      | (go_at_call 83;(with_reducible refine (copiedCore_any AF AR cF cR x _ (rF.step ((Below.refl _ _).drew)) (rR.step ((Below.refl _ _).drew)) y2 y1 HY.out).mono ?_);rintro e w3 ⟨ps,vF,vR,rfl,CI,hk3⟩;obtain ⟨AF',cF',AR',cR',rfl,rfl,_,_⟩:=CI.told;have hkk3:Below wr.heap.size wr w3:=bstep ((Below.refl _ _).drew) hk3;have c1:=(hkk3.cell hv1).trans c0;have v0:=(hkk3.cell hg1).trans u0;have v1:=(hkk3.cell hg1).trans u1;have v2:=(hkk3.cell hg1).trans u2;have v3:=(hkk3.cell hg1).trans u3;have v4:=(hkk3.cell hg1).trans u4;have v5:=(hkk3.cell hg1).trans u5;have v6:=(hkk3.cell hg1).trans u6;have z0:=(hkk3.frozen hg1).trans (HZ.out (k * 7));have z1:=(hkk3.frozen hg1).trans (HZ.out (k * 7+1));have z2:=(hkk3.frozen hg1).trans (HZ.out (k * 7+2));have z3:=(hkk3.frozen hg1).trans (HZ.out (k * 7+3));have z4:=(hkk3.frozen hg1).trans (HZ.out (k * 7+4));have z5:=(hkk3.frozen hg1).trans (HZ.out (k * 7+5));have z6:=(hkk3.frozen hg1).trans (HZ.out (k * 7+6))))
    all_goals go_wp2_with fail
    all_goals exact ⟨⟨k+1,by omega,by go_num,CL.next HX.out hkk3 (CI.mono (fun b _ hb=>hb))⟩,by simp [intOf];omega⟩
   ·obtain ⟨own,vs,SI⟩:=CL.done (AW:=AW') (AG:=AG') (vL:=.slice AL' s.L.length cL') (by omega) (by omega) (hrW.mono (fun b _ hb=>⟨by omega,fun e=>by have h3:=HCX.out b e;omega,fun e=>by have h3:=HLX.out b e;omega⟩)) (hrG.mono (fun b _ hb=>⟨by omega,fun e=>by have h3:=HCX.out b e;omega,fun e=>by have h3:=HLX.out b e;omega⟩)) ev (fun g hg=>(HEV.out g hg).2)
    obtain ⟨m0,m1,m2,m3,m4,mf0,mf1,mf2,mf3,mf4⟩:=cf5 d1
    obtain ⟨q0,q1,q2,q3,q4,qf0,qf1,qf2,qf3,qf4⟩:=cf5 d2
    go_wp2
    refine bodyPost_ret (v:=.agg (uS AW' AG' AC' AL' cW' cG' cC' cL' s)) (by simp [uS,results,Tryz.results67,go_sem,q0,q1,q2,q3,q4]) rfl ?_
    have key:∀ w',Turn (fun b=>b = w.heap.size+1) wr w'→SyI s (w.heap.size+2) wm.heap.size own vs AW' AG' (.slice AC' s.C.length cC') (.slice AL' s.L.length cL') w'∧Below w.heap.size w w':=fun w' hT =>
     ⟨SI.turn hT (fun b hb e=>by omega),hbr.trans (hT.to_below hbr.size (fun g hg=>by omega))⟩
    obtain ⟨k1,k2⟩:=key _ (turn5 _ _ _ _ _ _ _)
    exact ⟨_,_,own,vs,_,_,_,_,_,_,rfl,by omega,k1,k2⟩
end Go.Proofs.YtfipcdhodojodaaGreat
