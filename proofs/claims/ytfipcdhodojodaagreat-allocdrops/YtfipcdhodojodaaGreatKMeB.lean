/- Contracts: what is touched, by the document. -/
import Derived.Test.YtfipcdhodojodaaGreatKMeA
import Derived.Deep.RegionHeld3
namespace Go.Proofs.YtfipcdhodojodaaGreat
open Go.RowKit
set_option maxHeartbeats 2000000
set_option linter.unusedVariables false
set_option linter.unusedSimpArgs false
theorem mIn_no {W:List Int} {p:Int} (h:p < 0 ∨ (W.length:Int)≤p):mIn W p = false:=by unfold mIn;rw [decide_eq_false (by omega)]
theorem mIn_yes {W:List Int} {p:Int} (h1:0≤p) (h2:p < (W.length:Int)):mIn W p = true:=by unfold mIn;rw [decide_eq_true ⟨h1,h2⟩]
theorem mBad_no {m:Ar} {p:Int} (h:mIn m.W p = false):mBad m p = true:=by unfold mBad;simp [h]
theorem mBad_yes {m:Ar} {p:Int} (h:mIn m.W p = true):mBad m p = (m.bad || (decide (0 < mNode m.G p) && m.G.getD (mNode m.G p).toNat 0 == 0)):=by unfold mBad;simp [h]
theorem bad_any (A A':Option Addr) (c c':Nat) (m:Ar) (p:Int) (w:World) (hG:Row w A' m.G) (h0:m.W.length≤1000000) (h1:m.G.length≤1000000) (h2:1≤m.G.length) :
  Calls Tryz.prog 24 #[.agg #[.slice A m.W.length c,.slice A' m.G.length c',.bool m.bad],.int .i64 p] w fun e w'=>e = .returned (.bool (mBad m p))∧Below w.heap.size w w':=by
 by_cases q1:p < 0
 ·have T:=hid (mBad_no (m:=m) (mIn_no (.inl q1)))
  go_enter Tryz.func24,Tryz.ntmps24
  go_wp2
  go_ret
  exact ⟨ret_bool T.out.symm,boxed _ _⟩
 ·have q2:0≤p:=by omega
  clear q1
  by_cases q3:(m.W.length:Int)≤p
  ·have T:=hid (mBad_no (m:=m) (mIn_no (.inr q3)))
   go_enter Tryz.func24,Tryz.ntmps24
   go_wp2
   go_ret
   exact ⟨ret_bool T.out.symm,boxed _ _⟩
  ·have q4:p < (m.W.length:Int):=by omega
   clear q3
   have hB:=mBad_yes (m:=m) (mIn_yes q2 q4)
   have hN:=mNode_cases m.G p
   obtain ⟨n,hn⟩:∃ n,mNode m.G p = n:=⟨_,rfl⟩
   rw [hn] at hB hN
   have HN:=hid hn
   clear hn
   cases hb:m.bad
   ·rw [hb,Bool.false_or] at hB
    by_cases q5:0 < n
    ·obtain ⟨k,rfl⟩:∃ k:Nat,n = k:=⟨n.toNat,by omega⟩
     have hkl:k < m.G.length:=by omega
     obtain ⟨b1,o1,x,rfl,hb1,X,hc⟩:=hG.atX k hkl
     rw [Int.toNat_natCast,X.out,decide_eq_true q5,Bool.true_and] at hB
     have HB:=hid hB
     clear hB hN
     go_enter Tryz.func24,Tryz.ntmps24
     go_wp2_with (go_at_call 44;refine (rnode_any _ _ _ _ ⟨m.W,m.G,false⟩ p _ (by simp;omega) h2).mono ?_;rintro e wk ⟨rfl,hk⟩;dsimp only at *;rw [HN.out];obtain ⟨gc,gf⟩:=bcell hk;have hz:w.heap.size < wk.heap.size:=(by have:=hk.size;simp at this;omega);have hcl:=Row.cellX ((hG.alloc _).step hk) k hkl X)
     go_ret
     exact ⟨ret_bool HB.out.symm,bstep (boxed _ _) hk⟩
    ·rw [decide_eq_false q5,Bool.false_and] at hB
     have q6:n≤0:=by omega
     have HB:=hid hB
     clear hB hN q5
     go_enter Tryz.func24,Tryz.ntmps24
     go_wp2_with (go_at_call 44;refine (rnode_any _ _ _ _ ⟨m.W,m.G,false⟩ p _ (by simp;omega) h2).mono ?_;rintro e wk ⟨rfl,hk⟩;dsimp only at *;rw [HN.out];obtain ⟨gc,gf⟩:=bcell hk;have hz:w.heap.size < wk.heap.size:=(by have:=hk.size;simp at this;omega))
     go_ret
     exact ⟨ret_bool HB.out.symm,bstep (boxed _ _) hk⟩
   ·rw [hb,Bool.true_or] at hB
    have HB:=hid hB
    clear hB hN
    go_enter Tryz.func24,Tryz.ntmps24
    go_wp2_with (go_at_call 44;refine (rnode_any _ _ _ _ ⟨m.W,m.G,true⟩ p _ (by simp;omega) h2).mono ?_;rintro e wk ⟨rfl,hk⟩;obtain ⟨gc,gf⟩:=bcell hk;have hz:w.heap.size < wk.heap.size:=(by have:=hk.size;simp at this;omega))
    go_ret
    exact ⟨ret_bool HB.out.symm,bstep (boxed _ _) hk⟩
structure Var (w0:World) (v:Nat) (cs:Array Value) (wx:World):Prop where
 lv:w0.heap.size≤v
 bx:wx.heap[v]? = some (.cells cs 26 (0,0))
 be:Below w0.heap.size w0 wx
theorem undrew {B:Nat} {a w:World} (h:Below B a.drew w):Below B a w:=⟨h.os,h.tape,h.output,h.size,h.block⟩
theorem keepS {W w1:World} {b:Nat} {x y z:Value} (hb:Below W.heap.size W w1) (h:W.cell? ⟨b,0,none⟩ = some x∧W.cell? ⟨b,1,none⟩ = some y∧W.cell? ⟨b,2,none⟩ = some z) :
  w1.cell? ⟨b,0,none⟩ = some x∧w1.cell? ⟨b,1,none⟩ = some y∧w1.cell? ⟨b,2,none⟩ = some z:=by
 have hl:b < W.heap.size:=World.block_lt_of_cell? W _ h.1
 exact ⟨(hb.cell hl).trans h.1,(hb.cell hl).trans h.2.1,(hb.cell hl).trans h.2.2⟩
theorem keepT {W:World} {b r:Nat} {x y z u v t:Value} (hne:b ≠ r) (h:W.cell? ⟨b,0,none⟩ = some x∧W.cell? ⟨b,1,none⟩ = some y∧W.cell? ⟨b,2,none⟩ = some z) :
  (((W.setCell ⟨r,0,none⟩ u).setCell ⟨r,1,none⟩ v).setCell ⟨r,2,none⟩ t).cell? ⟨b,0,none⟩ = some x∧(((W.setCell ⟨r,0,none⟩ u).setCell ⟨r,1,none⟩ v).setCell ⟨r,2,none⟩ t).cell? ⟨b,1,none⟩ = some y∧(((W.setCell ⟨r,0,none⟩ u).setCell ⟨r,1,none⟩ v).setCell ⟨r,2,none⟩ t).cell? ⟨b,2,none⟩ = some z:=by
 have e:∀ (V:World) (i j:Nat) (q:Value),(V.setCell ⟨r,i,none⟩ q).cell? ⟨b,j,none⟩ = V.cell? ⟨b,j,none⟩:=fun V i j q=>World.cell?_setCell_other V _ _ _ (fun h=>hne (by injection h with h;exact h.symm))
 rw [e,e,e,e,e,e,e,e,e]
 exact h
theorem set3 {W:World} {v:Nat} {t:TypeId} {a b c x y z:Value} (h:W.heap[v]? = some (.cells #[a,b,c] t (0,0))) :
  (((W.setCell ⟨v,0,none⟩ x).setCell ⟨v,1,none⟩ y).setCell ⟨v,2,none⟩ z).heap[v]? = some (.cells #[x,y,z] t (0,0)):=by
 have h1:=heap_setCell_same W v 0 _ _ x h
 have h2:=heap_setCell_same _ v 1 _ _ y h1
 exact heap_setCell_same _ v 2 _ _ z h2
theorem mVal_yes {m:Ar} {k:Nat} (h:(k:Int) < (m.W.length:Int)):mVal m k = m.W.getD k 0:=by
 unfold mVal
 rw [if_pos (mIn_yes (by omega) h),Int.toNat_natCast]
theorem mVal_no {m:Ar} {p:Int} (h:p < 0 ∨ (m.W.length:Int)≤p):mVal m p = 0:=by
 unfold mVal
 rw [mIn_no h]
 rfl
theorem rload_o (A A':Option Addr) (c c':Nat) (m:Ar) (p:Int) (w:World) (hW:Row w A m.W) (hG:Row w A' m.G) (h0:m.W.length≤1000000) (h1:m.G.length≤1000000) (h2:1≤m.G.length) :
  Calls Tryz.prog 29 #[.agg #[.slice A m.W.length c,.slice A' m.G.length c',.bool m.bad],.int .i64 p] w (RetMem2O w A A' (mLoad m p) (.int .i64 (mVal m p))):=by
 go_enter Tryz.func29,Tryz.ntmps29
 go_upto_region 1 with (fail)
 go_cut [6] from 7 (fun t wx=>∃ v:Nat,t = .pointer (some ⟨v,0,none⟩)∧Var ((w.alloc (.cells #[.slice A m.W.length c,.slice A' m.G.length c',.bool m.bad] 26)).alloc (.cells #[.slice none 0 0,.slice none 0 0,.bool false] 26)) v #[.slice A m.W.length c,.slice A' m.G.length c',.bool (mBad m p)] wx)
 case first =>
  go_region_held3 (fun w'=>w'.cell? ⟨w.heap.size,0,none⟩ = some (.slice A m.W.length c)∧w'.cell? ⟨w.heap.size,1,none⟩ = some (.slice A' m.G.length c')∧w'.cell? ⟨w.heap.size,2,none⟩ = some (.bool m.bad)) (first | go_keep | (refine keepS hk ?_;simp [*]) | (refine keepS hk ?_;simp) | (refine keepS (bstep hk (boxed _ _)) ?_;simp) | exact keepT (by omega) (keepS hk (by simp [go_sem])))
   (first
    | (go_at_call 24;refine (bad_any _ _ _ _ m p _ (by first | exact (hG.alloc _).alloc _ | exact ((hG.alloc _).alloc _).alloc _) h0 h1 h2).mono ?_;rintro e wk ⟨rfl,hk⟩;obtain ⟨gc,gf⟩:=bcell hk))
  all_goals go_wp2_with fail
  all_goals go_meet
  ·exact ⟨_,rfl,⟨hk.size,heap_alloc_new _ _,bstep (undrew hk) (boxed _ _)⟩⟩
  ·have hb0:wk.heap[w.heap.size+1+1]? = some (.cells #[.slice none 0 0,.slice none 0 0,.bool false] 26 (0,0)) :=
    (hk.block _ (show w.heap.size+1+1 < (((w.alloc _).alloc _).alloc _).heap.size by simp)).trans (by
     rw [show w.heap.size+1+1 = ((w.alloc (.cells #[.slice A m.W.length c,.slice A' m.G.length c',.bool m.bad] 26)).alloc (.cells #[.slice none 0 0,.slice none 0 0,.bool false] 26)).heap.size by simp]
     exact heap_alloc_new _ _)
   exact ⟨_,rfl,⟨by simp,set3 hb0,keep3 (bstep (boxed _ _) (undrew hk)) (by simp) _ _ _⟩⟩
 case rest =>
  obtain ⟨v,rfl,V⟩:=hcut
  have v0:wc.cell? ⟨v,0,none⟩ = some (.slice A m.W.length c):=cell_of_row wc v 0 _ _ _ V.bx
  have v1:wc.cell? ⟨v,1,none⟩ = some (.slice A' m.G.length c'):=cell_of_row wc v 1 _ _ _ V.bx
  have v2:wc.cell? ⟨v,2,none⟩ = some (.bool (mBad m p)):=cell_of_row wc v 2 _ _ _ V.bx
  obtain ⟨lc,lf⟩:=bcell V.be
  have lv:=V.lv
  have e3:w.heap.size+1 ≠ v:=by simp at lv;omega
  clear lv
  have rW:=((hW.alloc _).alloc _).step V.be
  have rG:=((hG.alloc _).alloc _).step V.be
  have hb:Below w.heap.size w wc:=bstep (bstep (boxed _ _) (boxed _ _)) V.be
  by_cases q1:p < 0
  ·have hv:=hid (mVal_no (m:=m) (.inl q1))
   go_wp2
   refine bodyPost_ret (v:=.tuple #[.agg #[.slice A m.W.length c,.slice A' m.G.length c',.bool (mBad m p)],.int .i64 0]) (by simp [results,Tryz.results29,go_sem,lc]) rfl ?_
   rw [hv.out]
   have hb3:=keep3 hb (r:=w.heap.size+1) (by omega) (.slice A m.W.length c) (.slice A' m.G.length c') (.bool (mBad m p))
   exact RetMem2O.mk rfl rfl rfl (hW.step hb3) (hG.step hb3) hb3 Wh.old Wh.old
  ·have q2:0≤p:=by omega
   clear q1
   by_cases q3:(m.W.length:Int)≤p
   ·have hv:=hid (mVal_no (m:=m) (.inr q3))
    go_wp2
    refine bodyPost_ret (v:=.tuple #[.agg #[.slice A m.W.length c,.slice A' m.G.length c',.bool (mBad m p)],.int .i64 0]) (by simp [results,Tryz.results29,go_sem,lc]) rfl ?_
    rw [hv.out]
    have hb3:=keep3 hb (r:=w.heap.size+1) (by omega) (.slice A m.W.length c) (.slice A' m.G.length c') (.bool (mBad m p))
    exact RetMem2O.mk rfl rfl rfl (hW.step hb3) (hG.step hb3) hb3 Wh.old Wh.old
   ·obtain ⟨k,hk⟩:∃ k:Nat,p = k:=⟨p.toNat,by omega⟩
    have q4:p < (m.W.length:Int):=by omega
    have hkl:k < m.W.length:=by omega
    obtain ⟨b1,o1,x,rfl,hb1,X,hc0⟩:=hW.atX k hkl
    have hc:=rW.cellX k hkl X
    have n1:b1 ≠ w.heap.size+1:=by omega
    have n2:=n1.symm
    clear hc0
    have hv:Hid (mVal m p = x):=by rw [hk,mVal_yes (by omega)];exact X.out
    have ht:p.toNat = k:=by omega
    clear q3
    subst hk
    go_wp2
    go_region
    all_goals go_wp2
    refine bodyPost_ret (v:=.tuple #[.agg #[.slice (some ⟨b1,o1,none⟩) m.W.length c,.slice A' m.G.length c',.bool (mBad m k)],.int .i64 x]) (by simp [results,Tryz.results29,go_sem,lc]) rfl ?_
    rw [hv.out]
    have hb3:=(keep3 hb (r:=w.heap.size+1) (by omega) (.slice (some ⟨b1,o1,none⟩) m.W.length c) (.slice A' m.G.length c') (.bool (mBad m k))).drew
    exact RetMem2O.mk rfl rfl rfl (hW.step hb3) (hG.step hb3) hb3 Wh.old Wh.old
theorem rload_any (A A':Option Addr) (c c':Nat) (m:Ar) (p:Int) (w:World) (hW:Row w A m.W) (hG:Row w A' m.G) (h0:m.W.length≤1000000) (h1:m.G.length≤1000000) (h2:1≤m.G.length) :
  Calls Tryz.prog 29 #[.agg #[.slice A m.W.length c,.slice A' m.G.length c',.bool m.bad],.int .i64 p] w (RetMem2 w (mLoad m p) (.int .i64 (mVal m p))):=(rload_o A A' c c' m p w hW hG h0 h1 h2).mono fun _ _ h=>h.weak
theorem undrew0 {a w:World} (h:Below a.drew.heap.size a.drew w):Below a.heap.size a w:=⟨h.os,h.tape,h.output,h.size,h.block⟩
theorem mStore_no {m:Ar} {p v:Int} (h:mIn m.W p = false):(mStore m p v).W = m.W∧(mStore m p v).G = m.G∧(mStore m p v).bad = true:=by
 unfold mStore
 simp [h,mBad_no h]
theorem mStore_yes {m:Ar} {k:Nat} {v:Int} (h:mIn m.W k = true):(mStore m k v).W = m.W.set k v∧(mStore m k v).G = m.G∧(mStore m k v).bad = mBad m k:=by
 unfold mStore
 simp [h]
theorem rstore_o (A A':Option Addr) (c c':Nat) (m:Ar) (p v:Int) (w:World) (hW:Row w A m.W) (hG:Row w A' m.G) (h0:m.W.length≤1000000) (h1:m.G.length≤1000000) (h2:1≤m.G.length) :
  Calls Tryz.prog 11 #[.agg #[.slice A m.W.length c,.slice A' m.G.length c',.bool m.bad],.int .i64 p,.int .i64 v] w (RetMemO w A A' (mStore m p v)):=by
 by_cases q1:p < 0
 ·have T:=hid (mStore_no (m:=m) (v:=v) (mIn_no (.inl q1)))
  go_enter Tryz.func11,Tryz.ntmps11
  go_wp2
  refine bodyPost_ret (v:=.agg #[.slice A m.W.length c,.slice A' m.G.length c',.bool true]) (by simp [results,Tryz.results11,go_sem]) rfl ?_
  obtain ⟨t1,t2,t3⟩:=T.out
  exact RetMemO.mk (by rw [t1]) (by rw [t2]) t3.symm (by rw [t1];exact (hW.alloc _).alloc _) (by rw [t2];exact (hG.alloc _).alloc _) (bstep (boxed _ _) (boxed _ _)) Wh.old Wh.old
 ·have q2:0≤p:=by omega
  clear q1
  by_cases q3:(m.W.length:Int)≤p
  ·have T:=hid (mStore_no (m:=m) (v:=v) (mIn_no (.inr q3)))
   go_enter Tryz.func11,Tryz.ntmps11
   go_wp2
   refine bodyPost_ret (v:=.agg #[.slice A m.W.length c,.slice A' m.G.length c',.bool true]) (by simp [results,Tryz.results11,go_sem]) rfl ?_
   obtain ⟨t1,t2,t3⟩:=T.out
   exact RetMemO.mk (by rw [t1]) (by rw [t2]) t3.symm (by rw [t1];exact (hW.alloc _).alloc _) (by rw [t2];exact (hG.alloc _).alloc _) (bstep (boxed _ _) (boxed _ _)) Wh.old Wh.old
  ·obtain ⟨k,rfl⟩:∃ k:Nat,p = k:=⟨p.toNat,by omega⟩
   have q4:(k:Int) < (m.W.length:Int):=by omega
   have hkl:k < m.W.length:=by omega
   have T:=hid (mStore_yes (m:=m) (v:=v) (mIn_yes q2 q4))
   clear q3
   go_enter Tryz.func11,Tryz.ntmps11
   go_wp2_with (at_builtin;refine wpList_append_new rfl (.tmp 22) (.tmp 24) _ rfl int_info Tryz.underlying24 (w.heap.size+1+1) rfl ?_ _ m.W c rfl (((hW.alloc _).alloc _).alloc _) (by omega) h0 ?_;(rw [show w.heap.size+1+1 = ((w.alloc (.cells #[.slice A m.W.length c,.slice A' m.G.length c',.bool m.bad] 26)).alloc (.cells #[.slice none 0 0,.slice none 0 0,.bool false] 26)).heap.size by simp];exact heap_alloc_new _ _);intro g cap w2 O2 hg2 hb2;have d1:=O2.cellD k hkl;have d2:=O2.frozen k;obtain ⟨gc,gf⟩:=bcellB hb2;have n1:g ≠ w.heap.size:=(by omega);have n2:g ≠ w.heap.size+1:=(by omega);have n3:=n1.symm;have n4:=n2.symm;have n5:w.heap.size < w.heap.size+1+1:=(by omega);have n6:w.heap.size+1 < w.heap.size+1+1:=(by omega);have n7:=O2.lt;have n8:w.heap.size+1 < w2.heap.size:=(by omega);have n9:w.heap.size < w2.heap.size:=(by omega))
   have hb:Below w.heap.size w w2:=(bstep (bstep (boxed _ _) (boxed _ _)) (boxed _ _)).trans (hb2.mono (by omega))
   have hb':=hb.setCell (p:=⟨g,k,none⟩) (by simp;omega) (.int .i64 v)
   have c0:(w2.setCell ⟨g,k,none⟩ (.int .i64 v)).cell? ⟨w.heap.size,0,none⟩ = some (.slice A m.W.length c):=by simp [go_sem,n1,n3,gc,n5]
   have c1:(w2.setCell ⟨g,k,none⟩ (.int .i64 v)).cell? ⟨w.heap.size,1,none⟩ = some (.slice A' m.G.length c'):=by simp [go_sem,n1,n3,gc,n5]
   have c2:(w2.setCell ⟨g,k,none⟩ (.int .i64 v)).cell? ⟨w.heap.size,2,none⟩ = some (.bool m.bad):=by simp [go_sem,n1,n3,gc,n5]
   have r0:(w2.setCell ⟨g,k,none⟩ (.int .i64 v)).cell? ⟨w.heap.size+1,0,none⟩ = some (.slice none 0 0):=by simp [go_sem,n2,n4,gc,n6]
   have r1:(w2.setCell ⟨g,k,none⟩ (.int .i64 v)).cell? ⟨w.heap.size+1,1,none⟩ = some (.slice none 0 0):=by simp [go_sem,n2,n4,gc,n6]
   have r2:(w2.setCell ⟨g,k,none⟩ (.int .i64 v)).cell? ⟨w.heap.size+1,2,none⟩ = some (.bool false):=by simp [go_sem,n2,n4,gc,n6]
   have f0:∀ o,(w2.setCell ⟨g,k,none⟩ (.int .i64 v)).frozen? ⟨w.heap.size+1,o,none⟩ = false:=by intro o;simp [go_sem,n2,n4,gf,n6]
   have O3:=O2.set k v
   have s1:w.heap.size+1 < (w2.setCell ⟨g,k,none⟩ (.int .i64 v)).heap.size:=by simpa [World.setCell] using n8
   have s0:w.heap.size < (w2.setCell ⟨g,k,none⟩ (.int .i64 v)).heap.size:=by simpa [World.setCell] using n9
   clear d1 d2 gc gf hb2 O2 n5 n6 n7 n8 n9 hb
   generalize w2.setCell ⟨g,k,none⟩ (.int .i64 v) = w3 at *
   go_region_held3 (fun w'=>w'.cell? ⟨w.heap.size,0,none⟩ = some (.slice A m.W.length c)∧w'.cell? ⟨w.heap.size,1,none⟩ = some (.slice A' m.G.length c')∧w'.cell? ⟨w.heap.size,2,none⟩ = some (.bool m.bad)) (first | go_keep | (refine keepS hk ?_;exact ⟨c0,c1,c2⟩) | exact keepT (by omega) (keepS hk ⟨c0,c1,c2⟩))
    (first
     | (go_at_call 24;refine (bad_any _ _ _ _ m k _ (hG.step hb'.drew) h0 h1 h2).mono ?_;rintro e wk ⟨rfl,hk⟩;replace hk:=undrew0 hk;obtain ⟨gc,gf⟩:=bcell hk))
   all_goals go_wp2
   refine bodyPost_ret (v:=.agg #[.slice (some ⟨g,0,none⟩) m.W.length cap,.slice A' m.G.length c',.bool (mBad m k)]) (by simp [results,Tryz.results11,go_sem,gc,s1,r0,r1,r2]) rfl ?_
   obtain ⟨t1,t2,t3⟩:=T.out
   have hb3:=keep3 (bstep hb' hk) (r:=w.heap.size+1) (by omega) (.slice (some ⟨g,0,none⟩) m.W.length cap) (.slice A' m.G.length c') (.bool (mBad m k))
   exact RetMemO.mk (by rw [t1,List.length_set]) (by rw [t2]) t3.symm (by rw [t1];exact ((O3.step hk O3.lt).keep3 n2 _ _ _).row) (by rw [t2];exact hG.step hb3) hb3 (Wh.new (by omega)) Wh.old
theorem mIs_no {m:Ar} {p old:Int} (h:mIn m.W p = false):mIs m p old = false:=by unfold mIs;simp [h]
theorem mIs_yes {m:Ar} {k:Nat} {old:Int} (h:mIn m.W k = true):mIs m k old = (m.W.getD k 0 == old):=by unfold mIs;simp [h]
theorem mCas_no {m:Ar} {p old now:Int} (h:mIs m p old = false):mCas m p old now = mLoad m p:=by unfold mCas mLoad;simp [h]
theorem mCas_yes {m:Ar} {p old now:Int} (h:mIs m p old = true):mCas m p old now = mStore m p now:=by
 have h2:mIn m.W p = true:=by unfold mIs at h;simp at h;exact h.1
 unfold mCas mStore
 simp [h,h2]
theorem Row.far3 {w:World} {A:Option Addr} {xs:List Int} (h:Row w A xs) {r:Nat} {a1 a2:Option Addr} {n1 c1 n2 c2:Nat} {b:Bool} {t:TypeId} (hr:w.heap[r]? = some (.cells #[.slice a1 n1 c1,.slice a2 n2 c2,.bool b] t (0,0))) (x y z:Value) :
  Row (((w.setCell ⟨r,0,none⟩ x).setCell ⟨r,1,none⟩ y).setCell ⟨r,2,none⟩ z) A xs:=fun hn=>by
 obtain ⟨g,o,e,hl,hc⟩:=h hn
 have hne:g ≠ r:=by
  rintro rfl
  have h0:=hc 0 xs[0] (List.getElem?_eq_getElem hn)
  rw [cell_of_row w g _ _ _ _ hr] at h0
  match o,h0 with
  | 0,h0=>simp at h0
  | 1,h0=>simp at h0
  | 2,h0=>simp at h0
  | o+3,h0=>simp at h0
 have e1:∀ (V:World) (i j:Nat) (q:Value),(V.setCell ⟨r,i,none⟩ q).cell? ⟨g,j,none⟩ = V.cell? ⟨g,j,none⟩:=fun V i j q=>World.cell?_setCell_other V _ _ _ (fun h=>hne (by injection h with h;exact h.symm))
 refine ⟨g,o,e,by simpa [World.setCell] using hl,fun j u hu=>?_⟩
 rw [e1,e1,e1]
 exact hc j u hu
theorem rcas_o (A A':Option Addr) (c c':Nat) (m:Ar) (p old now:Int) (w:World) (hW:Row w A m.W) (hG:Row w A' m.G) (h0:m.W.length≤1000000) (h1:m.G.length≤1000000) (h2:1≤m.G.length) :
  Calls Tryz.prog 94 #[.agg #[.slice A m.W.length c,.slice A' m.G.length c',.bool m.bad],.int .i64 p,.int .i64 old,.int .i64 now] w (RetMem2O w A A' (mCas m p old now) (.bool (mIs m p old))):=by
 by_cases q1:p < 0
 ·have T1:=hid (mIs_no (m:=m) (p:=p) (old:=old) (mIn_no (.inl q1)))
  have T2:=hid (mCas_no (now:=now) T1.out)
  go_enter Tryz.func94,Tryz.ntmps94
  go_wp2_with (go_at_call 29;refine (rload_o _ _ _ _ m p _ ((hW.alloc _).alloc _) ((hG.alloc _).alloc _) h0 h1 h2).mono ?_;rintro e wk ⟨B1,B2,d1,d2,rfl,R1,R2,hk,F1,F2⟩;obtain ⟨gc,gf⟩:=bcell hk;have hz:w.heap.size+1 < wk.heap.size:=(by have:=hk.size;simp at this;omega);have hz0:w.heap.size < wk.heap.size:=(by omega))
  refine bodyPost_ret (v:=.tuple #[.agg #[.slice B1 (mLoad m p).W.length d1,.slice B2 (mLoad m p).G.length d2,.bool (mLoad m p).bad],.bool false]) (by simp [results,Tryz.results94,go_sem,gc,hz]) rfl ?_
  rw [T1.out,T2.out]
  have hz1:wk.heap[w.heap.size+1]? = some (.cells #[.slice none 0 0,.slice none 0 0,.bool false] 26):=(hk.block _ (by simp)).trans (heap_alloc2_new w _ _)
  exact RetMem2O.mk rfl rfl rfl ((R1.far3 hz1 _ _ _).alloc _) ((R2.far3 hz1 _ _ _).alloc _) (bstep (keep3 (bstep (bstep (boxed _ _) (boxed _ _)) hk) (by omega) _ _ _) (boxed _ _)) (F1.up (by simp;omega)) (F2.up (by simp;omega))
 ·have q2:0≤p:=by omega
  clear q1
  by_cases q3:(m.W.length:Int)≤p
  ·have T1:=hid (mIs_no (m:=m) (p:=p) (old:=old) (mIn_no (.inr q3)))
   have T2:=hid (mCas_no (now:=now) T1.out)
   go_enter Tryz.func94,Tryz.ntmps94
   go_wp2_with (go_at_call 29;refine (rload_o _ _ _ _ m p _ ((hW.alloc _).alloc _) ((hG.alloc _).alloc _) h0 h1 h2).mono ?_;rintro e wk ⟨B1,B2,d1,d2,rfl,R1,R2,hk,F1,F2⟩;obtain ⟨gc,gf⟩:=bcell hk;have hz:w.heap.size+1 < wk.heap.size:=(by have:=hk.size;simp at this;omega);have hz0:w.heap.size < wk.heap.size:=(by omega))
   refine bodyPost_ret (v:=.tuple #[.agg #[.slice B1 (mLoad m p).W.length d1,.slice B2 (mLoad m p).G.length d2,.bool (mLoad m p).bad],.bool false]) (by simp [results,Tryz.results94,go_sem,gc,hz]) rfl ?_
   rw [T1.out,T2.out]
   have hz1:wk.heap[w.heap.size+1]? = some (.cells #[.slice none 0 0,.slice none 0 0,.bool false] 26):=(hk.block _ (by simp)).trans (heap_alloc2_new w _ _)
   exact RetMem2O.mk rfl rfl rfl ((R1.far3 hz1 _ _ _).alloc _) ((R2.far3 hz1 _ _ _).alloc _) (bstep (keep3 (bstep (bstep (boxed _ _) (boxed _ _)) hk) (by omega) _ _ _) (boxed _ _)) (F1.up (by simp;omega)) (F2.up (by simp;omega))
  ·obtain ⟨k,hkp⟩:∃ k:Nat,p = k:=⟨p.toNat,by omega⟩
   have q4:p < (m.W.length:Int):=by omega
   have hkl:k < m.W.length:=by omega
   have hI:mIs m p old = (m.W.getD k 0 == old):=by rw [hkp];exact mIs_yes (mIn_yes (by omega) (by omega))
   have hV:mVal m p = m.W.getD k 0:=by rw [hkp];exact mVal_yes (by omega)
   rw [← hV] at hI
   clear q3 hV
   obtain ⟨x,hx⟩:∃ x,mVal m p = x:=⟨_,rfl⟩
   rw [hx] at hI
   have HX:=hid hx
   clear hx
   cases t:(x != old)
   ·have T1:=hid (show mIs m p old = true by rw [hI];simpa using t)
    have T2:=hid (mCas_yes (now:=now) T1.out)
    clear hI hkp
    go_enter Tryz.func94,Tryz.ntmps94
    go_wp2_with (first
     | (go_at_call 29;refine (rload_o _ _ _ _ m p _ ((hW.alloc _).alloc _) ((hG.alloc _).alloc _) h0 h1 h2).mono ?_;rintro e wk ⟨B1,B2,d1,d2,rfl,R1,R2,hk,F1,F2⟩;rw [HX.out];obtain ⟨gc,gf⟩:=bcell hk;have hz:w.heap.size+1 < wk.heap.size:=(by have:=hk.size;simp at this;omega);have hz0:w.heap.size < wk.heap.size:=(by omega))
     | (go_at_call 11;refine (rstore_o _ _ _ _ m p now _ (Row.alloc (((hW.alloc _).alloc _).step hk) _) (Row.alloc (((hG.alloc _).alloc _).step hk) _) h0 h1 h2).mono ?_;rintro e wl ⟨C1,C2,e1,e2,rfl,S1,S2,hl,F3,F4⟩;obtain ⟨lc,lf⟩:=bcell hl;have hy:w.heap.size+1 < wl.heap.size:=(by have:=hl.size;simp at this;omega);have hy1:w.heap.size+1 < wk.heap.size+1:=(by omega)))
    refine bodyPost_ret (v:=.tuple #[.agg #[.slice C1 (mStore m p now).W.length e1,.slice C2 (mStore m p now).G.length e2,.bool (mStore m p now).bad],.bool true]) (by simp [results,Tryz.results94,go_sem,gc,lc,hz,hy1]) rfl ?_
    rw [T1.out,T2.out]
    have hz1:wl.heap[w.heap.size+1]? = some (.cells #[.slice none 0 0,.slice none 0 0,.bool false] 26):=(hl.block _ (by simp;omega)).trans ((heap_alloc_old _ _ (by omega)).trans ((hk.block _ (by simp)).trans (heap_alloc2_new w _ _)))
    exact RetMem2O.mk rfl rfl rfl (S1.far3 hz1 _ _ _) (S2.far3 hz1 _ _ _) (keep3 (bstep (bstep (bstep (bstep (boxed _ _) (boxed _ _)) hk) (boxed _ _)) hl) (by omega) _ _ _) (F3.up (by have h9:=hk.size;simp at h9 ⊢;omega)) (F4.up (by have h9:=hk.size;simp at h9 ⊢;omega))
   ·have T1:=hid (show mIs m p old = false by rw [hI];simpa using t)
    have T2:=hid (mCas_no (now:=now) T1.out)
    clear hI hkp
    go_enter Tryz.func94,Tryz.ntmps94
    go_wp2_with (go_at_call 29;refine (rload_o _ _ _ _ m p _ ((hW.alloc _).alloc _) ((hG.alloc _).alloc _) h0 h1 h2).mono ?_;rintro e wk ⟨B1,B2,d1,d2,rfl,R1,R2,hk,F1,F2⟩;rw [HX.out];obtain ⟨gc,gf⟩:=bcell hk;have hz:w.heap.size+1 < wk.heap.size:=(by have:=hk.size;simp at this;omega);have hz0:w.heap.size < wk.heap.size:=(by omega))
    refine bodyPost_ret (v:=.tuple #[.agg #[.slice B1 (mLoad m p).W.length d1,.slice B2 (mLoad m p).G.length d2,.bool (mLoad m p).bad],.bool false]) (by simp [results,Tryz.results94,go_sem,gc,hz]) rfl ?_
    rw [T1.out,T2.out]
    have hz1:wk.heap[w.heap.size+1]? = some (.cells #[.slice none 0 0,.slice none 0 0,.bool false] 26):=(hk.block _ (by simp)).trans (heap_alloc2_new w _ _)
    exact RetMem2O.mk rfl rfl rfl ((R1.far3 hz1 _ _ _).alloc _) ((R2.far3 hz1 _ _ _).alloc _) (bstep (keep3 (bstep (bstep (boxed _ _) (boxed _ _)) hk) (by omega) _ _ _) (boxed _ _)) (F1.up (by simp;omega)) (F2.up (by simp;omega))
theorem rstore_any (A A':Option Addr) (c c':Nat) (m:Ar) (p v:Int) (w:World) (hW:Row w A m.W) (hG:Row w A' m.G) (h0:m.W.length≤1000000) (h1:m.G.length≤1000000) (h2:1≤m.G.length) :
  Calls Tryz.prog 11 #[.agg #[.slice A m.W.length c,.slice A' m.G.length c',.bool m.bad],.int .i64 p,.int .i64 v] w (RetMem w (mStore m p v)):=(rstore_o A A' c c' m p v w hW hG h0 h1 h2).mono fun _ _ h=>h.weak
def casV (x old now:Int):Int:=if x = old then now else x
theorem casV_no {x old now:Int} (h:(x == old) = false):casV x old now = x:=by unfold casV;rw [if_neg (by simpa using h)]
theorem casV_yes {x old now:Int} (h:(x == old) = true):casV x old now = now:=by unfold casV;rw [if_pos (by simpa using h)]
theorem load1 (x y:Int) (g:Nat) (w:World) (hc:w.cell? ⟨g,0,none⟩ = some (.int .i64 y)) (hf:w.frozen? ⟨g,0,none⟩ = false) :
  Calls Tryz.prog 116 #[.int .i64 x,.pointer (some ⟨g,0,none⟩)] w fun e w'=>e = .returned (.int .i64 x)∧w.setCell ⟨g,0,none⟩ (.int .i64 x) = w':=by
 go_enter Tryz.func116,Tryz.ntmps116
 go_wp2
 go_ret
 exact ⟨rfl,rfl⟩
theorem store1 (x y:Int) (g:Nat) (w:World) (hc:w.cell? ⟨g,0,none⟩ = some (.int .i64 y)) :
  Calls Tryz.prog 70 #[.int .i64 x,.pointer (some ⟨g,0,none⟩)] w fun e w'=>e = .returned (.int .i64 y)∧w = w':=by
 go_enter Tryz.func70,Tryz.ntmps70
 go_wp2
 go_ret
 exact ⟨rfl,rfl⟩
theorem cas1 (x old now:Int) (b:Bool) (g1 g2 g3:Nat) (w:World) (h1:w.cell? ⟨g1,0,none⟩ = some (.int .i64 old)) (h2:w.cell? ⟨g2,0,none⟩ = some (.bool b)) (h3:w.cell? ⟨g3,0,none⟩ = some (.int .i64 now))
  (hf:w.frozen? ⟨g2,0,none⟩ = false) (n1:g2 ≠ g1) (n3:g2 ≠ g3) :
  Calls Tryz.prog 125 #[.int .i64 x,.pointer (some ⟨g1,0,none⟩),.pointer (some ⟨g2,0,none⟩),.pointer (some ⟨g3,0,none⟩)] w fun e w'=>e = .returned (.int .i64 (casV x old now))∧w.setCell ⟨g2,0,none⟩ (.bool (x == old)) = w':=by
 cases t:(x == old)
 ·have HC:=hid (casV_no (now:=now) t)
  go_enter Tryz.func125,Tryz.ntmps125
  go_wp2
  go_ret
  exact ⟨ret_int HC.out.symm,rfl⟩
 ·have HC:=hid (casV_yes (now:=now) t)
  go_enter Tryz.func125,Tryz.ntmps125
  go_wp2
  go_ret
  exact ⟨ret_int HC.out.symm,rfl⟩
theorem wset_same {xs:List Int} {k:Nat} (hk:k < xs.length) {x:Int} (h:xs.getD k 0 = x):xs.set k x = xs:=by
 rw [List.getD_eq_getElem?_getD,List.getElem?_eq_getElem hk] at h
 subst h
 simp
theorem mLoad_set {m:Ar} {k:Nat} (hk:k < m.W.length) {x:Int} (h:m.W.getD k 0 = x):(mLoad m k).W = m.W.set k x:=(wset_same hk h).symm
theorem mCas_set {m:Ar} {k:Nat} (hk:k < m.W.length) {x old now:Int} (h:m.W.getD k 0 = x):(mCas m k old now).W = m.W.set k (casV x old now):=by
 unfold mCas
 dsimp only
 rw [mIs_yes (mIn_yes (by omega) (by omega)),h,Int.toNat_natCast]
 cases t:(x == old)
 ·rw [casV_no t,wset_same hk h];rfl
 ·rw [casV_yes t];rfl
theorem Row.drew {w:World} {A:Option Addr} {xs:List Int} (h:Row w A xs):Row w.drew A xs:=h.step ((Below.refl _ _).drew)
def CellIs (s:Nat) (v:Value) (w:World):Prop:=w.cell? ⟨s,0,none⟩ = some v
def RetMemP (B:Nat) (P:World→Prop) (w:World) (m:Ar) (e:Ending) (w':World):Prop :=
 ∃ (A A':Option Addr) (c c':Nat),e = .returned (.agg #[.slice A m.W.length c,.slice A' m.G.length c',.bool m.bad])∧Row w' A m.W∧Row w' A' m.G∧Below B w w'∧P w'∧Wh w none A∧Wh w none A'
theorem RetMemP.mk {B:Nat} {P:World→Prop} {w w':World} {m:Ar} {A A':Option Addr} {c c' n n':Nat} {b:Bool} (h1:n = m.W.length) (h2:n' = m.G.length) (h3:b = m.bad) (r1:Row w' A m.W) (r2:Row w' A' m.G) (hb:Below B w w') (hp:P w') (f1:Wh w none A) (f2:Wh w none A') :
  RetMemP B P w m (.returned (.agg #[.slice A n c,.slice A' n' c',.bool b])) w':=by
 subst h1 h2 h3
 exact ⟨_,_,_,_,rfl,r1,r2,hb,hp,f1,f2⟩
end Go.Proofs.YtfipcdhodojodaaGreat
