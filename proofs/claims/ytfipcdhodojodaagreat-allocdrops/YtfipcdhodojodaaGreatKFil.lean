/- Contracts: an arena that is filled, by the program and by the document. -/
import Derived.Test.YtfipcdhodojodaaGreatKStA
import Derived.Deep.CutBlock
namespace Go.Proofs.YtfipcdhodojodaaGreat
open Go.RowKit
set_option maxRecDepth 100000
set_option maxHeartbeats 4000000
set_option linter.unusedVariables false
set_option linter.unusedSimpArgs false
structure MV (w0:World) (v:Nat) (t:Ar) (wx:World):Prop where
 ex:∃ (A B:Option Addr) (a b:Nat),wx.heap[v]? = some (.cells #[.slice A t.W.length a,.slice B t.G.length b,.bool t.bad] 26 (0,0))∧Row wx A t.W∧Row wx B t.G
 rs:wx.heap[v+1]? = some (.cells #[.slice none 0 0,.slice none 0 0,.bool false] 26 (0,0))
 be:Below w0.heap.size w0 wx
theorem MV.put {w0:World} {v:Nat} {t t2:Ar} {wk:World} {A B A2 B2:Option Addr} {a b a2 b2:Nat} (hk:wk.heap[v]? = some (.cells #[.slice A t.W.length a,.slice B t.G.length b,.bool t.bad] 26 (0,0))) (hr:wk.heap[v+1]? = some (.cells #[.slice none 0 0,.slice none 0 0,.bool false] 26 (0,0)))
  (hb:Below w0.heap.size w0 wk) (hv:w0.heap.size≤v) (r1:Row wk A2 t2.W) (r2:Row wk B2 t2.G) :
  MV w0 v t2 (((wk.setCell ⟨v,0,none⟩ (.slice A2 t2.W.length a2)).setCell ⟨v,1,none⟩ (.slice B2 t2.G.length b2)).setCell ⟨v,2,none⟩ (.bool t2.bad)) :=
 ⟨⟨A2,B2,a2,b2,set3 hk,r1.far3 hk _ _ _,r2.far3 hk _ _ _⟩,by
  rw [heap_setCell_other _ _ _ _ (by simp),heap_setCell_other _ _ _ _ (by simp),heap_setCell_other _ _ _ _ (by simp)]
  exact hr,keep3 hb hv _ _ _⟩
theorem MV.mk0 (w:World) (A B:Option Addr) (a b:Nat) (t:Ar) (h1:Row w A t.W) (h2:Row w B t.G):MV w w.heap.size t ((w.alloc (.cells #[.slice A t.W.length a,.slice B t.G.length b,.bool t.bad] 26)).alloc (.cells #[.slice none 0 0,.slice none 0 0,.bool false] 26)):=by
 refine ⟨⟨A,B,a,b,?_,(h1.alloc _).alloc _,(h2.alloc _).alloc _⟩,heap_alloc2_new w _ _,bstep (boxed _ _) (boxed _ _)⟩
 rw [heap_alloc_old _ _ (by simp)]
 exact heap_alloc_new w _
theorem fill_any (A A':Option Addr) (c c':Nat) (m:Ar) (w:World) (hW:Row w A m.W) (hG:Row w A' m.G) (h0:m.W.length≤1000000) (h1:m.G.length≤1000000) (h2:2≤m.G.length) :
  Calls Tryz.prog 33 #[.agg #[.slice A m.W.length c,.slice A' m.G.length c',.bool m.bad]] w (RetMem w (pFill m)):=by
 have V0:=MV.mk0 w A A' c c' m hW hG
 have hlt:w.heap.size+1 < ((w.alloc (.cells #[.slice A m.W.length c,.slice A' m.G.length c',.bool m.bad] 26)).alloc (.cells #[.slice none 0 0,.slice none 0 0,.bool false] 26)).heap.size:=by simp
 go_enter Tryz.func33,Tryz.ntmps33
 go_upto_region 1 with (fail)
 have b0:((w.alloc (.cells #[.slice A m.W.length c,.slice A' m.G.length c',.bool m.bad] 26)).alloc (.cells #[.slice none 0 0,.slice none 0 0,.bool false] 26)).heap[w.heap.size]? = some (.cells #[.slice A m.W.length c,.slice A' m.G.length c',.bool m.bad] 26 (0,0)):=by rw [heap_alloc_old _ _ (by simp)];exact heap_alloc_new w _
 generalize (w.alloc (.cells #[.slice A m.W.length c,.slice A' m.G.length c',.bool m.bad] 26)).alloc (.cells #[.slice none 0 0,.slice none 0 0,.bool false] 26) = w1 at *
 obtain ⟨p0,p1,p2⟩:=cells3 b0
 go_wp2_with (go_at_call 54;refine (nodes4_any _ _ _ _ m _ (by omega)).mono ?_;rintro e w2 ⟨rfl,hk⟩)
 have V1:MV w w.heap.size m w2:=by
  obtain ⟨⟨A1,B1,a1,b1,k1,r1,r2⟩,k2,k3⟩:=V0
  exact ⟨⟨A1,B1,a1,b1,(hk.block _ (by omega)).trans k1,r1.step hk,r2.step hk⟩,(hk.block _ hlt).trans k2,bstep k3 hk⟩
 clear V0 p0 p1 p2 b0 hk hlt
 go_loopw [4] (fun i wr=>∃ k:Nat,k+2≤m.G.length∧i = .int .i64 ((k:Int)+1)∧MV w w.heap.size (pFillTo m k) wr) (fun i _=>m.G.length - (intOf i).toNat)
 case atStart=>exact ⟨0,h2,by go_num,V1⟩
 case round =>
  obtain ⟨k,hk2,rfl,VV⟩:=hrel
  obtain ⟨⟨A1,B1,a1,b1,k1,r1,r2⟩,k2,k3⟩:=VV
  have hl:=pFillTo_len m k
  have l0:(pFillTo m k).W.length≤1000000:=by omega
  have l1:(pFillTo m k).G.length = m.G.length:=by rw [hl.2]
  have L1:=hid l1
  clear hl l1
  have hz:w.heap.size+1 < wr.heap.size:=(Array.getElem?_eq_some_iff.1 k2).1
  by_cases hlt:k+2 < m.G.length
  ·have HS:=hid (show ∀ (A1 B1:Option Addr) (a1 b1:Nat) (w:World),Row w A1 (pFillTo m k).W→Row w B1 (pFillTo m k).G→Calls Tryz.prog 55 #[.agg #[.slice A1 (pFillTo m k).W.length a1,.slice B1 (pFillTo m k).G.length b1,.bool (pFillTo m k).bad],.int .i64 (pLink ((k:Int)+1)),.int .i64 ((k:Int)+1+1)] w (RetMem w (pFillTo m (k+1))) from fun A1 B1 a1 b1 w h h'=>by have e1:pLink ((k:Int)+1) = 124+4 * ((k:Int)+1):=pLink_in (by omega) (by omega);have:=store_any A1 B1 a1 b1 (pFillTo m k) (pLink ((k:Int)+1)) ((k:Int)+1+1) w h h' l0 (by have:=L1.out;omega) (by have:=L1.out;omega) (pLink_bd _).1 (pLink_bd _).2;rw [e1,show (k:Int)+1+1 = (k:Int)+2 by omega] at this;rw [e1,show (k:Int)+1+1 = (k:Int)+2 by omega];exact this)
   have kl:(k:Int)+1 < (m.G.length:Int) - 1:=by omega
   obtain ⟨tt,htt⟩:∃ tt,pFillTo m k = tt:=⟨_,rfl⟩
   rw [htt] at HS k1 r1 r2
   clear htt l0 L1
   obtain ⟨p0,p1,p2⟩:=cells3 k1
   obtain ⟨pf0,pf1,pf2⟩:=frz3 k1
   go_upto_region 5 with (fail)
   have e1:IntKind.i64.wrap ((k:Int)+1+1) = (k:Int)+1+1:=IntWalk.i64_in _ (by omega)
   go_region_with (first
     | (go_at_call 56;(with_reducible refine (link_any _ _).mono ?_);rintro e w3 ⟨rfl,rfl⟩)
     | (go_at_call 55;(with_reducible refine (HS.out A1 B1 a1 b1 _ (r1.step ((Below.refl _ _).drew)) (r2.step ((Below.refl _ _).drew))).mono ?_);rintro e w4 ⟨A2,B2,a2,b2,rfl,s1,s2,hk4⟩;have hj:Below wr.heap.size wr w4:=bstep ((Below.refl _ _).drew) hk4;have kk:=(hj.block w.heap.size (by omega)).trans k1;have kk2:=(hj.block (w.heap.size+1) hz).trans k2;obtain ⟨y0,y1,y2⟩:=cells3 kk;obtain ⟨yf0,yf1,yf2⟩:=frz3 kk))
   all_goals go_wp2_with fail
   all_goals exact ⟨⟨k+1,by omega,by go_num,MV.put kk kk2 (bstep k3 hj) (Nat.le_refl _) s1 s2⟩,by simp [intOf];omega⟩
  ·have hkk:k = m.G.length - 2:=by omega
   have HK:=hid hkk
   have kl:(m.G.length:Int) - 1≤(k:Int)+1:=by omega
   clear hkk
   have HS:=hid (show ∀ (A1 B1:Option Addr) (a1 b1:Nat) (w:World),Row w A1 (pFillTo m k).W→Row w B1 (pFillTo m k).G→Calls Tryz.prog 55 #[.agg #[.slice A1 (pFillTo m k).W.length a1,.slice B1 (pFillTo m k).G.length b1,.bool (pFillTo m k).bad],.int .i64 (pLink ((m.G.length:Int) - 1)),.int .i64 0] w (RetMem w (mStore (pFillTo m k) (124+4 * ((m.G.length:Int) - 1)) 0)) from fun A1 B1 a1 b1 w h h'=>by have e1:pLink ((m.G.length:Int) - 1) = 124+4 * ((m.G.length:Int) - 1):=pLink_in (by omega) (by omega);have:=store_any A1 B1 a1 b1 (pFillTo m k) (pLink ((m.G.length:Int) - 1)) 0 w h h' l0 (by have:=L1.out;omega) (by have:=L1.out;omega) (pLink_bd _).1 (pLink_bd _).2;rw [e1] at this;rw [e1];exact this)
   have hl2:=mStore_len (pFillTo m k) (124+4 * ((m.G.length:Int) - 1)) 0
   have HS2:=hid (show ∀ (A1 B1:Option Addr) (a1 b1:Nat) (w:World),Row w A1 (mStore (pFillTo m k) (124+4 * ((m.G.length:Int) - 1)) 0).W→Row w B1 (mStore (pFillTo m k) (124+4 * ((m.G.length:Int) - 1)) 0).G→Calls Tryz.prog 55 #[.agg #[.slice A1 (mStore (pFillTo m k) (124+4 * ((m.G.length:Int) - 1)) 0).W.length a1,.slice B1 (mStore (pFillTo m k) (124+4 * ((m.G.length:Int) - 1)) 0).G.length b1,.bool (mStore (pFillTo m k) (124+4 * ((m.G.length:Int) - 1)) 0).bad],.int .i64 0,.int .i64 2] w (RetMem w (pFill m)) from fun A1 B1 a1 b1 w h h'=>by have:=store_any A1 B1 a1 b1 (mStore (pFillTo m k) (124+4 * ((m.G.length:Int) - 1)) 0) 0 2 w h h' (by rw [hl2.1];exact l0) (by rw [hl2.2,L1.out];exact h1) (by rw [hl2.2,L1.out];exact h2) (by omega) (by omega);rw [HK.out] at this;rw [HK.out];exact this)
   obtain ⟨t2,ht2⟩:∃ t2,mStore (pFillTo m k) (124+4 * ((m.G.length:Int) - 1)) 0 = t2:=⟨_,rfl⟩
   rw [ht2] at HS HS2
   clear ht2 hl2
   obtain ⟨tt,htt⟩:∃ tt,pFillTo m k = tt:=⟨_,rfl⟩
   rw [htt] at HS k1 r1 r2
   clear htt l0 L1
   obtain ⟨p0,p1,p2⟩:=cells3 k1
   obtain ⟨pf0,pf1,pf2⟩:=frz3 k1
   go_upto_region 6 with (fail)
   go_region_with (first
     | (go_at_call 56;(with_reducible refine (link_any _ _).mono ?_);rintro e w3 ⟨rfl,rfl⟩)
     | (go_at_call 55;(with_reducible refine (HS.out A1 B1 a1 b1 _ (r1.step ((Below.refl _ _).drew)) (r2.step ((Below.refl _ _).drew))).mono ?_);rintro e w4 ⟨A2,B2,a2,b2,rfl,s1,s2,hk4⟩;have hj:Below wr.heap.size wr w4:=bstep ((Below.refl _ _).drew) hk4;have kk:=(hj.block w.heap.size (by omega)).trans k1;have kk2:=(hj.block (w.heap.size+1) hz).trans k2;obtain ⟨y0,y1,y2⟩:=cells3 kk;obtain ⟨yf0,yf1,yf2⟩:=frz3 kk))
   all_goals
    have VV:=MV.put (t2:=t2) (a2:=a2) (b2:=b2) kk kk2 (bstep k3 hj) (Nat.le_refl _) s1 s2
    clear y0 yf0 y1 yf1 y2 yf2 kk kk2 hj s1 s2 p0 pf0 p1 pf1 p2 pf2
    go_upto_region 7 with (fail)
    generalize ((w4.setCell ⟨w.heap.size,0,none⟩ (.slice A2 t2.W.length a2)).setCell ⟨w.heap.size,1,none⟩ (.slice B2 t2.G.length b2)).setCell ⟨w.heap.size,2,none⟩ (.bool t2.bad) = w5 at *
    obtain ⟨⟨A3,B3,a3,b3,q1,q2,q3⟩,q4,q5⟩:=VV
    obtain ⟨p0,p1,p2⟩:=cells3 q1
    have hz5:w.heap.size+1 < w5.heap.size:=(Array.getElem?_eq_some_iff.1 q4).1
    have hz6:w.heap.size < w5.heap.size:=by omega
    go_wp2_with (first | (go_at_call 57;(with_reducible refine (Pk.of_yes 0 1 0 _ rfl).mono ?_);rintro e w6 ⟨rfl,rfl⟩;rw [show pWord 0 1 0 = 2 from rfl]) | (go_at_call 55;(with_reducible refine (HS2.out A3 B3 a3 b3 _ q2 q3).mono ?_);rintro e w7 ⟨A4,B4,a4,b4,rfl,s3,s4,hk7⟩;have kk3:=(hk7.block (w.heap.size+1) hz5).trans q4;obtain ⟨z0,z1,z2⟩:=cells3 kk3;obtain ⟨zf0,zf1,zf2⟩:=frz3 kk3))
    refine bodyPost_ret (v:=.agg #[.slice A4 (pFill m).W.length a4,.slice B4 (pFill m).G.length b4,.bool (pFill m).bad]) (by simp [results,Tryz.results33,go_sem,z0,z1,z2]) rfl ?_
    exact RetMem.mk rfl rfl rfl (s3.far3 kk3 _ _ _) (s4.far3 kk3 _ _ _) (keep3 (bstep q5 hk7) (by omega) _ _ _)
def rF (m:Ar) (k:Nat):Ar:=if k+1 < m.G.length then pFillTo m k else mStore (pFillTo m (m.G.length - 2)) (124+4 * ((m.G.length:Int) - 1)) 0
theorem rF_len (m:Ar) (k:Nat):(rF m k).W.length = m.W.length∧(rF m k).G = m.G:=by
 unfold rF
 split
 ·exact pFillTo_len m k
 ·have h:=pFillTo_len m (m.G.length - 2)
  have h2:=mStore_len (pFillTo m (m.G.length - 2)) (124+4 * ((m.G.length:Int) - 1)) 0
  exact ⟨h2.1.trans h.1,h2.2.trans h.2⟩
theorem rF_next {m:Ar} {k:Nat} (h1:m.G.length≤1000000) (h:k+2 < m.G.length):mStore (rF m k) (pLink ((k:Int)+1)) ((k:Int)+1+1) = rF m (k+1):=by
 unfold rF
 rw [if_pos (by omega),if_pos (by omega),pFillTo,pLink_in (by omega) (by omega),show (k:Int)+1+1 = (k:Int)+2 by omega]
theorem rF_last {m:Ar} {k:Nat} (h1:m.G.length≤1000000) (h:k+2 = m.G.length):mStore (rF m k) (pLink ((k:Int)+1)) 0 = rF m (k+1):=by
 unfold rF
 rw [if_pos (by omega),if_neg (by omega),pLink_in (by omega) (by omega),show m.G.length - 2 = k by omega,show ((m.G.length:Int) - 1) = (k:Int)+1 by omega]
theorem rF_end {m:Ar} {k:Nat} (h:k+1 = m.G.length):mStore (rF m k) 0 2 = pFill m:=by
 unfold rF pFill
 rw [if_neg (by omega)]
theorem rfill_any (A A':Option Addr) (c c':Nat) (m:Ar) (w:World) (hW:Row w A m.W) (hG:Row w A' m.G) (h0:m.W.length≤1000000) (h1:m.G.length≤1000000) (h2:2≤m.G.length) :
  Calls Tryz.prog 38 #[.agg #[.slice A m.W.length c,.slice A' m.G.length c',.bool m.bad]] w (RetMem w (pFill m)):=by
 have V0:=MV.mk0 w A A' c c' m hW hG
 have hlt:w.heap.size+1 < ((w.alloc (.cells #[.slice A m.W.length c,.slice A' m.G.length c',.bool m.bad] 26)).alloc (.cells #[.slice none 0 0,.slice none 0 0,.bool false] 26)).heap.size:=by simp
 go_enter Tryz.func38,Tryz.ntmps38
 go_upto_region 1 with (fail)
 have b0:((w.alloc (.cells #[.slice A m.W.length c,.slice A' m.G.length c',.bool m.bad] 26)).alloc (.cells #[.slice none 0 0,.slice none 0 0,.bool false] 26)).heap[w.heap.size]? = some (.cells #[.slice A m.W.length c,.slice A' m.G.length c',.bool m.bad] 26 (0,0)):=by rw [heap_alloc_old _ _ (by simp)];exact heap_alloc_new w _
 generalize (w.alloc (.cells #[.slice A m.W.length c,.slice A' m.G.length c',.bool m.bad] 26)).alloc (.cells #[.slice none 0 0,.slice none 0 0,.bool false] 26) = w1 at *
 obtain ⟨p0,p1,p2⟩:=cells3 b0
 have V1:MV w w.heap.size (rF m 0) w1:=by unfold rF;rw [if_pos (by omega)];exact V0
 go_wp2_with fail
 clear V0 p0 p1 p2 b0 hlt
 go_loopw [4] (fun i wr=>∃ k:Nat,k+1≤m.G.length∧i = .int .i64 ((k:Int)+1)∧MV w w.heap.size (rF m k) wr) (fun i _=>m.G.length+1 - (intOf i).toNat)
 case atStart=>exact ⟨0,by omega,by go_num,V1⟩
 case round =>
  obtain ⟨k,hk2,rfl,VV⟩:=hrel
  obtain ⟨⟨A1,B1,a1,b1,k1,r1,r2⟩,k2,k3⟩:=VV
  have hl:=rF_len m k
  have l0:(rF m k).W.length≤1000000:=by omega
  have l1:(rF m k).G.length = m.G.length:=by rw [hl.2]
  have L1:=hid l1
  clear hl l1
  have hz:w.heap.size+1 < wr.heap.size:=(Array.getElem?_eq_some_iff.1 k2).1
  rcases (by omega:k+2 < m.G.length ∨ k+2 = m.G.length ∨ k+1 = m.G.length) with hlt | hlt | hlt
  ·have kl:(k:Int)+1≤(m.G.length:Int) - 1:=by omega
   have kn:((k:Int)+1 == (m.G.length:Int) - 1) = false:=by rw [beq_eq_false_iff_ne];omega
   have HS:=hid (show ∀ (A1 B1:Option Addr) (a1 b1:Nat) (w:World),Row w A1 (rF m k).W→Row w B1 (rF m k).G→Calls Tryz.prog 11 #[.agg #[.slice A1 (rF m k).W.length a1,.slice B1 (rF m k).G.length b1,.bool (rF m k).bad],.int .i64 (pLink ((k:Int)+1)),.int .i64 ((k:Int)+1+1)] w (RetMem w (rF m (k+1))) from fun A1 B1 a1 b1 w h h'=>by have:=rstore_any A1 B1 a1 b1 (rF m k) (pLink ((k:Int)+1)) ((k:Int)+1+1) w h h' l0 (by have:=L1.out;omega) (by have:=L1.out;omega);rw [rF_next h1 hlt] at this;exact this)
   obtain ⟨tt,htt⟩:∃ tt,rF m k = tt:=⟨_,rfl⟩
   rw [htt] at HS k1 r1 r2
   clear htt l0 L1
   obtain ⟨p0,p1,p2⟩:=cells3 k1
   obtain ⟨pf0,pf1,pf2⟩:=frz3 k1
   go_upto_region 8 with (fail)
   go_region_with (first
     | (go_at_call 31;(with_reducible refine (rlink_any _ _).mono ?_);rintro e w3 ⟨rfl,rfl⟩)
     | (go_at_call 11;(with_reducible refine (HS.out A1 B1 a1 b1 _ (r1.step ((Below.refl _ _).drew)) (r2.step ((Below.refl _ _).drew))).mono ?_);rintro e w4 ⟨A2,B2,a2,b2,rfl,s1,s2,hk4⟩;have hj:Below wr.heap.size wr w4:=bstep ((Below.refl _ _).drew) hk4;have kk:=(hj.block w.heap.size (by omega)).trans k1;have kk2:=(hj.block (w.heap.size+1) hz).trans k2;obtain ⟨y0,y1,y2⟩:=cells3 kk;obtain ⟨yf0,yf1,yf2⟩:=frz3 kk))
   all_goals go_wp2_with fail
   all_goals exact ⟨⟨k+1,by omega,by go_num,MV.put kk kk2 (bstep k3 hj) (Nat.le_refl _) s1 s2⟩,by simp [intOf];omega⟩
  ·have kl:(k:Int)+1≤(m.G.length:Int) - 1:=by omega
   have kn:((k:Int)+1 == (m.G.length:Int) - 1) = true:=by rw [beq_iff_eq];omega
   have HL:=hid hlt
   clear hlt
   have HS:=hid (show ∀ (A1 B1:Option Addr) (a1 b1:Nat) (w:World),Row w A1 (rF m k).W→Row w B1 (rF m k).G→Calls Tryz.prog 11 #[.agg #[.slice A1 (rF m k).W.length a1,.slice B1 (rF m k).G.length b1,.bool (rF m k).bad],.int .i64 (pLink ((k:Int)+1)),.int .i64 0] w (RetMem w (rF m (k+1))) from fun A1 B1 a1 b1 w h h'=>by have:=rstore_any A1 B1 a1 b1 (rF m k) (pLink ((k:Int)+1)) 0 w h h' l0 (by have:=L1.out;omega) (by have:=L1.out;omega);rw [rF_last h1 HL.out] at this;exact this)
   obtain ⟨tt,htt⟩:∃ tt,rF m k = tt:=⟨_,rfl⟩
   rw [htt] at HS k1 r1 r2
   clear htt l0 L1
   obtain ⟨p0,p1,p2⟩:=cells3 k1
   obtain ⟨pf0,pf1,pf2⟩:=frz3 k1
   go_upto_region 8 with (fail)
   go_region_with (first
     | (go_at_call 31;(with_reducible refine (rlink_any _ _).mono ?_);rintro e w3 ⟨rfl,rfl⟩)
     | (go_at_call 11;(with_reducible refine (HS.out A1 B1 a1 b1 _ (r1.step ((Below.refl _ _).drew)) (r2.step ((Below.refl _ _).drew))).mono ?_);rintro e w4 ⟨A2,B2,a2,b2,rfl,s1,s2,hk4⟩;have hj:Below wr.heap.size wr w4:=bstep ((Below.refl _ _).drew) hk4;have kk:=(hj.block w.heap.size (by omega)).trans k1;have kk2:=(hj.block (w.heap.size+1) hz).trans k2;obtain ⟨y0,y1,y2⟩:=cells3 kk;obtain ⟨yf0,yf1,yf2⟩:=frz3 kk))
   all_goals go_wp2_with fail
   all_goals exact ⟨⟨k+1,by omega,by go_num,MV.put kk kk2 (bstep k3 hj) (Nat.le_refl _) s1 s2⟩,by simp [intOf];omega⟩
  ·have kl:(m.G.length:Int) - 1 < (k:Int)+1:=by omega
   have HL:=hid hlt
   clear hlt
   have HS:=hid (show ∀ (A1 B1:Option Addr) (a1 b1:Nat) (w:World),Row w A1 (rF m k).W→Row w B1 (rF m k).G→Calls Tryz.prog 11 #[.agg #[.slice A1 (rF m k).W.length a1,.slice B1 (rF m k).G.length b1,.bool (rF m k).bad],.int .i64 0,.int .i64 2] w (RetMem w (pFill m)) from fun A1 B1 a1 b1 w h h'=>by have:=rstore_any A1 B1 a1 b1 (rF m k) 0 2 w h h' l0 (by have:=L1.out;omega) (by have:=L1.out;omega);rw [rF_end HL.out] at this;exact this)
   obtain ⟨tt,htt⟩:∃ tt,rF m k = tt:=⟨_,rfl⟩
   rw [htt] at HS k1 r1 r2
   clear htt l0 L1
   obtain ⟨p0,p1,p2⟩:=cells3 k1
   obtain ⟨pf0,pf1,pf2⟩:=frz3 k1
   go_wp2_with (go_at_call 11;(with_reducible refine (HS.out A1 B1 a1 b1 _ r1 r2).mono ?_);rintro e w7 ⟨A4,B4,a4,b4,rfl,s3,s4,hk7⟩;have kk3:=(hk7.block (w.heap.size+1) hz).trans k2;obtain ⟨z0,z1,z2⟩:=cells3 kk3;obtain ⟨zf0,zf1,zf2⟩:=frz3 kk3)
   refine bodyPost_ret (v:=.agg #[.slice A4 (pFill m).W.length a4,.slice B4 (pFill m).G.length b4,.bool (pFill m).bad]) (by simp [results,Tryz.results38,go_sem,z0,z1,z2]) rfl ?_
   exact RetMem.mk rfl rfl rfl (s3.far3 kk3 _ _ _) (s4.far3 kk3 _ _ _) (keep3 (bstep k3 hk7) (by omega) _ _ _)
end Go.Proofs.YtfipcdhodojodaaGreat
