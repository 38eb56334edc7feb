/- Contract: the list, walked by the program. -/
import Derived.Test.YtfipcdhodojodaaGreatKStA
import Derived.Test.YtfipcdhodojodaaGreatKCpy
import Derived.Maps.OwnSet
import Derived.Maps.OwnOps
import Derived.WalkMore
namespace Go.Proofs.YtfipcdhodojodaaGreat
open Go.RowKit Go.Maps
set_option maxRecDepth 100000
set_option maxHeartbeats 4000000
set_option linter.unusedVariables false
set_option linter.unusedSimpArgs false
def RetInts (w:World) (l:List Int) (b:Bool) (e:Ending) (w':World):Prop :=
 ∃ (A:Option Addr) (c:Nat),e = .returned (.tuple #[.slice A l.length c,.bool b])∧Row w' A l∧Below w.heap.size w w'
def lenV:Value→Nat
 | .slice _ n _=>n
 | _=>0
def HasOut (D:DataW Unit) (out:List Int):Prop:=Maps.IsMap D∧∀ x,Maps.has D (.int .i64 x) = decide (x ∈ out)
theorem HasOut.nil:HasOut (.map []) []:=⟨⟨_,rfl⟩,fun x=>by simp [Maps.has_eq]⟩
theorem HasOut.put {D:DataW Unit} {out:List Int} (h:HasOut D out) (p:Int) (d:DataW Unit) (hm:Maps.IsMap (D.put (.int .i64 p) d)):HasOut (D.put (.int .i64 p) d) (out++[p]):=by
 refine ⟨hm,fun x=>?_⟩
 by_cases e:x = p
 ·subst e
  rw [Maps.has_put_same (k:=.int .i64 x) h.1 trivial d]
  simp
 ·rw [Maps.has_put_other (fun q=>e (by injection q)),h.2 x]
  simp [e]
theorem own_row1 {w:World} {base n:Nat} {v:Value} {xs:List Int} (h:w.ownsRow base 3 1 v n (xs.map inCells).flatten) (hn:xs.length = n):∃ A c,v = .slice A n c∧Row w A xs:=by
 obtain ⟨A,c,e,r⟩:=own_rowI h hn
 exact ⟨A,c,e,r.row⟩
open Go.RowKit
def RRel (w:World) (A A':Option Addr) (c c':Nat) (m:Ar) (l p:Value) (wr:World):Prop :=
 ∃ (out:List Int) (pp:Int),p = .int .i64 pp∧WalkAt m pp out∧wr.ownsRow (w.heap.size+1) 3 1 l out.length (out.map inCells).flatten∧Below w.heap.size w wr∧wr.heap[w.heap.size]? = some (.cells #[.slice A m.W.length c,.slice A' m.G.length c',.bool m.bad] 26 (0,0))∧w.heap.size+1≤wr.heap.size
theorem rwalk_any (A A':Option Addr) (c c':Nat) (m:Ar) (w:World) (hW:Row w A m.W) (hG:Row w A' m.G) (h0:m.W.length≤1000000) (h1:m.G.length≤1000000) (h2:2≤m.G.length) :
  Calls Tryz.prog 16 #[.agg #[.slice A m.W.length c,.slice A' m.G.length c',.bool m.bad]] w (RetInts w (wList (pWalk m)) (wIs (pWalk m))):=by
 go_enter Tryz.func16,Tryz.ntmps16
 go_upto_region 2 with (fail)
 have b0:(w.alloc (.cells #[.slice A m.W.length c,.slice A' m.G.length c',.bool m.bad] 26)).heap[w.heap.size]? = some (.cells #[.slice A m.W.length c,.slice A' m.G.length c',.bool m.bad] 26 (0,0)):=heap_alloc_new w _
 have hb:Below w.heap.size w (w.alloc (.cells #[.slice A m.W.length c,.slice A' m.G.length c',.bool m.bad] 26)):=boxed _ _
 have hz:w.heap.size < (w.alloc (.cells #[.slice A m.W.length c,.slice A' m.G.length c',.bool m.bad] 26)).heap.size:=by simp
 generalize (w.alloc (.cells #[.slice A m.W.length c,.slice A' m.G.length c',.bool m.bad] 26)) = w1 at *
 obtain ⟨p0,p1,p2⟩:=cells3 b0
 go_upto_region 3 with (go_at_call 29;(with_reducible refine (rload_any _ _ _ _ m 0 _ (hW.step hb) (hG.step hb) h0 h1 (by omega)).mono ?_);rintro e w2 ⟨A5,B5,a5,b5,rfl,_,_,hk⟩)
 go_wp2_with (go_at_call 30;(with_reducible refine (Pk.rindex_any _ _).mono ?_);rintro e w3 ⟨rfl,rfl⟩)
 have hj:Below w1.heap.size w1 (w2.alloc (.cells #[.slice A5 (mLoad m 0).W.length a5,.slice B5 (mLoad m 0).G.length b5,.bool (mLoad m 0).bad] 26)):=bstep hk (boxed _ _)
 clear hk p0 p1 p2
 replace b0:=(hj.block w.heap.size hz).trans b0
 replace hb:=bstep hb hj
 replace hz:=Nat.lt_of_lt_of_le hz hj.size
 clear hj
 generalize w2.alloc (.cells #[.slice A5 (mLoad m 0).W.length a5,.slice B5 (mLoad m 0).G.length b5,.bool (mLoad m 0).bad] 26) = w4 at *
 go_loopw [4,7] (fun l p wr=>RRel w A A' c c' m l p wr) (fun l _ _=>m.G.length - lenV l)
 case atStart=>exact ⟨[],_,rfl,WalkAt.start m,World.ownsRow_nil _ _ _ _,hb,b0,hz⟩
 case round =>
  obtain ⟨out,pp,rfl,WA,ho,lh,lb,lz⟩:=hrel
  clear hb b0 hz
  obtain ⟨A4,c4,rfl,r4⟩:=own_row1 ho rfl
  have hlen:=WA.len (by omega)
  obtain ⟨p0,p1,p2⟩:=cells3 lb
  by_cases q0:pp = 0
  ·subst q0
   have HN:=hid WA.done
   go_wp2_with fail
   go_ret2
   exact ⟨A4,c4,by rw [HN.out];rfl,by rw [HN.out];exact r4,lh⟩
  ·have q0b:(pp != 0) = true:=by simpa using q0
   have q0c:(pp == 0) = false:=by simpa using q0
   have HQ:=hid q0
   clear q0
   by_cases q2:pp < 0
   ·have HN:=hid (WA.no HQ.out (.inl (by omega)))
    go_wp2_with fail
    go_ret2
    exact ⟨none,0,by rw [HN.out];rfl,by rw [HN.out];exact Row.nil _ _,lh⟩
   ·have q3:0≤pp:=by omega
    clear q2
    by_cases q4:(m.G.length:Int)≤pp
    ·have HN:=hid (WA.no HQ.out (.inr (.inl q4)))
     go_wp2_with fail
     go_ret2
     exact ⟨none,0,by rw [HN.out];rfl,by rw [HN.out];exact Row.nil _ _,lh⟩
    ·have q5:pp < (m.G.length:Int):=by omega
     clear q4
     go_upto_region 7 with (fail)
     go_wp2_with fail
     go_loop [8] (fun i=>∃ k:Nat,k≤out.length∧i = .int .i64 k∧Hid (∀ j x,j < k→out[j]? = some x→x ≠ pp)) (fun i=>out.length - (intOf i).toNat)
     case atStart=>exact ⟨0,Nat.zero_le _,rfl,hid (fun j x hj _=>by omega)⟩
     case round =>
      obtain ⟨k,hkk,rfl,HT⟩:=hrel
      by_cases hlt:k < out.length
      ·obtain ⟨x,hx⟩:∃ x,out[k]? = some x:=⟨_,List.getElem?_eq_getElem hlt⟩
       obtain ⟨b6,o6,rfl,hb6,hc6⟩:=r4 (by omega)
       have hc:=hc6 k x hx
       have kl:(k:Int) < (out.length:Int):=by omega
       clear hc6
       cases t:(x == pp)
       ·have HT2:Hid (∀ j x,j < k+1→out[j]? = some x→x ≠ pp):=hid (fun j y hj hy=>by
         by_cases e:j = k
         ·subst e;rw [hx] at hy;injection hy with hy;subst hy;simpa using t
         ·exact HT.out j y (by omega) hy)
        clear hx
        go_wp2_with fail
        go_round
        case rel=>exact ⟨k+1,by omega,by go_num,HT2⟩
        case measure=>simp [intOf];omega
       ·have HN:=hid (WA.no HQ.out (.inr (.inr (by have e:x = pp:=(by simpa using t);rw [← e];exact List.mem_of_getElem? hx))))
        clear hx
        go_wp2_with fail
        go_ret2
        exact ⟨none,0,by rw [HN.out];rfl,by rw [HN.out];exact Row.nil _ _,lh⟩
      ·have q1:pp ∉ out:=fun hm=>by
        obtain ⟨j,hj,e⟩:=List.getElem_of_mem hm
        exact HT.out j pp (by omega) (by rw [List.getElem?_eq_getElem hj,e]) rfl
       have WN:=WA.next (by have h9:pp ≠ 0:=HQ.out;omega) (by omega) q1
       have ne6:∀ q,Value.ownBlock (.slice A4 out.length c4) = some q→w.heap.size+1≤q:=fun q hq=>(ho.lt q hq).1
       have kl:(out.length:Int)≤(k:Int):=by omega
       clear q1 p0 p1 p2
       go_upto_region 13 with (at_builtin;(refine wpList_append_onto rfl _ _ _ rfl (w.heap.size+1) 3 _ 1 8 Tryz.underlying24 infoInt rfl (by omega) _ out.length (out.map inCells).flatten rfl (own_step ho (boxed _ _)) ⟨wr.heap.size,0,none⟩ 1 1 [.int .i64 pp] rfl rfl (World.news_of_block (heap_alloc_new _ _)) (by simp [Value.oneCell']) (by omega) (by omega) (by simp;omega) ?_);intro v8 w8 ho8 hg8 hat8)
       obtain ⟨A8,c8,rfl⟩:=own_val ho8
       have e8:(out.map inCells).flatten++[Value.int .i64 pp] = ((out++[pp]).map inCells).flatten:=by simp [inCells]
       rw [e8] at ho8
       have n8:out.length+1 = (out++[pp]).length:=by simp
       have t8:Turn (fun b=>w.heap.size+1≤b) wr w8:=((Turn.refl _ _).alloc _).grown hg8 (fun q e=>ne6 q e)
       have lb8:=(t8.block w.heap.size (by omega) (by omega)).trans lb
       have lz8:=Nat.le_trans lz t8.size
       have lh8:Below w.heap.size w w8:=lh.trans (t8.to_below lh.size (fun g hg=>by omega))
       have HN8:=hid n8
       clear t8 hg8 hat8 e8 n8 ho lb lz lh r4
       obtain ⟨p0,p1,p2⟩:=cells3 lb8
       have LW:=hid (hW.step lh8)
       have LG:=hid (hG.step lh8)
       have hz9:w.heap.size < w8.heap.size:=by omega
       have KS:=hid (show ∀ w',Turn (fun b=>w8.heap.size≤b) w8 w'→(w'.cell? ⟨w.heap.size,0,none⟩ = some (.slice A m.W.length c)∧w'.cell? ⟨w.heap.size,1,none⟩ = some (.slice A' m.G.length c')∧w'.cell? ⟨w.heap.size,2,none⟩ = some (.bool m.bad)) from fun w' h=>⟨(h.cell hz9 (by omega)).trans p0,(h.cell hz9 (by omega)).trans p1,(h.cell hz9 (by omega)).trans p2⟩)
       go_region_held3 (fun w'=>w'.cell? ⟨w.heap.size,0,none⟩ = some (.slice A m.W.length c)∧w'.cell? ⟨w.heap.size,1,none⟩ = some (.slice A' m.G.length c')∧w'.cell? ⟨w.heap.size,2,none⟩ = some (.bool m.bad)) (exact KS.out _ (by repeat (first | (with_reducible exact Turn.refl _ _) | (with_reducible refine Turn.set ?_ (by first | (simp;done) | (simp;omega) | (have h9:=hk9.size;simp at h9 ⊢;omega)) _ _) | (with_reducible refine Turn.drew ?_) | (with_reducible refine Turn.alloc ?_ _) | (with_reducible refine Turn.below ?_ hk9))))
        (first | (go_at_call 31;(with_reducible refine (rlink_any _ _).mono ?_);rintro e w9 ⟨rfl,rfl⟩) | (go_at_call 29;(with_reducible refine (rload_any A A' c c' m (pLink pp) _ (LW.out.step (by repeat (first | (with_reducible exact Below.refl _ _) | (with_reducible refine Below.drew ?_) | (with_reducible refine bstep ?_ (boxed _ _))))) (LG.out.step (by repeat (first | (with_reducible exact Below.refl _ _) | (with_reducible refine Below.drew ?_) | (with_reducible refine bstep ?_ (boxed _ _))))) h0 h1 (by omega)).mono ?_);rintro e w9 ⟨A6,B6,a6,b6,rfl,_,_,hk9⟩;obtain ⟨gc,gf⟩:=bcell hk9;have hz10:=hk9.size;simp at hz10))
       all_goals go_wp2_with fail
       all_goals
        have key:∀ w',Turn (fun b=>w8.heap.size≤b) w8 w'→RRel w A A' c c' m (.slice A8 (out.length+1) c8) (.int .i64 (mVal m (pLink pp))) w':=fun w' hT=>by
         refine ⟨out++[pp],_,rfl,WN,?_,lh8.trans (hT.to_below lh8.size (fun g hg=>by have:=lh8.size;omega)),(hT.block w.heap.size hz9 (by omega)).trans lb8,Nat.le_trans lz8 hT.size⟩
         rw [← HN8.out];exact own_turn ho8 hT (fun g hg hp=>by have:=(ho8.lt g hg).2;omega)
        try simp only [Act.put,List.setIfInBounds_toArray,List.set_cons_succ,List.set_cons_zero]
        go_roundw
        case rel =>
         first | (refine key _ ?_;exact (by repeat (first | (with_reducible exact Turn.refl _ _) | (with_reducible refine Turn.set ?_ (by first | (simp;done) | (simp;omega) | (have h9:=hk9.size;simp at h9 ⊢;omega)) _ _) | (with_reducible refine Turn.drew ?_) | (with_reducible refine Turn.alloc ?_ _) | (with_reducible refine Turn.below ?_ hk9)))) | ((repeat apply Exists.intro);refine ⟨key _ ?_,rfl⟩;exact (by repeat (first | (with_reducible exact Turn.refl _ _) | (with_reducible refine Turn.set ?_ (by first | (simp;done) | (simp;omega) | (have h9:=hk9.size;simp at h9 ⊢;omega)) _ _) | (with_reducible refine Turn.drew ?_) | (with_reducible refine Turn.alloc ?_ _) | (with_reducible refine Turn.below ?_ hk9))))
        case measure=>simp [lenV];omega
end Go.Proofs.YtfipcdhodojodaaGreat
