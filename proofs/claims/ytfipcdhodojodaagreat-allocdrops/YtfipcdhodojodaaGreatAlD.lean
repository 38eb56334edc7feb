/- Contract: hazelref07.Done, by the document: a core that alone goes on until it has no frame. -/
import Derived.Test.YtfipcdhodojodaaGreatMAR
import Derived.Test.YtfipcdhodojodaaGreatMAl
import Derived.Test.YtfipcdhodojodaaGreatKAlB
namespace Go.Proofs.YtfipcdhodojodaaGreat
open Go.RowKit
set_option maxRecDepth 100000
set_option maxHeartbeats 8000000
set_option linter.unusedVariables false
set_option linter.unusedSimpArgs false
theorem alcN_succ (s:Sy) (k j:Nat):alcN s k (j+1) = pAlc (alcN s k j) (k:Int):=rfl
theorem rdone_any (A B C L:Option Addr) (a b c d:Nat) (s0:Sy) (k m:Nat) (w0:World) (hm:m < 2000) (hok:∀ j,j≤m→SyFew (alcN s0 k j)∧2≤(alcN s0 k j).M.G.length∧(∀ x ∈ (alcN s0 k j).C,x.F.length≤999998)∧(alcN s0 k j).L.length≤999998)
  (hF:∀ j,j < m→∃ x,(alcN s0 k j).C[k]? = some x∧0 < x.F.length) (hE:∃ x,(alcN s0 k m).C[k]? = some x∧x.F.length = 0) (h:RS w0 s0 A B C L) :
  Calls Tryz.prog 7 #[.agg (uS A B C L a b c d s0),.int .i64 k,.int .i64 0] w0 (RetSys w0 (alcN s0 k m)):=by
 obtain ⟨b1,b2,_⟩:=heap2 w0 (.cells (uS A B C L a b c d s0) 30) (.cells uZ 30)
 have hb:Below w0.heap.size w0 ((w0.alloc (.cells (uS A B C L a b c d s0) 30)).alloc (.cells uZ 30)):=bstep (boxed _ _) (boxed _ _)
 have S1:RS ((w0.alloc (.cells (uS A B C L a b c d s0) 30)).alloc (.cells uZ 30)) s0 A B C L:=h.step hb
 have HOK:=hid hok
 have HF:=hid hF
 have HE:=hid hE
 clear hok hF hE h
 go_enter Tryz.func7,Tryz.ntmps7
 go_upto_region 1 with (fail)
 generalize ((w0.alloc (.cells (uS A B C L a b c d s0) 30)).alloc (.cells uZ 30)) = w1 at *
 have HH:Hol w0 w0.heap.size (alcN s0 k 0) w1:=⟨A,B,C,L,a,b,c,d,b1,S1,hb⟩
 clear b1 S1 hb
 go_wp2_with fail
 go_loopw [7] (fun i wr=>∃ j:Nat,j≤m∧i = .int .i64 j∧Hol w0 w0.heap.size (alcN s0 k j) wr∧wr.heap[(w0.heap.size+1)]? = some (.cells uZ 30 (0,0))) (fun i _=>m - (intOf i).toNat)
 case atStart=>exact ⟨0,Nat.zero_le _,rfl,HH,b2⟩
 case round =>
  clear HH b2
  obtain ⟨j,hj,rfl,⟨A,B,C,L,a,b,c,d,kB,kS,kb⟩,kZ⟩:=hrel
  have lz:w0.heap.size < wr.heap.size:=(Array.getElem?_eq_some_iff.1 kB).1
  have lz1:(w0.heap.size+1) < wr.heap.size:=(Array.getElem?_eq_some_iff.1 kZ).1
  have hx:∃ x,(alcN s0 k j).C[k]? = some x∧(0 < x.F.length ↔ j < m):=by
   rcases Nat.lt_or_ge j m with q | q
   ·obtain ⟨x,h1,h2⟩:=HF.out j q
    exact ⟨x,h1,fun _=>q,fun _=>h2⟩
   ·obtain rfl:j = m:=by omega
    obtain ⟨x,h1,h2⟩:=HE.out
    exact ⟨x,h1,fun h=>by omega,fun h=>by omega⟩
  obtain ⟨x,hx,hxF⟩:=hx
  obtain ⟨ok1,ok2,ok3,ok4⟩:=HOK.out j hj
  obtain ⟨sj,hsj⟩:∃ s,s = alcN s0 k j:=⟨_,rfl⟩
  have HSJ:=hid hsj
  rw [← hsj] at kB kS hx ok1 ok2 ok3 ok4
  clear hsj
  have hkl:k < sj.C.length:=(List.getElem?_eq_some_iff.1 hx).1
  have kl:(k:Int) < (sj.C.length:Int):=by omega
  have k0:(0:Int)≤(k:Int):=by omega
  have j2:(j:Int) < 2000:=by omega
  have HR:=hid kS
  obtain ⟨bC,oC,eC,hbC,hatC⟩:=kS.C (by omega)
  obtain ⟨AFx,ARx,cFx,cRx,hcx,_,_⟩:=(hatC k x hx).cs
  subst eC
  clear hatC
  have x0:wr.cell? ⟨bC,oC+k * 7,none⟩ = some (.slice AFx x.F.length cFx):=hcx 0 _ rfl
  clear hcx
  obtain ⟨fl,hfl⟩:∃ n:Nat,n = x.F.length:=⟨_,rfl⟩
  rw [← hfl] at x0 hxF
  clear hfl
  obtain ⟨p0,p1,p2,p3,p4⟩:=cells5 kB
  have HST:=hid (show ∀ w',RS w' sj A B (some ⟨bC,oC,none⟩) L→Calls Tryz.prog 23 #[.agg (uS A B (some ⟨bC,oC,none⟩) L a b c d sj),.int .i64 k] w' (RetSys w' (pAlc sj k)) from fun w' k1=>r7step_any A B (some ⟨bC,oC,none⟩) L a b c d sj (k:Int) w' ok1 ok2 k1 ok3 ok4)
  clear ok1 ok2 ok3 ok4
  obtain ⟨t9,ht9⟩:∃ t,t = pAlc sj (k:Int):=⟨_,rfl⟩
  rw [← ht9] at HST
  have HT9:=hid ht9
  clear ht9 hx hkl
  by_cases hlt:j < m
  ·have f0:(0:Int) < (fl:Int):=by have:=hxF.2 hlt;omega
   clear hxF
   go_wp2_with (go_at_call 23;(with_reducible refine (HST.out _ HR.out).mono ?_);rintro e w9 ⟨A9,B9,C9,L9,a9,b9,c9,d9,rfl,rW,rG,rC,rL,hk⟩;have K9:=(hk.block w0.heap.size lz).trans kB;have Z9:=(hk.block (w0.heap.size+1) lz1).trans kZ;have kz9:=Nat.lt_of_lt_of_le lz1 hk.size;obtain ⟨y0,y1,y2,y3,y4,yf0,yf1,yf2,yf3,yf4⟩:=cf5 K9)
   go_roundw
   case rel=>exact ⟨j+1,by omega,by go_num,by rw [show alcN s0 k (j+1) = t9 from (alcN_succ s0 k j).trans (by rw [← HSJ.out,← HT9.out])];exact Hol.put (Nat.le_refl _) kB kb hk rW rG rC rL,((turn5 _ _ _ _ _ _ _).block _ kz9 (by omega)).trans Z9⟩
   case measure=>simp [intOf];omega
  ·have f0:¬ (0:Int) < (fl:Int):=by have:=hxF.1;omega
   have EJ:=hid (show j = m by omega)
   clear hxF hlt
   obtain ⟨q0,q1,q2,q3,q4,qf0,qf1,qf2,qf3,qf4⟩:=cf5 kZ
   go_wp2_with fail
   refine bodyPost_ret (v:=.agg (uS A B (some ⟨bC,oC,none⟩) L a b c d sj)) (by simp [uS,results,Tryz.results7,go_sem,q0,q1,q2,q3,q4]) rfl ?_
   rw [← EJ.out,← HSJ.out]
   exact ret_resV (by omega) kZ kb HR.out.W HR.out.G HR.out.C HR.out.L
end Go.Proofs.YtfipcdhodojodaaGreat
