/- Contracts: hazelref07.part, Parts, Own, Start, by the document; alloc.Start where it says no. -/
import Derived.Test.YtfipcdhodojodaaGreatKAlB
import Derived.Deep.RegionHeld3
namespace Go.Proofs.YtfipcdhodojodaaGreat
open Go.RowKit
set_option maxRecDepth 100000
set_option maxHeartbeats 4000000
set_option linter.unusedVariables false
set_option linter.unusedSimpArgs false
theorem rstart_yes (k n:Nat) (w:World) (h1:1≤n) (h2:n≤200) (h3:1≤k) (h4:k≤8):Calls Tryz.prog 6 #[.int .i64 (k:Int),.int .i64 (n:Int)] w (RetSys2 w (syFill k n) (.int .i64 0)):=by
 have hN:=hid (fun w=>rsnew_yes k n w h1 h2 h3 h4)
 have hF:=hid (fun w=>rnew4_any k n w h1 h2 h3 h4)
 obtain ⟨s1,hs1⟩:∃ s,s = syNew k n:=⟨_,rfl⟩
 obtain ⟨s9,hs9⟩:∃ s,s = syFill k n:=⟨_,rfl⟩
 rw [← hs1] at hN
 rw [← hs9] at hF ⊢
 clear hs1 hs9
 have b1:=heap_alloc_new w (.cells uZ 30)
 have hb:Below w.heap.size w (w.alloc (.cells uZ 30)):=boxed _ _
 have z1:w.heap.size < (w.alloc (.cells uZ 30)).heap.size:=by simp
 go_enter Tryz.func6,Tryz.ntmps6
 go_upto_region 1 with (fail)
 generalize (w.alloc (.cells uZ 30)) = w1 at *
 go_upto_region 2 with (go_at_call 21;(with_reducible refine (hN.out _).mono ?_);rintro e w2 ⟨A3,B3,C3,L3,a3,b3,c3,d3,rfl,rW,rG,rC,rL,hk⟩)
 have hj:Below w1.heap.size w1 (w2.alloc (.cells (uS A3 B3 C3 L3 a3 b3 c3 d3 s1) 30)):=bstep hk (boxed _ _)
 have b6:=heap_alloc_new w2 (.cells (uS A3 B3 C3 L3 a3 b3 c3 d3 s1) 30)
 have S3:RS (w2.alloc (.cells (uS A3 B3 C3 L3 a3 b3 c3 d3 s1) 30)) s1 A3 B3 C3 L3:=(RS.mk rW rG rC rL).step (boxed _ _)
 replace b1:=(hj.block _ z1).trans b1
 replace hb:=bstep hb hj
 replace z1:=Nat.lt_of_lt_of_le z1 hj.size
 clear hj hk rW rG rC rL
 obtain ⟨v6,hv⟩:∃ v,w2.heap.size = v:=⟨_,rfl⟩
 rw [hv] at b6 ⊢
 clear hv
 generalize (w2.alloc (.cells (uS A3 B3 C3 L3 a3 b3 c3 d3 s1) 30)) = w3 at *
 clear S3 b6
 go_wp2_with (go_at_call 22;(with_reducible refine (hF.out _).mono ?_);rintro e w5 ⟨A4,B4,C4,L4,a4,b4,c4,d4,rfl,rW,rG,rC,rL,hk⟩;have b1q:=(hk.block _ z1).trans b1;obtain ⟨q0,q1,q2,q3,q4,qf0,qf1,qf2,qf3,qf4⟩:=cf5 b1q)
 replace hb:=bstep hb hk
 refine bodyPost_ret (v:=.tuple #[.agg (uS A4 B4 C4 L4 a4 b4 c4 d4 s9),.int .i64 0]) (by simp [uS,results,Tryz.results6,go_sem,q0,q1,q2,q3,q4]) rfl ?_
 have t5:=turn5 w5 w.heap.size (.slice A4 s9.M.W.length a4) (.slice B4 s9.M.G.length b4) (.bool s9.M.bad) (.slice C4 s9.C.length c4) (.slice L4 s9.L.length d4)
 have S6:=(RS.mk rW rG rC rL).turnN t5 (noInt_sys b1q)
 exact ⟨A4,B4,C4,L4,a4,b4,c4,d4,rfl,S6.W,S6.G,S6.C,S6.L,hb.trans (t5.to_below hb.size (fun g hg=>by omega))⟩
end Go.Proofs.YtfipcdhodojodaaGreat
