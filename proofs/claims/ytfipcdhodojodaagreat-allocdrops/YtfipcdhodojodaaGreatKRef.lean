/- Contracts of the document's answers for layer 2 that later layers ask. -/
import Derived.Test.YtfipcdhodojodaaGreatChecked
import Derived.Test.YtfipcdhodojodaaGreatKBas
import Derived.Deep.QuietTactic
import Derived.BigQuiet
import Derived.RegionTactic
import Derived.ChangeAlike
import Derived.Laws.CopyOwn
import Derived.Deep.AppendLies
import Derived.OwnWalk
namespace Go.Proofs.YtfipcdhodojodaaGreat
open Go.RowKit
set_option maxHeartbeats 1000000
set_option linter.unusedVariables false
set_option linter.unusedSimpArgs false
theorem rints_any (A B:Option Addr) (c d:Nat) (xs ys:List Int) (w:World) (ha:Row w A xs) (hb:Row w B ys) (h0:xs.length≤1000000000) :
  Calls Tryz.prog 17 #[.slice A xs.length c,.slice B ys.length d] w fun e w'=>e = .returned (.bool (mInts xs ys))∧Below w.heap.size w w':=by
 by_cases hl:xs.length = ys.length
 ·have HL:=hid hl
  have hl1:xs.length≤ys.length:=by omega
  have hl2:ys.length≤xs.length:=by omega
  have hl3:((xs.length:Int) != (ys.length:Int)) = false:=by simp [hl]
  clear hl
  go_enter Tryz.func17,Tryz.ntmps17
  go_wp2
  go_loopw [5] (fun i wr=>∃ (k nq:Nat),k≤xs.length∧i = .int .i64 k∧Hid (xs.take k = ys.take k)∧wr = w.drewN nq) (fun i _=>xs.length - (intOf i).toNat)
  case atStart=>exact ⟨0,0,Nat.zero_le _,rfl,hid rfl,rfl⟩
  case round =>
   obtain ⟨k,nq,hk,rfl,HT,rfl⟩:=hrel
   by_cases hlt:k < xs.length
   ·obtain ⟨b1,o1,rfl,hb1,hc⟩:=ha.atE k hlt
    obtain ⟨b2,o2,rfl,hb2,hd⟩:=hb.atE k (by omega)
    go_wp2
    go_quiet (fail)
    go_wp2
    ·go_ret
     have hne:(xs[k] != ys[k]) = true:=by assumption
     exact ⟨ret_bool (mInts_at k hlt (by omega) (by simpa using hne)).symm,bdrewN (bdrewN (Below.refl _ _) _) _⟩
    ·have hne:(xs[k] != ys[k]) = false:=by assumption
     have HT':Hid (xs.take (k+1) = ys.take (k+1)):=take_more k hlt (by omega) (by simpa using hne) HT.out
     clear hne
     go_roundw
     case rel=>exact ⟨k+1,_,by omega,by go_num,HT',rfl⟩
     case measure=>simp [intOf];omega
   ·go_wp2
    go_ret
    obtain rfl:k = xs.length:=by omega
    exact ⟨ret_bool (mInts_all HL.out HT.out).symm,bdrewN (Below.refl _ _) _⟩
 ·have HL:=hid hl
  have hl3:((xs.length:Int) != (ys.length:Int)) = true:=by simp;omega
  clear hl
  go_enter Tryz.func17,Tryz.ntmps17
  go_wp2
  go_ret
  exact ⟨ret_bool (mInts_len HL.out).symm,Below.refl _ _⟩
theorem nodes_any (A A':Option Addr) (n n' c c':Nat) (b:Bool) (w:World) (hn:n'≤1000000000) :
  Calls Tryz.prog 102 #[.agg #[.slice A n c,.slice A' n' c',.bool b]] w fun e w'=>e = .returned (.int .i64 ((n':Int) - 1))∧Below w.heap.size w w':=by
 go_enter Tryz.func102,Tryz.ntmps102
 go_wp2
 go_ret
 exact ⟨rfl,boxed _ _⟩
def RetMem (w:World) (m:Ar) (e:Ending) (w':World):Prop :=
 ∃ (A A':Option Addr) (c c':Nat),e = .returned (.agg #[.slice A m.W.length c,.slice A' m.G.length c',.bool m.bad])∧Row w' A m.W∧Row w' A' m.G∧Below w.heap.size w w'
def RetMem2 (w:World) (m:Ar) (x:Value) (e:Ending) (w':World):Prop :=
 ∃ (A A':Option Addr) (c c':Nat),e = .returned (.tuple #[.agg #[.slice A m.W.length c,.slice A' m.G.length c',.bool m.bad],x])∧Row w' A m.W∧Row w' A' m.G∧Below w.heap.size w w'
theorem RetMem.mk {w w':World} {m:Ar} {A A':Option Addr} {c c' n n':Nat} {b:Bool} (h1:n = m.W.length) (h2:n' = m.G.length) (h3:b = m.bad) (r1:Row w' A m.W) (r2:Row w' A' m.G) (hb:Below w.heap.size w w') :
  RetMem w m (.returned (.agg #[.slice A n c,.slice A' n' c',.bool b])) w':=by
 subst h1 h2 h3
 exact ⟨_,_,_,_,rfl,r1,r2,hb⟩
theorem RetMem2.mk {w w':World} {m:Ar} {x:Value} {A A':Option Addr} {c c' n n':Nat} {b:Bool} (h1:n = m.W.length) (h2:n' = m.G.length) (h3:b = m.bad) (r1:Row w' A m.W) (r2:Row w' A' m.G) (hb:Below w.heap.size w w') :
  RetMem2 w m x (.returned (.tuple #[.agg #[.slice A n c,.slice A' n' c',.bool b],x])) w':=by
 subst h1 h2 h3
 exact ⟨_,_,_,_,rfl,r1,r2,hb⟩
theorem int_info:(Tryz.prog.info? 3).map (fun i=>(i.zero,i.size,i.bytes)) = some (some (.int .i64 0),1,8):=by kernel_rfl
theorem make_ints (n:Nat) (hn:n≤1000000) (w:World) :
  (Instr.makeSlice 24 (.int .i64 (n:Int)) (.int .i64 (n:Int))).run Tryz.prog w = .ok (.slice (some ⟨w.heap.size,0,none⟩) n n) (w.alloc (.cells (madeCells #[.int .i64 0] n) 3)):=by
 obtain ⟨i0,hi0,hz0,hz1,hz2⟩:=info_parts int_info
 have hr:=run_make (P:=Tryz.prog) w 24 3 i0 _ Tryz.underlying24 hi0 hz0 .i64 .i64 n n (by omega) (by omega) (by rw [hz2];omega) (by omega)
 simp only [Int.toNat_natCast,hz1,Nat.mul_one] at hr
 exact hr
theorem made2 (w1:World) (g n k:Nat) (hg:w1.heap.size = g):Blk ((w1.alloc (.cells (madeCells #[.int .i64 0] n) 3)).alloc (.cells (madeCells #[.int .i64 0] k) 3)).drew g (List.replicate n 0) ∧
  Blk ((w1.alloc (.cells (madeCells #[.int .i64 0] n) 3)).alloc (.cells (madeCells #[.int .i64 0] k) 3)).drew (g+1) (List.replicate k 0):=by
 subst hg
 refine ⟨(Blk.made w1 n).alloc _,?_⟩
 have:=Blk.made (w1.alloc (.cells (madeCells #[.int .i64 0] n) 3)) k
 rw [show (w1.alloc (.cells (madeCells #[.int .i64 0] n) 3)).heap.size = w1.heap.size+1 by simp] at this
 exact this
theorem mNew_w (n:Nat):(mNew n).W = List.replicate (128+4 * n) 0:=rfl
theorem mNew_g (n:Nat):(mNew n).G = List.replicate (1+n) 0:=rfl
theorem new_yes (n:Nat) (w:World) (h1:1≤n) (h2:n≤200) :
  Calls Tryz.prog 53 #[.int .i64 (n:Int)] w (RetMem2 w (mNew n) (.int .i64 0)):=by
 have k1:=make_ints (128+4 * n) (by omega)
 have k2:=make_ints (1+n) (by omega)
 have e1:((128+4 * n:Nat):Int) = 128+4 * (n:Int):=by omega
 have e2:((1+n:Nat):Int) = 1+(n:Int):=by omega
 rw [e1] at k1
 rw [e2] at k2
 clear e1 e2
 go_enter Tryz.func53,Tryz.ntmps53
 go_wp2
 go_region
 all_goals go_wp2
 ·refine bodyPost_ret (v:=.tuple #[.agg #[.slice (some ⟨w.heap.size+1,0,none⟩) (128+4 * n) (128+4 * n),.slice (some ⟨w.heap.size+1+1,0,none⟩) (1+n) (1+n),.bool false],.int .i64 0]) (by simp [results,Tryz.results53,go_sem]) rfl ?_
  obtain ⟨q1,q2⟩:=made2 (w.alloc (.cells #[.slice (some ⟨w.heap.size+1,0,none⟩) (128+4 * n) (128+4 * n),.slice (some ⟨w.heap.size+1+1,0,none⟩) (1+n) (1+n),.bool false] 26)) (w.heap.size+1) (128+4 * n) (1+n) (by simp)
  exact RetMem2.mk (by simp [mNew]) (by simp [mNew] <;> omega) rfl (by rw [mNew_w];exact q1.row) (by rw [mNew_g];first | exact q2.row | (rw [Nat.add_comm 1 n];exact q2.row)) ((bstep (bstep (boxed _ _) (boxed _ _)) (boxed _ _)).drew)
 ·refine bodyPost_ret (v:=.tuple #[.agg #[.slice (some ⟨w.heap.size+1+1,0,none⟩) (128+4 * n) (128+4 * n),.slice (some ⟨w.heap.size+1,0,none⟩) (1+n) (1+n),.bool false],.int .i64 0]) (by simp [results,Tryz.results53,go_sem]) rfl ?_
  obtain ⟨q1,q2⟩:=made2 (w.alloc (.cells #[.slice (some ⟨w.heap.size+1+1,0,none⟩) (128+4 * n) (128+4 * n),.slice (some ⟨w.heap.size+1,0,none⟩) (1+n) (1+n),.bool false] 26)) (w.heap.size+1) (1+n) (128+4 * n) (by simp)
  exact RetMem2.mk (by simp [mNew]) (by simp [mNew] <;> omega) rfl (by rw [mNew_w];exact q2.row) (by rw [mNew_g];first | exact q1.row | (rw [Nat.add_comm 1 n];exact q1.row)) ((bstep (bstep (boxed _ _) (boxed _ _)) (boxed _ _)).drew)
theorem rnew_yes (n:Nat) (w:World) (h1:1≤n) (h2:n≤200) :
  Calls Tryz.prog 36 #[.int .i64 (n:Int)] w (RetMem2 w (mNew n) (.int .i64 0)):=by
 have k1:=make_ints (128+4 * n) (by omega)
 have k2:=make_ints (n+1) (by omega)
 have e1:((128+4 * n:Nat):Int) = 128+4 * (n:Int):=by omega
 have e2:((n+1:Nat):Int) = (n:Int)+1:=by omega
 rw [e1] at k1
 rw [e2] at k2
 clear e1 e2
 go_enter Tryz.func36,Tryz.ntmps36
 go_wp2
 go_region
 all_goals go_wp2
 ·refine bodyPost_ret (v:=.tuple #[.agg #[.slice (some ⟨w.heap.size+1,0,none⟩) (128+4 * n) (128+4 * n),.slice (some ⟨w.heap.size+1+1,0,none⟩) (n+1) (n+1),.bool false],.int .i64 0]) (by simp [results,Tryz.results36,go_sem]) rfl ?_
  obtain ⟨q1,q2⟩:=made2 (w.alloc (.cells #[.slice (some ⟨w.heap.size+1,0,none⟩) (128+4 * n) (128+4 * n),.slice (some ⟨w.heap.size+1+1,0,none⟩) (n+1) (n+1),.bool false] 26)) (w.heap.size+1) (128+4 * n) (n+1) (by simp)
  exact RetMem2.mk (by simp [mNew]) (by simp [mNew] <;> omega) rfl (by rw [mNew_w];exact q1.row) (by rw [mNew_g];first | exact q2.row | (rw [Nat.add_comm 1 n];exact q2.row)) ((bstep (bstep (boxed _ _) (boxed _ _)) (boxed _ _)).drew)
 ·refine bodyPost_ret (v:=.tuple #[.agg #[.slice (some ⟨w.heap.size+1+1,0,none⟩) (128+4 * n) (128+4 * n),.slice (some ⟨w.heap.size+1,0,none⟩) (n+1) (n+1),.bool false],.int .i64 0]) (by simp [results,Tryz.results36,go_sem]) rfl ?_
  obtain ⟨q1,q2⟩:=made2 (w.alloc (.cells #[.slice (some ⟨w.heap.size+1+1,0,none⟩) (128+4 * n) (128+4 * n),.slice (some ⟨w.heap.size+1,0,none⟩) (n+1) (n+1),.bool false] 26)) (w.heap.size+1) (n+1) (128+4 * n) (by simp)
  exact RetMem2.mk (by simp [mNew]) (by simp [mNew] <;> omega) rfl (by rw [mNew_w];exact q2.row) (by rw [mNew_g];first | exact q1.row | (rw [Nat.add_comm 1 n];exact q1.row)) ((bstep (bstep (boxed _ _) (boxed _ _)) (boxed _ _)).drew)
theorem rat_any (i k:Int) (w:World) (h0:-4611686018427387904≤4 * i+k) (h1:4 * i+k≤4611686018427387904) (i0:-1000000000000≤i) (i1:i≤1000000000000) :
  Calls Tryz.prog 31 #[.int .i64 i,.int .i64 k] w fun e w'=>e = .returned (.int .i64 (124+4 * i+k))∧w = w':=by
 go_enter Tryz.func31,Tryz.ntmps31
 go_wp2
 go_ret
 exact ⟨ret_int (by omega),rfl⟩
theorem mayTurn_any (a b:Int) (w:World) :
  Calls Tryz.prog 127 #[.int .i64 a,.int .i64 b] w fun e w'=>e = .returned (.bool (mMay a b))∧w = w':=by
 go_enter Tryz.func127,Tryz.ntmps127
 go_wp2
 all_goals
  go_ret
  exact ⟨ret_bool (by simp_all [mMay]),rfl⟩
theorem node_any (A A':Option Addr) (c c':Nat) (m:Ar) (p:Int) (w:World) (h0:m.G.length≤1000000000) (h2:2≤m.G.length) (hp:-9223372036854775808≤p) (hq:p≤9223372036854775807) :
  Calls Tryz.prog 91 #[.agg #[.slice A m.W.length c,.slice A' m.G.length c',.bool m.bad],.int .i64 p] w fun e w'=>e = .returned (.int .i64 (mNode m.G p))∧Below w.heap.size w w':=by
 by_cases q1:p < 128
 ·go_enter Tryz.func91,Tryz.ntmps91
  go_wp2
  go_ret
  exact ⟨ret_int (by unfold mNode;rw [if_neg (by omega)]),boxed _ _⟩
 ·have q2:128≤p:=by omega
  clear q1
  have hm:mNode m.G p = if (1+(p - 128) / 4≤(m.G.length:Int) - 1)∧((p - 128) % 4 == 0) = false then 1+(p - 128) / 4 else 0:=by
   unfold mNode
   simp only [beq_eq_false_iff_ne,ne_eq]
   split <;> split <;> omega
  have HM:=hid hm
  clear hm
  cases t:((p - 128) % 4 == 0)
  all_goals by_cases q3:1+(p - 128) / 4≤(m.G.length:Int) - 1
  all_goals
   go_enter Tryz.func91,Tryz.ntmps91
   go_wp2_with (go_at_call 102;refine (nodes_any _ _ _ _ _ _ _ _ h0).mono ?_;rintro e wk ⟨rfl,hk⟩)
   go_ret
   exact ⟨ret_int (by rw [HM.out];simp [t,q3] <;> omega),bstep (boxed _ _) hk⟩
theorem rnode_any (A A':Option Addr) (c c':Nat) (m:Ar) (p:Int) (w:World) (h0:m.G.length≤1000000000) (h2:1≤m.G.length) :
  Calls Tryz.prog 44 #[.agg #[.slice A m.W.length c,.slice A' m.G.length c',.bool m.bad],.int .i64 p] w fun e w'=>e = .returned (.int .i64 (mNode m.G p))∧Below w.heap.size w w':=by
 have MC:=hid (mNode_cases m.G p)
 go_enter Tryz.func44,Tryz.ntmps44
 go_wp2
 go_loop [5] (fun i=>∃ k:Nat,1≤k∧k≤m.G.length∧i = .int .i64 k∧Hid (mNode m.G p = 0 ∨ (k:Int)≤mNode m.G p)) (fun i=>m.G.length - (intOf i).toNat)
 case atStart =>
  refine ⟨1,Nat.le_refl _,h2,rfl,?_⟩
  have:=MC.out
  show _ ∨ _
  omega
 case round =>
  obtain ⟨k,h1,hk,rfl,HR⟩:=hrel
  by_cases hlt:k < m.G.length
  ·go_wp2
   go_loop [6] (fun i=>∃ j:Nat,1≤j∧j≤4∧i = .int .i64 j∧Hid (mNode m.G p = 0 ∨ (k:Int) < mNode m.G p ∨ (mNode m.G p = k∧(j:Int)≤(p - 128) % 4))) (fun i=>4 - (intOf i).toNat)
   case atStart =>
    refine ⟨1,Nat.le_refl _,by omega,rfl,?_⟩
    have:=MC.out
    have:=HR.out
    show _ ∨ _
    omega
   case round =>
    obtain ⟨j,j1,j4,rfl,HJ⟩:=hrel
    by_cases hj:j < 4
    ·cases t:((124+4 * (k:Int)+j) == p)
     ·go_wp2_with (go_at_call 31;refine (rat_any _ _ _ (by omega) (by omega) (by omega) (by omega)).mono ?_;rintro e w' ⟨rfl,rfl⟩)
      go_round
      case rel =>
       refine ⟨j+1,by omega,by omega,by go_num,?_⟩
       have:=MC.out
       have:=HJ.out
       have t':¬ 124+4 * (k:Int)+j = p:=by simpa using t
       show _ ∨ _
       omega
      case measure=>simp [intOf];omega
     ·go_wp2_with (go_at_call 31;refine (rat_any _ _ _ (by omega) (by omega) (by omega) (by omega)).mono ?_;rintro e w' ⟨rfl,rfl⟩)
      go_ret
      have t':124+4 * (k:Int)+j = p:=by simpa using t
      exact ⟨ret_int (by rw [← t',mNode_is _ _ _ (by omega) (by omega) (by omega) (by omega)]),boxed _ _⟩
    ·go_wp2
     go_round
     case rel =>
      refine ⟨k+1,by omega,by omega,by go_num,?_⟩
      have:=MC.out
      have:=HJ.out
      show _ ∨ _
      omega
     case measure=>simp [intOf];omega
  ·go_wp2
   go_ret
   refine ⟨ret_int ?_,boxed _ _⟩
   have:=MC.out
   have:=HR.out
   omega
structure Only (g:Nat) (w w':World):Prop where
 os:w'.os = w.os
 tape:w'.tape = w.tape
 output:w'.output = w.output
 size:w'.heap.size = w.heap.size
 block:∀ k,k ≠ g→w'.heap[k]? = w.heap[k]?
theorem Only.refl (g:Nat) (w:World):Only g w w:=⟨rfl,rfl,rfl,rfl,fun _ _=>rfl⟩
theorem Only.below {g B:Nat} {a w w':World} (h:Only g w w') (hb:Below B a w) (hB:B≤g):Below B a w' :=
 hb.trans ⟨h.os,h.tape,h.output,Nat.le_of_eq h.size.symm,fun k hk=>h.block k (by omega)⟩
theorem Only.blk {g k:Nat} {w w':World} {xs:List Int} (h:Only g w w') (hk:k ≠ g) (hb:Blk w k xs):Blk w' k xs:=(h.block k hk).trans hb
theorem Only.cells {g:Nat} {w w':World} (h:Only g w w'):(∀ b o,b ≠ g→w'.cell? ⟨b,o,none⟩ = w.cell? ⟨b,o,none⟩)∧(∀ b o,b ≠ g→w'.frozen? ⟨b,o,none⟩ = w.frozen? ⟨b,o,none⟩) :=
 ⟨fun b _ hb=>World.cell?_of_block (h.block b hb),fun b _ hb=>World.frozen?_of_block (h.block b hb)⟩
theorem Only.set {g j:Nat} {w:World} {u:Value}:Only g w (w.setCell ⟨g,j,none⟩ u) :=
 ⟨rfl,rfl,rfl,by simp [World.setCell],fun k hk=>Below.heap_setCell w _ u k hk⟩
theorem wpList_copy_mine {P:Program} {w:World} {ops:Array Oper} {rest:List Oper} {o:Oper} {a:Act} {Q:Exit→Act→World→Prop} (hgd:o.guard = none) (d s:Operand) (dT sT:TypeId)
  (ho:o.op = .call { callee:=.builtin .copy,args:=#[d,s],argTypes:=#[dT,sT] }) (elem:TypeId) (hu:P.underlying dT = some (.slice elem)) (hsz:(P.info? elem).map (·.size) = some 1)
  (g dCap sCap:Nat) (A:Option Addr) (xs zs:List Int) (hd:a.eval d = .slice (some ⟨g,0,none⟩) xs.length dCap) (hs:a.eval s = .slice A xs.length sCap)
  (hg:Blk w g zs) (hz:zs.length = xs.length) (hr:Row w A xs)
  (h:∀ w',Blk w' g xs→Only g w w'→wpList P ops Q rest (a.put o.dst (goInt (xs.length:Int))) w'):wpList P ops Q (o :: rest) a w:=by
 by_cases h0:xs.length = 0
 ·obtain rfl:xs = []:=List.eq_nil_of_length_eq_zero h0
  obtain rfl:zs = []:=List.eq_nil_of_length_eq_zero (by simpa using hz)
  exact wpList_copy_nothing hgd d s dT sT ho elem hu hsz _ _ _ _ _ _ hd hs (by simp) (h w hg (Only.refl _ _))
 ·obtain ⟨b,off,rfl,_,hc⟩:=hr (by omega)
  have hl:(xs.map (Value.int .i64)).length = xs.length:=by simp
  refine wpList_copy_own hgd d s dT sT ho elem hu hsz g 0 xs.length dCap ⟨b,off,none⟩ xs.length sCap hd hs (zs.map (Value.int .i64)).toArray _ hg (xs.map (Value.int .i64)) (by simp) ?_ (by simp;omega) ?_ ?_
  ·intro j v hv
   simp only [List.getElem?_map,Option.map_eq_some_iff] at hv
   obtain ⟨x,hx,rfl⟩:=hv
   rw [Addr.add_lit]
   exact hc j x hx
  ·intro v hv
   simp only [List.mem_map] at hv
   obtain ⟨x,_,rfl⟩:=hv
   rfl
  ·rw [hl]
   refine h _ ?_ ⟨rfl,rfl,rfl,by simp,fun k hk=>setRow_other w g k _ hk⟩
   have e:((zs.map (Value.int .i64)).toArray.toList.take 0++(xs.map (Value.int .i64)++(zs.map (Value.int .i64)).toArray.toList.drop (0+xs.length))) = xs.map (Value.int .i64):=by
    rw [List.take_zero,List.nil_append,List.drop_eq_nil_of_le (by simp;omega),List.append_nil]
   rw [e]
   exact setRow_heap w g _ _ _ _ hg
theorem bcellB {B:Nat} {W w1:World} (hb:Below B W w1):(∀ b o,b < B→w1.cell? ⟨b,o,none⟩ = W.cell? ⟨b,o,none⟩)∧(∀ b o,b < B→w1.frozen? ⟨b,o,none⟩ = W.frozen? ⟨b,o,none⟩) :=
 ⟨fun b o h=>hb.cell (p:=⟨b,o,none⟩) h,fun b o h=>hb.frozen (p:=⟨b,o,none⟩) h⟩
theorem three (x:Int):((x == 0) = true∧(x == 1) = false∧(x == 2) = false) ∨ ((x == 0) = false∧(x == 1) = true∧(x == 2) = false) ∨ ((x == 0) = false∧(x == 1) = false∧(x == 2) = true) ∨ ((x == 0) = false∧(x == 1) = false∧(x == 2) = false):=by
 simp only [beq_iff_eq,beq_eq_false_iff_ne,ne_eq]
 omega
def Own (w:World) (g:Nat) (xs:List Int):Prop :=
 ∃ cur:Array Value,w.heap[g]? = some (.cells cur 3 (0,0))∧∀ (j:Nat) (x:Int),xs[j]? = some x→cur[j]? = some (Value.int .i64 x)
theorem Own.lt {w:World} {g:Nat} {xs:List Int} (h:Own w g xs):g < w.heap.size:=by
 obtain ⟨cur,h,_⟩:=h
 rcases Nat.lt_or_ge g w.heap.size with hl | hl
 ·exact hl
 ·rw [Array.getElem?_eq_none hl] at h;cases h
theorem Own.row {w:World} {g:Nat} {xs:List Int} (h:Own w g xs):Row w (some ⟨g,0,none⟩) xs:=fun _=>by
 have hl:=h.lt
 obtain ⟨cur,hh,hc⟩:=h
 exact ⟨g,0,rfl,hl,fun j x hx=>by rw [Nat.zero_add,cell_of_row w g j _ _ _ hh];exact hc j x hx⟩
theorem Own.cellD {w:World} {g:Nat} {xs:List Int} (h:Own w g xs) (j:Nat) (hj:j < xs.length):w.cell? ⟨g,j,none⟩ = some (.int .i64 (xs.getD j 0)):=by
 obtain ⟨cur,hh,hc⟩:=h
 rw [cell_of_row w g j _ _ _ hh,hc j _ (List.getElem?_eq_getElem hj),List.getD_eq_getElem?_getD,List.getElem?_eq_getElem hj]
 rfl
theorem Own.frozen {w:World} {g:Nat} {xs:List Int} (h:Own w g xs) (j:Nat):w.frozen? ⟨g,j,none⟩ = false:=by
 obtain ⟨cur,hh,_⟩:=h
 exact frozen_of_row w g j _ _ hh
theorem Own.step {w w':World} {g B:Nat} {xs:List Int} (h:Own w g xs) (hb:Below B w w') (hg:g < B):Own w' g xs:=by
 obtain ⟨cur,hh,hc⟩:=h
 exact ⟨cur,(hb.block g hg).trans hh,hc⟩
theorem Own.alloc {w:World} {g:Nat} {xs:List Int} (h:Own w g xs) (o:Obj):Own (w.alloc o) g xs:=h.step (boxed w o) h.lt
theorem Own.far {w:World} {g:Nat} {xs:List Int} (h:Own w g xs) {p:Addr} (hp:g ≠ p.block) (u:Value):Own (w.setCell p u) g xs:=by
 obtain ⟨cur,hh,hc⟩:=h
 exact ⟨cur,(Below.heap_setCell w p u g hp).trans hh,hc⟩
theorem Own.set {w:World} {g:Nat} {xs:List Int} (h:Own w g xs) (k:Nat) (z:Int):Own (w.setCell ⟨g,k,none⟩ (.int .i64 z)) g (xs.set k z):=by
 obtain ⟨cur,hh,hc⟩:=h
 refine ⟨cur.setIfInBounds k (.int .i64 z),?_,fun j x hx=>?_⟩
 ·rw [heap_setCell_same w g k _ _ _ hh]
 ·rw [List.getElem?_set] at hx
  rw [Array.getElem?_setIfInBounds]
  by_cases e:k = j
  ·subst e
   rw [if_pos rfl] at hx ⊢
   by_cases hl:k < xs.length
   ·rw [if_pos hl] at hx
    injection hx with hx
    subst hx
    have hb:k < cur.size:=by
     have:=hc k _ (List.getElem?_eq_getElem hl)
     exact (Array.getElem?_eq_some_iff.1 this).1
    rw [if_pos hb]
   ·rw [if_neg hl] at hx
    cases hx
  ·rw [if_neg e] at hx ⊢
   exact hc j x hx
theorem wpList_append_new {P:Program} {w:World} {ops:Array Oper} {rest:List Oper} {o:Oper} {a:Act} {Q:Exit→Act→World→Prop} (hgd:o.guard = none) (s x:Operand) (t:TypeId)
  (ho:o.op = .call { callee:=.builtin .append,args:=#[s,x],argTypes:=#[t,t] })
  (hinfo:(P.info? 3).map (fun i=>(i.zero,i.size,i.bytes)) = some (some (.int .i64 0),1,8)) (ht:P.underlying t = some (.slice 3))
  (g0:Nat) (hs:a.eval s = .slice (some ⟨g0,0,none⟩) 0 0) (hg0:w.heap[g0]? = some (.cells #[] 3 (0,0)))
  (A:Option Addr) (xs:List Int) (c:Nat) (hx:a.eval x = .slice A xs.length c) (hr:Row w A xs) (hpos:0 < xs.length) (hlen:xs.length≤1000000)
  (h:∀ g cap w',Own w' g xs→g0≤g→Below g0 w w'→wpList P ops Q rest (a.put o.dst (.slice (some ⟨g,0,none⟩) xs.length cap)) w'):wpList P ops Q (o :: rest) a w:=by
 obtain ⟨i0,hi0,hz0,hz1,hz2⟩:=info_parts hinfo
 obtain ⟨b,off,rfl,_,hc⟩:=hr hpos
 have hlt:g0 < w.heap.size:=by
  rcases Nat.lt_or_ge g0 w.heap.size with hl | hl
  ·exact hl
  ·rw [Array.getElem?_eq_none hl] at hg0;cases hg0
 refine wpList_append_lies w hgd s x t ho g0 3 i0 _ 1 8 ht hi0 hz0 hz1 hz2 rfl (by omega) (.slice (some ⟨g0,0,none⟩) 0 0) 0 [] hs ⟨by simp,.inr ⟨g0,0,#[],rfl,Nat.le_refl _,hg0,Nat.le_refl _,by simp [maxLen],rfl,rfl⟩⟩
  ⟨b,off,none⟩ xs.length c (xs.map (Value.int .i64)) hx (by simp) ?_ ?_ hpos (by simp only [maxLen];omega) (by omega) (by omega) w.heap.size rfl ?_
 ·intro j v hv
  simp only [List.getElem?_map,Option.map_eq_some_iff] at hv
  obtain ⟨y,hy,rfl⟩:=hv
  rw [Addr.add_lit]
  exact hc j y hy
 ·intro v hv
  simp only [List.mem_map] at hv
  obtain ⟨y,_,rfl⟩:=hv
  rfl
 ·intro g cap w' hown hgr hor _
  have hg:g0≤g:=by
   rcases hor with e | e
   ·simp [Value.ownBlock] at e;omega
   ·omega
  have key:=h g cap w' ?_ hg ?_
  ·simpa using key
  ·obtain ⟨_,hh⟩:=hown
   rcases hh with ⟨e,_⟩ | ⟨g',cap',cur,e,_,hh,_,_,_,htk⟩
   ·cases e
   ·injection e with e1 e2 e3
    injection e1 with e1
    injection e1 with e1
    subst e1
    refine ⟨cur,hh,fun j y hy=>?_⟩
    have hj:j < xs.length:=(List.getElem?_eq_some_iff.1 hy).1
    have:(cur.toList.take ((0+xs.length) * 1))[j]? = some (Value.int .i64 y):=by
     rw [htk];simp [hy]
    rw [List.getElem?_take_of_lt (by omega)] at this
    simpa using this
  ·exact (Below.refl g0 w).grown hgr (by omega) (fun k hk=>by simp [Value.ownBlock] at hk;omega)
end Go.Proofs.YtfipcdhodojodaaGreat
