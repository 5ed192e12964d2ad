/-
  Contracts over this program: a walk is made (piece.newWalk).
-/
import Derived.Test.YtmmlibehihknbaaKPPc
import Derived.Laws.Tables
import Derived.Deep.OwnRows
namespace Go.Proofs.Ytmmlibehihknbaa.pc
open Go.ChangeShapes Go.WideShapes Go.ChangeAt Go.RowKit
open df (Dfa ends nxt acpt byteAt here Ok right width endsOf DAt DBox Row RowRow iv bv In Owns IntsV)
set_option linter.unusedVariables false
set_option maxRecDepth 10000

theorem fold_get : ∀ (l : List Value) (k : Nat) (Z : Array Value) (i : Nat), ((l.zipIdx k).foldl (fun (acc : Array Value) (p : Value × Nat) => acc.setIfInBounds (0 + p.2) p.1) Z)[i]? = if k ≤ i ∧ i < k + l.length ∧ i < Z.size then l[i - k]? else Z[i]?
  | [], k, Z, i => by
    rw [if_neg (by simp; omega)]
    rfl
  | c :: l, k, Z, i => by
    rw [List.zipIdx_cons, List.foldl_cons, fold_get l (k + 1) _ i, Array.size_setIfInBounds, Nat.zero_add]
    by_cases h1 : k + 1 ≤ i ∧ i < k + 1 + l.length ∧ i < Z.size
    · rw [if_pos h1, if_pos (by simp; omega), show i - k = (i - (k + 1)) + 1 by omega, List.getElem?_cons_succ]
    · rw [if_neg h1, Array.getElem?_setIfInBounds]
      by_cases h2 : k = i
      · subst h2
        by_cases h3 : k < Z.size
        · rw [if_pos rfl, if_pos h3, if_pos (by simp; omega), Nat.sub_self]; rfl
        · rw [if_pos rfl, if_neg h3, if_neg (by simp; omega), Array.getElem?_eq_none (by omega)]
      · rw [if_neg h2]
        by_cases h3 : k ≤ i ∧ i < k + (c :: l).length ∧ i < Z.size
        · exfalso; simp at h3; omega
        · rw [if_neg h3]
def z121 : Array Value := (List.replicate 256 (Value.int .u8 0) ++ [Value.slice none 0 0, .slice none 0 0, .string ByteArray.empty, .slice none 0 0, .slice none 0 0]).toArray
theorem z121_size : z121.size = 261 := by unfold z121; simp
theorem built_fill (parts : List (Nat × Value)) : Try.prog.built 131 parts = Instr.fill (#[(0, 258), (258, 1), (259, 1), (260, 1)][·]?) z121 parts := by kernel_rfl
theorem z121_last : z121[260]? = some (.slice none 0 0) := by kernel_rfl
theorem built137 (cs : Array Value) (hcs : cs.size = 258) (s : ByteArray) (g n : Nat) : Try.prog.built 131 [(0, .agg cs), (1, .string s), (2, .slice (some ⟨g, 0, none⟩) n n)] = some (cs ++ #[.string s, .slice (some ⟨g, 0, none⟩) n n, .slice none 0 0]) := by
  rw [built_fill]
  have hz := z121_size
  obtain ⟨Y, hY⟩ : ∃ Y, Y = cs.zipIdx.foldl (fun (acc : Array Value) (p : Value × Nat) => acc.setIfInBounds (0 + p.2) p.1) z121 := ⟨_, rfl⟩
  have hYg : ∀ i, Y[i]? = if i < 258 then cs[i]? else z121[i]? := fun i => by
    rw [hY, ← Array.foldl_toList, Array.toList_zipIdx, fold_get]
    by_cases h : i < 258
    · rw [if_pos h, if_pos (by simp [hcs]; omega), Nat.sub_zero, Array.getElem?_toList]
    · rw [if_neg h, if_neg (by simp [hcs]; omega)]
  have hYs : Y.size = 261 := by
    have h1 : Y[260]? = some (.slice none 0 0) := by rw [hYg, if_neg (by omega)]; exact z121_last
    have h2 : Y[261]? = none := by rw [hYg, if_neg (by omega), Array.getElem?_eq_none (by omega)]
    have h3 := (Array.getElem?_eq_some_iff.1 h1).1
    have h4 := Array.getElem?_eq_none_iff.1 h2
    omega
  have e1 : Instr.fill (#[(0, 258), (258, 1), (259, 1), (260, 1)][·]?) z121 [(0, .agg cs), (1, .string s), (2, .slice (some ⟨g, 0, none⟩) n n)] = some ((Y.setIfInBounds 258 (.string s)).setIfInBounds 259 (.slice (some ⟨g, 0, none⟩) n n)) := by
    have hY2 : Array.foldl (fun (cs : Array Value) (x : Value × Nat) => cs.setIfInBounds x.snd x.fst) z121 cs.zipIdx 0 258 = Y := by rw [hY]; simp [hcs]
    simp [Instr.fill, Value.cells, hcs, hz, hY2, hYs]
  rw [e1]
  congr 1
  apply Array.ext_getElem?
  intro i
  rw [Array.getElem?_setIfInBounds, Array.getElem?_setIfInBounds, Array.size_setIfInBounds, hYs, hYg]
  by_cases h1 : i < 258
  · rw [if_neg (by omega), if_neg (by omega), if_pos h1, Array.getElem?_append_left (by omega)]
  · rw [Array.getElem?_append_right (by omega), hcs]
    by_cases h2 : i = 258
    · subst h2; rfl
    · by_cases h3 : i = 259
      · subst h3; rfl
      · by_cases h4 : i = 260
        · subst h4
          rw [if_neg (by omega), if_neg (by omega), if_neg h1, z121_last]; rfl
        · rw [if_neg (by omega), if_neg (by omega), if_neg h1, Array.getElem?_eq_none (by omega), Array.getElem?_eq_none (by simp; omega)]
theorem info134 : (Try.prog.info? 134).map (fun i => (i.zero, i.size, i.bytes)) = some (some (.int .u64 0), 1, 8) := by kernel_rfl
theorem ucells_made (n : Nat) : madeCells #[.int .u64 0] n = ucells (List.replicate n 0) := by
  apply Array.toList_inj.1
  rw [toList_madeCells_one]
  simp [ucells]
theorem make129 (n : Nat) (hn : n ≤ 10000000) (W : World) : (Instr.makeSlice 129 (.int .i64 (n : Int)) (.int .i64 (n : Int))).run Try.prog W = .ok (.slice (some ⟨W.heap.size, 0, none⟩) n n) (W.alloc (.cells (ucells (List.replicate n 0)) 134)) := by
  rw [← ucells_made]
  exact run_make_row' (P := Try.prog) 129 134 (.int .u64 0) 8 Try.underlying129 info134 rfl .i64 .i64 n (by omega) (by omega) W
section
variable {o : Oper} {a : Act} {w : World}
theorem x_make119 {x y : Operand} {n : Nat} (h : o.op = .makeSlice 129 x y) (hx : a.eval x = .int .i64 (n : Int)) (hy : a.eval y = .int .i64 (n : Int)) (hn : n ≤ 10000000) : (execOp a.eval o).run Try.prog w = .ok (.value (.slice (some ⟨w.heap.size, 0, none⟩) n n)) (w.alloc (.cells (ucells (List.replicate n 0)) 134)) := by
  unfold execOp; rw [h]; simp only [hx, hy, Sem.run_bind, make129 n hn, Result.andThen_ok, Sem.run_pure]
theorem x_build137 {x y z : Operand} {cs : Array Value} (hcs : cs.size = 258) {s : ByteArray} {g n : Nat} (h : o.op = .build 131 #[(0, x), (1, y), (2, z)]) (hx : a.eval x = .agg cs) (hy : a.eval y = .string s) (hz : a.eval z = .slice (some ⟨g, 0, none⟩) n n) : (execOp a.eval o).run Try.prog w = .ok (.value (.agg (cs ++ #[.string s, .slice (some ⟨g, 0, none⟩) n n, .slice none 0 0]))) w := by
  unfold execOp; rw [h]
  simp only [List.map_toArray, List.map, hx, hy, hz, Sem.run_bind, run_build (P := Try.prog) w 131 #[(0, .agg cs), (1, .string s), (2, .slice (some ⟨g, 0, none⟩) n n)] _ (built137 cs hcs s g n), Result.andThen_ok, Sem.run_pure]
theorem x_box121 {x : Operand} {cs : Array Value} (h : o.op = .box 131 x) (hx : a.eval x = .agg cs) : (execOp a.eval o).run Try.prog w = .ok (.value (.pointer (some ⟨w.heap.size, 0, none⟩))) (w.alloc (.cells cs 131)) := by
  unfold execOp; rw [h]; simp only [hx]; go_simp
theorem x_quo {x : Operand} {b m : Nat} (h : o.op = .binOp .quo 3 x (.const (.int .i64 64)) 3) (hx : a.eval x = .int .i64 (b : Int)) (hm : m = b / 64) (hb : b ≤ 1000000000) : (execOp a.eval o).run Try.prog w = .ok (.value (.int .i64 (m : Int))) w := by
  have e2 : ((b : Int) / 64) = (m : Int) := by omega
  have e3 : (a.eval (.const (.int .i64 64))) = .int .i64 64 := rfl
  have e5 : IntKind.i64.wrap (m : Int) = (m : Int) := by rw [IntKind.wrap_i64]; omega
  clear hm hb
  unfold execOp; rw [h]; simp only [hx, e3]; clear hx e3 h; go_simp
theorem x_add1 {x : Operand} {m : Nat} (h : o.op = .binOp .add 3 x (.const (.int .i64 1)) 3) (hx : a.eval x = .int .i64 (m : Int)) (hb : m ≤ 1000000000) : (execOp a.eval o).run Try.prog w = .ok (.value (.int .i64 ((m + 1 : Nat) : Int))) w := by
  have e3 : (a.eval (.const (.int .i64 1))) = .int .i64 1 := rfl
  have e4 : IntKind.i64.wrap ((m : Int) + 1) = ((m + 1 : Nat) : Int) := by rw [IntKind.wrap_i64]; omega
  unfold execOp; rw [h]; simp only [hx, e3]; go_simp
end
section
variable {ops : Array Oper} {S : World → Prop} {op : Oper} {a : Act} {Q : Exit → Act → World → Prop} {fuel : Nat} {listed : Array Bool} {w w' : World}
/-- the one operation that is ready, where it makes memory -/
theorem make_op (i k : Nat) {v : Value} (hr : Region.ready .any ops listed = [i]) (ho : ops[i]? = some op) (hd : op.dst = some k) (hw : Region.wanted op (yielded ops a.tmps) = true) (hx : (execOp a.eval op).run Try.prog w = .ok (.value v) w') (hS : S w')
    (h : wpAnyH Try.prog .any ops Q S fuel (listed.setIfInBounds i true) (a.put (some k) v) w') : wpAnyH Try.prog .any ops Q S (fuel + 1) listed a w := by
  refine wpAnyH_all hr (by simp) (fun j hj => ?_)
  simp at hj
  subst hj
  unfold wpOp
  simp only [ho, hw, if_true]
  refine .inl ?_
  unfold Oper.wp
  rw [hx]
  simp only [Oper.upon]
  rw [hd]
  exact ⟨hS, h⟩
end
/-- a walk that was just made -/
def NewIs (X : Nat → Prop) (W : World) (d : Dfa) (s : ByteArray) (cs : Array Value) (o : Option Addr) (cap : Nat) (ao : Option Addr) (acap : Nat) : Prop :=
  Calls Try.prog 76 #[.agg cs, .string s] W fun e w' => ∃ g vg, e = .returned (.pointer (some ⟨g, 0, none⟩)) ∧ Wk X w' W.heap.size g vg d s cs o cap ao acap (List.replicate ((s.size + 1) * d.next.length / 64 + 1) 0) (.slice none 0 0) [] ∧ Below W.heap.size W w'
theorem wk_new {X : Nat → Prop} {W w1 w2 : World} {d : Dfa} {s : ByteArray} {cs : Array Value} {o ao : Option Addr} {cap acap n : Nat} (h : DAt X W d cs o cap ao acap) (hX : ∀ k, X k → k < W.heap.size) (c1 : Below W.heap.size W w1) (c2 : Below (w1.alloc (.cells (ucells (List.replicate n 0)) 134)).heap.size (w1.alloc (.cells (ucells (List.replicate n 0)) 134)) w2) :
    Wk X (w2.alloc (.cells (cs ++ #[.string s, .slice (some ⟨w1.heap.size, 0, none⟩) n n, .slice none 0 0]) 131)) W.heap.size w2.heap.size w1.heap.size d s cs o cap ao acap (List.replicate n 0) (.slice none 0 0) [] ∧ Below W.heap.size W (w2.alloc (.cells (cs ++ #[.string s, .slice (some ⟨w1.heap.size, 0, none⟩) n n, .slice none 0 0]) 131)) := by
  have u1 : URow (w1.alloc (.cells (ucells (List.replicate n 0)) 134)) w1.heap.size (List.replicate n 0) := heap_alloc_new w1 _
  have c3 := df.below_alloc w2 (.cells (cs ++ #[.string s, .slice (some ⟨w1.heap.size, 0, none⟩) n n, .slice none 0 0]) 131)
  have c23 := df.chain c2 c3
  have c12 := df.chain (df.below_alloc w1 (.cells (ucells (List.replicate n 0)) 134)) c2
  have c := df.chain c1 (df.chain (df.below_alloc w1 (.cells (ucells (List.replicate n 0)) 134)) c23)
  have l1 := c1.size
  have l2 := c12.size
  have l3 := u1.lt
  have l4 := c2.size
  refine ⟨⟨⟨?_, h.size⟩, h.carry (fun k hk => c.block k (hX k hk)) (fun _ h => h), (c23.block _ l3).trans u1, World.ownsRow_nil _ _ _ _, fun x hx => by rw [List.eq_of_mem_replicate hx]; decide, by omega, by omega, fun k hk => ?_⟩, c⟩
  · rw [List.length_replicate]
    exact heap_alloc_new w2 _
  · have := hX k hk
    exact ⟨by have := c.size; omega, by omega, by omega, by simp [Value.ownBlock]⟩
set_option maxHeartbeats 2000000 in
set_option maxRecDepth 100000 in
theorem new_any {X : Nat → Prop} {W : World} {d : Dfa} {s : ByteArray} {cs : Array Value} {o ao : Option Addr} {cap acap : Nat} (hk : Ok d) (h : DAt X W d cs o cap ao acap) (hX : ∀ k, X k → k < W.heap.size) (hs : s.size ≤ 262144) : NewIs X W d s cs o cap ao acap := by
  unfold NewIs
  have hcs := h.size
  have b0 := df.dbox_new W cs
  have HB0 := (show Hid (Below W.heap.size W (W.alloc (.cells cs 36))) from df.below_alloc W _)
  have c256 := b0.nx h
  have nf := h.rows.fit
  have nt := h.rows.top
  have hN4 := hk.most
  have h1 : (s.size + 1) * d.next.length ≤ 262145 * 400 := Nat.mul_le_mul (by omega) hN4
  have HD := (show Hid (DAt X W d cs o cap ao acap) from h)
  have HX := (show Hid (∀ k, X k → k < W.heap.size) from hX)
  obtain ⟨b, hb⟩ : ∃ b, b = (s.size + 1) * d.next.length := ⟨_, rfl⟩
  have HB := (show Hid (b = (s.size + 1) * d.next.length) from hb)
  have hb8 : b ≤ 1000000000 := by omega
  have hmul : IntKind.i64.wrap (((s.size : Int) + 1) * (d.next.length : Int)) = (b : Int) := by
    rw [hb]
    have e : (((s.size : Int) + 1) * (d.next.length : Int)) = (((s.size + 1) * d.next.length : Nat) : Int) := by rw [Int.natCast_mul]; rfl
    rw [e]
    generalize (s.size + 1) * d.next.length = m at *
    rw [IntKind.wrap_i64]; omega
  have hm3 : b / 64 + 1 ≤ 10000000 := by omega
  clear h hX hk hb h1
  go_enter Try.func76, Try.ntmps76
  go_wp2_with (fail)
  obtain ⟨w1, HW1⟩ : ∃ w1, Hid (w1 = W.alloc (.cells cs 36)) := ⟨_, rfl⟩
  rw [← HW1.out] at b0 HB0 ⊢
  have k0 : Below w1.heap.size w1 w1.drew := Below.drew (Below.refl _ _)
  refine wp_region_held (S := fun W' => Below w1.heap.size w1 W') (by kernel_rfl) ?_
  refine df.take_op (i := 0) 13 rfl rfl (df.yields_load rfl (.tmp 2) rfl W.heap.size rfl cs hcs (fun W' h => b0.later h)) (by kernel_rfl) (by kernel_rfl) (by kernel_rfl) (fun _ _ _ h => h) k0 ?_
  simp only [Act.put, List.setIfInBounds_toArray, List.set_cons_zero, List.set_cons_succ]
  refine df.take_op (i := 1) 14 rfl rfl (df.yields_move rfl (.tmp 1) rfl) (by kernel_rfl) (by kernel_rfl) (by kernel_rfl) (fun _ _ _ h => h) k0 ?_
  simp only [Act.put, List.setIfInBounds_toArray, List.set_cons_zero, List.set_cons_succ]
  refine df.take_op (i := 2) 15 rfl rfl (df.yields_move rfl (.tmp 5) rfl) (by kernel_rfl) (by kernel_rfl) (by kernel_rfl) (fun _ _ _ h => h) k0 ?_
  simp only [Act.put, List.setIfInBounds_toArray, List.set_cons_zero, List.set_cons_succ]
  refine df.take_op (i := 3) 16 rfl rfl (.inl ⟨rfl, fun W' h => x_quo (b := b) (m := b / 64) rfl rfl rfl hb8⟩) (by kernel_rfl) (by kernel_rfl) (by kernel_rfl) (fun _ _ _ h => h) k0 ?_
  simp only [Act.put, List.setIfInBounds_toArray, List.set_cons_zero, List.set_cons_succ]
  refine df.take_op (i := 4) 17 rfl rfl (.inl ⟨rfl, fun W' h => x_add1 (m := b / 64) rfl rfl (by omega)⟩) (by kernel_rfl) (by kernel_rfl) (by kernel_rfl) (fun _ _ _ h => h) k0 ?_
  simp only [Act.put, List.setIfInBounds_toArray, List.set_cons_zero, List.set_cons_succ]
  have k1 := df.chain k0 (df.below_alloc w1.drew (.cells (ucells (List.replicate (b / 64 + 1) 0)) 134))
  refine make_op 5 18 (by kernel_rfl) rfl rfl rfl (x_make119 (n := b / 64 + 1) rfl rfl rfl hm3) k1 ?_
  simp only [Act.put, List.setIfInBounds_toArray, List.set_cons_zero, List.set_cons_succ]
  refine df.take_op (i := 6) 19 rfl rfl (.inl ⟨rfl, fun W' h => x_build137 hcs (s := s) (g := w1.drew.heap.size) (n := b / 64 + 1) rfl rfl rfl rfl⟩) (by kernel_rfl) (by kernel_rfl) (by kernel_rfl) (fun _ _ _ h => h) k1 ?_
  simp only [Act.put, List.setIfInBounds_toArray, List.set_cons_zero, List.set_cons_succ]
  refine make_op 7 20 (by kernel_rfl) rfl rfl rfl (x_box121 rfl rfl) (df.chain k1 (df.below_alloc _ _)) ?_
  simp only [Act.put, List.setIfInBounds_toArray, List.set_cons_zero, List.set_cons_succ]
  refine df.take_op (i := 8) 4 rfl rfl (df.yields_assign rfl (.tmp 20) rfl) (by kernel_rfl) (by kernel_rfl) (by kernel_rfl) (fun _ _ _ h => h) (df.chain k1 (df.below_alloc _ _)) ?_
  simp only [Act.put, List.setIfInBounds_toArray, List.set_cons_zero, List.set_cons_succ]
  refine df.done_op (by kernel_rfl) ?_
  have HF := (show Hid _ from wk_new (s := s) (n := b / 64 + 1) HD.out HX.out (df.chain HB0.out k0) (Below.refl _ _))
  rw [HB.out] at HF
  clear k0 k1 HD HX
  go_wp2_with (fail)
  go_ret
  rw [HB.out]
  exact ⟨_, _, rfl, HF.out.1, HF.out.2⟩
end Go.Proofs.Ytmmlibehihknbaa.pc
