/-
  Over this program: rows of ints that a call has made; whether bytes are parted; the arrays of 256 bytes, compared and stored.
-/
import Derived.Test.YtfpihoghpogblaaKls
import Derived.Test.YtfpihoghpogblaaPt
import Derived.Test.YtfpihoghpogblaaEq
namespace Go.Proofs.Ytfpihoghpogblaa.st
open Go.Sort Go.ChangeShapes Go.WideShapes Go.ChangeAt Go.RowKit
set_option linter.unusedVariables false

def cellsI (xs : List Nat) : Array Value := (xs.map fun n : Nat => Value.int .i64 (n : Int)).toArray
def RowI (w : World) (g : Nat) (xs : List Nat) : Prop := w.heap[g]? = some (.cells (cellsI xs) 3 (0, 0))
theorem RowI.lt {w : World} {g : Nat} {xs : List Nat} (h : RowI w g xs) : g < w.heap.size := (Array.getElem?_eq_some_iff.1 h).1
theorem RowI.later {w w' : World} {g : Nat} {xs : List Nat} (h : RowI w g xs) (b : Below w.heap.size w w') : RowI w' g xs := by unfold RowI; rw [b.block g h.lt]; exact h
theorem RowI.cell {w : World} {g : Nat} {xs : List Nat} (h : RowI w g xs) (i : Nat) (hi : i < xs.length) : w.cell? ⟨g, i, none⟩ = some (.int .i64 (xs.getD i 0 : Nat)) := by
  rw [Lib.cell_of_heap h, List.getD_eq_getElem?_getD, List.getElem?_eq_getElem hi]
  simp [cellsI, hi]
theorem RowI.fz {w : World} {g : Nat} {xs : List Nat} (h : RowI w g xs) (i : Nat) : w.frozen? ⟨g, i, none⟩ = false := Lib.frozen_of_heap h i
theorem RowI.put {w : World} {g : Nat} {xs : List Nat} (h : RowI w g xs) (i v : Nat) : RowI (w.setCell ⟨g, i, none⟩ (.int .i64 v)) g (xs.set i v) := by
  unfold RowI
  rw [set_heap w g _ _ i _ h]
  congr 2
  simp [cellsI]
theorem RowI.not64 {w : World} {g : Nat} {xs : List Nat} (h : RowI w g xs) : ∀ i x, w.cell? ⟨g, i, none⟩ ≠ some (.int .u64 x) := by
  intro i x e
  rw [Lib.cell_of_heap h] at e
  simp [cellsI] at e
theorem Arr.set {w : World} {g k : Nat} {xs : List Nat} (h : Arr w g xs) (hne : g ≠ k) (i : Nat) (u : Value) : Arr (w.setCell ⟨k, i, none⟩ u) g xs := h.other hne i u
theorem info3 : (Try.prog.info? 3).map (fun i => (i.zero, i.size, i.bytes)) = some (some (.int .i64 0), 1, 8) := by kernel_rfl
theorem make41 (n : Nat) (hn : n ≤ 1000000) (W : World) : (Instr.makeSlice 41 (.int .i64 (n : Int)) (.int .i64 (n : Int))).run Try.prog W = .ok (.slice (some ⟨W.heap.size, 0, none⟩) n n) (W.alloc (.cells (madeCells #[.int .i64 0] n) 3)) :=
  run_make_row' (P := Try.prog) 41 3 (.int .i64 0) 8 Try.underlying41 info3 rfl .i64 .i64 n (by omega) (by omega) W
theorem made_rowI (W : World) (n : Nat) : RowI (W.alloc (.cells (madeCells #[.int .i64 0] n) 3)) W.heap.size (List.replicate n 0) := by
  unfold RowI
  rw [heap_alloc_new]
  congr 2
  apply Array.toList_inj.1
  rw [toList_madeCells_one]
  simp [cellsI]

theorem eq36 (xs : List Nat) (h : xs.length = 256) (W : World) : (Op.equalIn 10000 36 (.agg (cells36 xs)) (.agg (cells36 xs))).run Try.prog W = .ok true W := by
  obtain ⟨i, hi, _, _, _⟩ := info_parts info5
  have c5 : Try.prog.cellsOf 5 = 1 := by kernel_rfl
  have he : ∀ x : Int, (Op.equalIn 9999 5 (.int .u8 x) (.int .u8 x)).run Try.prog W = .ok true W := fun x => by
    rw [run_equalIn_int W 9998 5 .u8 .u8 x x Try.underlying5]
    simp
  have hp : ∀ j, j < 256 → ∃ x : Int, (part 5 (cells36 xs) j).run Try.prog W = .ok (.int .u8 x) W := fun j hj => by
    refine ⟨(xs.getD j 0 : Nat), ?_⟩
    have hj2 : j < xs.length := by omega
    simp [part, Try.isAgg5, cells36, hj2]
  rw [run_equalIn_array W 9999 _ _ Try.underlying36 hi, c5]
  have key : ∀ is : List Nat, (∀ j ∈ is, j < 256) → (Op.eqItems 9999 5 1 (cells36 xs) (cells36 xs) is).run Try.prog W = .ok true W := by
    intro is
    induction is with
    | nil => intro _; simp [Op.eqItems]
    | cons j is ih =>
      intro hj
      obtain ⟨x, hx⟩ := hp j (hj j (by simp))
      simp [Op.eqItems, hx, he x, ih (fun k hk => hj k (by simp [hk]))]
  exact key _ (fun j hj => by simpa using hj)
theorem noughts_len : noughts.length = 256 := List.length_replicate
theorem store_last (w : World) (xs : List Nat) (hx : xs.length = 256) : (storeCells ⟨w.heap.size, 0, none⟩ (cells36 xs).toList).run Try.prog (w.alloc (.cells (cells36 noughts) 36)) = .ok () (w.alloc (.cells (cells36 xs) 36)) :=
  run_storeCells_new (P := Try.prog) w 36 (cells36 noughts) (cells36 xs) (info36 xs hx) (by rw [cells36_size _ noughts_len, cells36_size xs hx]) (cells36_one xs)

theorem sets_at {w : World} {a : Option Addr} {cap : Nat} {l : List Q4} (h : Sets w (.slice a l.length cap) l) (i : Nat) (hi : i < l.length) : ∃ b off, a = some ⟨b, off, none⟩ ∧ b < w.heap.size ∧ w.cell? ⟨b, off + i * 4, none⟩ = some (.int .u64 (nth l i).a) ∧ w.cell? ⟨b, off + i * 4 + 1, none⟩ = some (.int .u64 (nth l i).b) ∧ w.cell? ⟨b, off + i * 4 + 2, none⟩ = some (.int .u64 (nth l i).c) ∧ w.cell? ⟨b, off + i * 4 + 3, none⟩ = some (.int .u64 (nth l i).d) := by
  rcases h with ⟨h0, _⟩ | ⟨b, off, cap2, hv, hl, hm, hlt, hc⟩
  · subst h0; simp at hi
  · simp at hv
    exact ⟨b, off, hv.1, hlt, hc i hi⟩

/-- whether some set of those so far has one byte, and not the other one -/
def prt (l : List Q4) (b c j : Nat) : Bool := (List.range j).any (fun t => has (nth l t) b != has (nth l t) c)
theorem prt_succ (l : List Q4) (b c j : Nat) : prt l b c (j + 1) = (prt l b c j || (has (nth l j) b != has (nth l j) c)) := by
  unfold prt
  rw [List.range_succ, List.any_append]
  simp
theorem prt_all (l : List Q4) (b c : Nat) (h : like l b c = false) : prt l b c l.length = true := by
  cases hp : prt l b c l.length
  · exfalso
    have : sig l b = sig l c := (alikeTo_all l b c).1 (fun j hj => by
      have := List.any_eq_false.1 hp j (by simpa using hj)
      simpa using this)
    simp [like, this] at h
  · rfl

/-! ### the last step of the law: a set more -/
theorem cells4_length (l : List Q4) : (cells4 l).length = l.length * 4 := by
  induction l with
  | nil => rfl
  | cons x l ih => rw [cells4, List.length_cons, List.length_cons, List.length_cons, List.length_cons, List.length_cons, ih]; omega
theorem cells4_one (l : List Q4) : ∀ u ∈ cells4 l, u.oneCell' = true := by
  induction l with
  | nil => intro u hu; simp [cells4] at hu
  | cons x l ih =>
    intro u hu
    simp only [cells4, List.mem_cons] at hu
    rcases hu with rfl | rfl | rfl | rfl | hu
    · rfl
    · rfl
    · rfl
    · rfl
    · exact ih u hu
theorem sets_cells {w : World} {b off cap : Nat} {l : List Q4} (h : Sets w (.slice (some ⟨b, off, none⟩) l.length cap) l) : ∀ j u, (cells4 l)[j]? = some u → w.cell? ((⟨b, off, none⟩ : Addr).add j) = some u := by
  intro j u hu
  have hj : j < l.length * 4 := by
    have := (List.getElem?_eq_some_iff.1 hu).1
    rw [cells4_length] at this
    exact this
  have hi : j / 4 < l.length := by omega
  have hadd : (⟨b, off, none⟩ : Addr).add j = ⟨b, off + j, none⟩ := by unfold Addr.add; split <;> simp_all
  obtain ⟨b', off', he, hlt, c0, c1, c2, c3⟩ := sets_at h (j / 4) hi
  simp at he
  obtain ⟨rfl, rfl⟩ := he
  have hat := cells4_at l (j / 4) hi
  rw [hadd]
  have hr : j % 4 = 0 ∨ j % 4 = 1 ∨ j % 4 = 2 ∨ j % 4 = 3 := by omega
  rcases hr with hr | hr | hr | hr
  · have e : j = j / 4 * 4 := by omega
    rw [e] at hu
    rw [e, ← hu, hat.1, c0]
  · have e : j = j / 4 * 4 + 1 := by omega
    rw [e] at hu
    rw [e, ← hu, hat.2.1, ← c1, Nat.add_assoc]
  · have e : j = j / 4 * 4 + 2 := by omega
    rw [e] at hu
    rw [e, ← hu, hat.2.2.1, ← c2, Nat.add_assoc]
  · have e : j = j / 4 * 4 + 3 := by omega
    rw [e] at hu
    rw [e, ← hu, hat.2.2.2, ← c3, Nat.add_assoc]
theorem step_sets {ops : Array Oper} {o : Oper} {a : Act} {w : World} {K : Act → World → Prop} {Q : Exit → Act → World → Prop} {E : Prop} (hg : o.guard = none) (s x : Operand)
    (ho : o.op = .call { callee := .builtin .append, args := #[s, x], argTypes := #[35, 35] }) (B : Nat) (v : Value) (acc new : List Q4) (hs : a.eval s = v) (hown : OwnSets B w v acc) (ad : Addr) (len cap : Nat) (hx : a.eval x = .slice (some ad) len cap)
    (hl : new.length = len) (hnews : ∀ j u, (cells4 new)[j]? = some u → w.cell? (ad.add j) = some u) (hlen : acc.length + new.length ≤ 1000000) (hB : B ≤ w.heap.size)
    (h : ∀ v' w', OwnSets B w' v' (acc ++ new) → w.grownBy w' v.ownBlock → K (a.put o.dst v') w') :
    if Region.wanted o (yielded ops a.tmps) = true then Oper.wp Try.prog o a w K Q else E := by
  have hw : Region.wanted o (yielded ops a.tmps) = true := by simp [Region.wanted, hg]
  rw [if_pos hw]
  obtain ⟨i0, hi, hz0, hz1, hz2⟩ := info_parts info25
  refine wp_append_own w s x 35 ho B 25 i0 _ 4 32 Try.underlying35 hi hz0 hz1 hz2 rfl (by decide) v acc.length (cells4 acc) hs hown ad len cap (cells4 new) hx (by rw [cells4_length, hl]) hnews (cells4_one new) (by unfold maxLen; omega) (by omega) hB ?_
  intro v' w' h1 h2 _
  refine h v' w' ?_ h2
  unfold OwnSets
  rw [cells4_append, List.length_append, hl]
  exact h1
theorem own_empty {B : Nat} {W : World} {g : Nat} (h : W.heap[g]? = some (.cells #[] 25 (0, 0))) (hB : B ≤ g) : OwnSets B W (.slice (some ⟨g, 0, none⟩) 0 0) [] :=
  ⟨rfl, .inr ⟨g, 0, #[], rfl, hB, h, Nat.zero_le _, Nat.zero_le _, rfl, rfl⟩⟩
theorem OwnSets.later {B : Nat} {w w' : World} {v : Value} {l : List Q4} (h : OwnSets B w v l) (b : Below w.heap.size w w') : OwnSets B w' v l :=
  World.ownsRow.kept h (row := none) ⟨b.os, b.tape, b.output, b.size, fun k hk _ => b.block k hk⟩ (by cases v.ownBlock <;> simp)
theorem OwnSets.row {B : Nat} {w : World} {v : Value} {l : List Q4} (h : OwnSets B w v l) : ∀ k, v.ownBlock = some k → B ≤ k := fun k hk => (World.ownsRow.lt h k hk).1
theorem four_cells2 (W : World) (q : Q4) (o : Obj) : ∀ j u, (cells4 [q])[j]? = some u → ((W.alloc (.cells #[.int .u64 q.a, .int .u64 q.b, .int .u64 q.c, .int .u64 q.d] 25)).alloc o).cell? ((⟨W.heap.size, 0, none⟩ : Addr).add j) = some u := by
  intro j u hu
  have h := four_cells W q j u hu
  have hadd : (⟨W.heap.size, 0, none⟩ : Addr).add j = ⟨W.heap.size, 0 + j, none⟩ := by unfold Addr.add; split <;> simp_all
  rw [hadd] at h ⊢
  rw [((Below.refl _ _).alloc (Nat.le_refl _) o).cell (by simp)]
  exact h
theorem four_cells3 (W : World) (q : Q4) (o : Obj) : ∀ j u, (cells4 [q])[j]? = some u → ((W.alloc o).alloc (.cells #[.int .u64 q.a, .int .u64 q.b, .int .u64 q.c, .int .u64 q.d] 25)).cell? ((⟨W.heap.size + 1, 0, none⟩ : Addr).add j) = some u := by
  intro j u hu
  have h := four_cells (W.alloc o) q j u hu
  rw [World.size_alloc] at h
  exact h
theorem four_cells1 (W : World) (q : Q4) : ∀ j u, (cells4 [q])[j]? = some u → (W.alloc (.cells #[.int .u64 q.a, .int .u64 q.b, .int .u64 q.c, .int .u64 q.d] 25)).cell? ((⟨W.heap.size, 0, none⟩ : Addr).add j) = some u := four_cells W q
theorem Arr.al {W : World} {g : Nat} {xs : List Nat} (h : Arr W g xs) (o : Obj) : Arr (W.alloc o) g xs := h.later ((Below.refl _ _).alloc (Nat.le_refl _) o) h.lt
theorem Arr.past {B : Nat} {W w' : World} {g : Nat} {xs : List Nat} {v : Value} {l : List Q4} (h : Arr W g xs) (ho : OwnSets B W v l) (t : W.grownBy w' v.ownBlock) : Arr w' g xs := by
  refine ⟨?_, h.2⟩
  rw [t.block g h.lt ?_]
  · exact h.1
  · intro e
    rcases ho.2 with ⟨rfl, h0⟩ | ⟨g', cap, cur, rfl, _, hg, _⟩
    · simp [Value.ownBlock] at e
    · simp [Value.ownBlock] at e
      subst e
      have := h.1
      rw [hg] at this
      simp at this
theorem storeG (xs : List Nat) (hx : xs.length = 256) (W : World) (g : Nat) (h : Arr W g noughts) : (storeCells ⟨g, 0, none⟩ (cells36 xs).toList).run Try.prog W = .ok () (W.setRow g (cells36 xs)) := by
  have h1 := run_storeCells_from (P := Try.prog) g 36 (cells36 xs).toList 0 (cells36 noughts) W h.1 (by rw [cells36_size _ noughts_len]; simp [cells36, hx]) (fun v hv => (Array.all_eq_true_iff_forall_mem.1 (cells36_one xs)) v (by simpa using hv))
  simpa using h1
theorem idx (x : Int) (wx : (Lit.int .i64 x).wf = true) (n : Nat) (hn : 0 < n) (hm : n ≤ 200) : ∃ i : Nat, i < n ∧ (wrap64 (x.tmod (n : Int) + (n : Int))).tmod (n : Int) = (i : Int) := by
  have h1 := i64_range wx
  have hb := Int.tmod_lt_of_pos x (show (0 : Int) < n by omega)
  have ha := Int.lt_tmod_of_pos x (show (0 : Int) < n by omega)
  generalize x.tmod (n : Int) = m at *
  rw [show wrap64 (m + (n : Int)) = m + (n : Int) from by unfold wrap64; omega, Int.tmod_eq_emod_of_nonneg (by omega)]
  have h2 := Int.emod_nonneg (m + (n : Int)) (show (n : Int) ≠ 0 by omega)
  have h3 := Int.emod_lt_of_pos (m + (n : Int)) (show (0 : Int) < n by omega)
  obtain ⟨i, hi⟩ := Int.eq_ofNat_of_zero_le h2
  exact ⟨i, by omega, hi⟩
end Go.Proofs.Ytfpihoghpogblaa.st
