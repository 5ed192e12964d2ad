/-
  Texts put together: Over this program: rows of numbers in blocks of their own; appends of one number (out of other seats' texts). Contracts over this program: what an expression takes from some places on, as the document has it (fretsawref07's from): one byte of a set. Contracts over this program: fretsawref07's from: one behind the other, one beside the other. Contracts over this program: fretsawref07's from: one beside the other.
-/
import Derived.Test.YthmecbonjkcnmaaGreatM00
import Derived.Test.YthmecbonjkcnmaaGreatM01
import Derived.Test.YthmecbonjkcnmaaGreatM17
import Derived.Test.YthmecbonjkcnmaaGreatM02
import Derived.Test.YthmecbonjkcnmaaGreatM30
import Derived.BigQuiet
import Derived.Deep.QuietTactic
namespace Go.Proofs.YthmecbonjkcnmaaGreat.nf
open Go.ChangeShapes Go.WideShapes Go.ChangeAt Go.RowKit Go.Shelf
set_option linter.unusedVariables false
set_option maxRecDepth 100000
abbrev Owns (w : World) (B : Nat) (v : Value) (l : List Int) : Prop := w.ownsRow B 3 1 v l.length (l.map (Value.int .i64))
theorem own_ge {w : World} {B : Nat} {v : Value} {l : List Int} (h : Owns w B v l) : ∀ k, v.ownBlock = some k → B ≤ k := by
  intro k e
  rcases h.2 with ⟨rfl, _⟩ | ⟨g, cap, cur, rfl, hb, _⟩
  · cases e
  · cases e; exact hb
def icells (l : List Int) : Array Value := (l.map fun x => Value.int .i64 x).toArray
def IRow (w : World) (g : Nat) (l : List Int) : Prop := w.heap[g]? = some (.cells (icells l) 3 (0, 0))
theorem set_heap (w : World) (g : Nat) (cs : Array Value) (T : TypeId) (i : Nat) (x : Value) (h : w.heap[g]? = some (.cells cs T (0, 0))) : (w.setCell ⟨g, i, none⟩ x).heap[g]? = some (.cells (cs.setIfInBounds i x) T (0, 0)) := by
  show (w.heap.modify g _)[g]? = _
  rw [Array.getElem?_modify, if_pos rfl, h]
  rfl
section
variable {w w' : World} {g : Nat} {l : List Int}
theorem IRow.lt (h : IRow w g l) : g < w.heap.size := (Array.getElem?_eq_some_iff.1 h).1
theorem IRow.later (h : IRow w g l) (b : Below w.heap.size w w') : IRow w' g l := by unfold IRow; rw [b.block g h.lt]; exact h
theorem IRow.keep (h : IRow w g l) (e : w'.heap[g]? = w.heap[g]?) : IRow w' g l := e.trans h
theorem IRow.cell (h : IRow w g l) (i : Nat) (hi : i < l.length) : w.cell? ⟨g, i, none⟩ = some (.int .i64 l[i]) := by
  rw [Lib.cell_of_heap h]
  simp [icells, hi]
theorem IRow.fz (h : IRow w g l) (i : Nat) : w.frozen? ⟨g, i, none⟩ = false := Lib.frozen_of_heap h i
theorem IRow.put (h : IRow w g l) (i : Nat) (x : Int) : IRow (w.setCell ⟨g, i, none⟩ (.int .i64 x)) g (l.set i x) := by
  unfold IRow
  rw [set_heap w g _ _ i _ h]
  congr 2
  simp [icells]
theorem IRow.other (h : IRow w g l) {k : Nat} (hne : g ≠ k) (i : Nat) (v : Value) : IRow (w.setCell ⟨k, i, none⟩ v) g l := (Below.heap_setCell _ _ _ g (fun e => hne e)).trans h
theorem IRow.alloc (h : IRow w g l) (o : Obj) : IRow (w.alloc o) g l := (Below.heap_alloc _ _ _ h.lt).trans h
end
theorem info3 : (Tryz.prog.info? 3).map (fun i => (i.zero, i.size, i.bytes)) = some (some (.int .i64 0), 1, 8) := by kernel_rfl
theorem icells_made (n : Nat) : madeCells #[.int .i64 0] n = icells (List.replicate n 0) := by
  apply Array.toList_inj.1
  rw [toList_madeCells_one]
  simp [icells]
theorem make32 (n : Nat) (hn : n ≤ 1000000) (W : World) : (Instr.makeSlice 32 (.int .i64 (n : Int)) (.int .i64 (n : Int))).run Tryz.prog W = .ok (.slice (some ⟨W.heap.size, 0, none⟩) n n) (W.alloc (.cells (icells (List.replicate n 0)) 3)) := by
  rw [← icells_made]
  exact run_make_row' (P := Tryz.prog) 32 3 (.int .i64 0) 8 Tryz.underlying32 info3 rfl .i64 .i64 n (by omega) (by omega) W
theorem irow_new (W : World) (l : List Int) : IRow (W.alloc (.cells (icells l) 3)) W.heap.size l := heap_alloc_new W _

theorem append_int (w : World) (ty : TypeId) (B : Nat) (v : Value) (l : List Int) (hown : Owns w B v l) (g : Nat) (y : Int) (hc : w.cell? ⟨g, 0, none⟩ = some (.int .i64 y)) (hsm : l.length ≤ 1000000) (hB : B ≤ w.heap.size) :
    ∃ g' cap' w', (Builtin.append_ #[32, 32] ty #[v, .slice (some ⟨g, 0, none⟩) 1 1]).run Tryz.prog w = .ok (.slice (some ⟨g', 0, none⟩) (l.length + 1) cap') w' ∧ Owns w' B (.slice (some ⟨g', 0, none⟩) (l.length + 1) cap') (l ++ [y]) ∧ w.grownBy w' v.ownBlock ∧ (some g' = v.ownBlock ∨ w.heap.size ≤ g') := by
  obtain ⟨i0, hi, hz0, hz1, hz2⟩ := info_parts info3
  have hnews : ∀ j u, ([.int .i64 y] : List Value)[j]? = some u → w.cell? ((⟨g, 0, none⟩ : Addr).add j) = some u := fun j u hu => by
    rcases j with _ | j
    · simp at hu
      subst hu
      simpa [Addr.add] using hc
    · simp at hu
  obtain ⟨v', w', hr, h2, h3, h4⟩ := run_append_own (P := Tryz.prog) w B 32 ty 3 i0 _ 1 8 Tryz.underlying32 hi hz0 hz1 hz2 rfl (by decide) v l.length _ hown ⟨g, 0, none⟩ 1 1 [.int .i64 y] rfl hnews (by simp [Value.oneCell']) (by unfold maxLen; omega) (by omega) hB
  obtain ⟨g', cap', rfl⟩ := ownsRow_succ h2
  refine ⟨g', cap', w', hr, by simpa [Owns] using h2, h3, ?_⟩
  have hl2 : ([.int .i64 y] : List Value).length = 1 * i0.size := by rw [hz1]; rfl
  rcases hown.2 with ⟨rfl, h0⟩ | ⟨gg, cap, cur, rfl, hbg, hg, hnc, hcm, hcs, htake⟩
  · have hr2 := run_append_nil (P := Tryz.prog) w 32 ty 3 i0 _ Tryz.underlying32 hi hz0 ⟨g, 0, none⟩ 1 1 [.int .i64 y] hl2 hnews (by omega) (by omega) (by rw [hz2]; omega)
    rw [hr2] at hr
    injection hr with e1 e2
    simp at e1
    exact .inr (by omega)
  · by_cases hroom : l.length + 1 ≤ cap
    · have hfit : l.length * i0.size + ([.int .i64 y] : List Value).length ≤ cur.size := by rw [hl2, hcs, hz1, ← Nat.add_mul]; exact Nat.mul_le_mul_right _ hroom
      have hr2 := run_append_room (P := Tryz.prog) w 32 ty 3 i0 Tryz.underlying32 hi gg l.length cap cur hg ⟨g, 0, none⟩ 1 1 [.int .i64 y] hl2 hnews (by simp [Value.oneCell']) hroom hfit
      rw [hr2] at hr
      injection hr with e1 e2
      simp at e1
      exact .inl (by simp [Value.ownBlock, e1.1])
    · have hr2 := run_append_grow (P := Tryz.prog) w 32 ty 3 i0 _ Tryz.underlying32 hi hz0 ⟨gg, 0, none⟩ l.length cap _ (by rw [hz1]; exact hown.1) (hown.cells (g := gg) rfl) ⟨g, 0, none⟩ 1 1 [.int .i64 y] hl2 hnews (by omega) (by omega) (growslice_fits (by omega) (by rw [hz2]; omega))
      rw [hr2] at hr
      injection hr with e1 e2
      simp at e1
      exact .inr (by omega)
theorem wpList_append_at {ops : Array Oper} {rest : List Oper} {o : Oper} {a : Act} {w : World} {Q : Exit → Act → World → Prop} (hgd : o.guard = none) (s x : Operand)
    (ho : o.op = Op.call { callee := Callee.builtin Builtin.append, args := #[s, x], argTypes := #[32, 32] }) (B : Nat) (v : Value) (l : List Int) (y : Int) (g : Nat)
    (hs : a.eval s = v) (hx : a.eval x = .slice (some ⟨g, 0, none⟩) 1 1) (hown : Owns w B v l) (hc : w.cell? ⟨g, 0, none⟩ = some (.int .i64 y)) (hl : l.length ≤ 1000000) (hB : B ≤ w.heap.size)
    (hK : ∀ g' cap' w', Owns w' B (.slice (some ⟨g', 0, none⟩) (l.length + 1) cap') (l ++ [y]) → w.grownBy w' v.ownBlock → (some g' = v.ownBlock ∨ w.heap.size ≤ g') → wpList Tryz.prog ops Q rest (a.put o.dst (.slice (some ⟨g', 0, none⟩) (l.length + 1) cap')) w') : wpList Tryz.prog ops Q (o :: rest) a w := by
  refine wpList_plain hgd fun K hK' => ?_
  obtain ⟨g', cap', w', hr, h2, h3, h4⟩ := append_int w o.type B v l hown g y hc hl hB
  unfold Oper.wp execOp
  simp only [ho, resolve, invoke, builtin, Sem.run_bind, Sem.run_pure, Result.andThen_ok, List.map_toArray, List.map_cons, List.map_nil, hs, hx, hr]
  exact hK' _ _ (hK g' cap' w' h2 h3 h4)

theorem up_eq : ∀ (l m : List Int), l.Pairwise (· < ·) → m.Pairwise (· < ·) → (∀ t, t ∈ l ↔ t ∈ m) → l = m
  | [], [], _, _, _ => rfl
  | [], b :: m, _, _, h => by have := (h b).2 (by simp); cases this
  | a :: l, [], _, _, h => by have := (h a).1 (by simp); cases this
  | a :: l, b :: m, h1, h2, h => by
    rw [List.pairwise_cons] at h1 h2
    have e : a = b := by
      have i1 := (h a).1 (by simp)
      have i2 := (h b).2 (by simp)
      rcases List.mem_cons.1 i1 with e | i1
      · exact e
      · rcases List.mem_cons.1 i2 with e | i2
        · exact e.symm
        · have := h1.1 b i2
          have := h2.1 a i1
          omega
    subst e
    congr 1
    refine up_eq l m h1.2 h2.2 (fun t => ⟨fun ht => ?_, fun ht => ?_⟩)
    · rcases List.mem_cons.1 ((h t).1 (by simp [ht])) with e | h3
      · subst e; have := h1.1 t ht; omega
      · exact h3
    · rcases List.mem_cons.1 ((h t).2 (by simp [ht])) with e | h3
      · subst e; have := h2.1 t ht; omega
      · exact h3

theorem tmp_cell (W : World) (v : Value) (g : Nat) (h : g = W.heap.size) : (W.alloc (.cells #[v] 3)).cell? ⟨g, 0, none⟩ = some v := by subst h; rw [Lib.cell_of_heap (World.alloc_heap_new W _)]; rfl
def dOf (s : ByteArray) (i : Nat) : Nat := if h : i < s.size then s[i].toNat else 0
theorem dOf_eq (s : ByteArray) (i : Nat) (h : i < s.size) : dOf s i = s[i].toNat := dif_pos h
end Go.Proofs.YthmecbonjkcnmaaGreat.nf

namespace Go.Proofs.YthmecbonjkcnmaaGreat.nb
open Go.ChangeShapes Go.WideShapes Go.ChangeAt Go.RowKit
open st (Tr Q4 nodesOf goods okNode Is Box nthT)
open nf (Ed IRow icells dOf)
set_option linter.unusedVariables false

def txOf (s : ByteArray) : Tx := ⟨dOf s, s.size⟩
/-- places that are marked -/
structure PlOf (S : Nat → Prop) (n : Nat) (P : List Int) : Prop where
  len : P.length = n
  bit : ∀ i (h : i < P.length), (P[i] = 1 ∧ S i) ∨ (P[i] = 0 ∧ ¬ S i)
theorem PlOf.to {S R : Nat → Prop} {n : Nat} {P : List Int} (h : PlOf S n P) (k : ∀ i, i < n → (S i ↔ R i)) : PlOf R n P :=
  ⟨h.len, fun i hi => (h.bit i hi).imp (fun a => ⟨a.1, (k i (by have := h.len; omega)).1 a.2⟩) (fun a => ⟨a.1, fun b => a.2 ((k i (by have := h.len; omega)).2 b)⟩)⟩
theorem plOf_none (n : Nat) : PlOf (fun _ => False) n (List.replicate n 0) := ⟨by simp, fun i hi => .inr ⟨by simp, id⟩⟩
theorem PlOf.put {S : Nat → Prop} {n : Nat} {P : List Int} (h : PlOf S n P) (j : Nat) (hj : j < n) : PlOf (fun i => S i ∨ i = j) n (P.set j 1) := by
  refine ⟨by rw [List.length_set]; exact h.len, fun i hi => ?_⟩
  rw [List.length_set] at hi
  rw [List.getElem_set]
  by_cases e : j = i
  · rw [if_pos e]
    exact .inl ⟨rfl, .inr e.symm⟩
  · rw [if_neg e]
    exact (h.bit i hi).imp (fun a => ⟨a.1, .inl a.2⟩) (fun a => ⟨a.1, fun b => b.elim a.2 (fun c => e c.symm)⟩)
/-- where one comes to -/
def Img (n : Nat) (T : Nat → Nat → Prop) (S : Nat → Prop) (j : Nat) : Prop := ∃ i, i < n ∧ S i ∧ T i j
def FromIs (s : ByteArray) (t : Tr) : Prop := ∀ (S : Nat → Prop) (P : List Int) (g : Nat) (tv : Value) (w : World) (Q0 : Nat → Prop), PlOf S (s.size + 1) P → IRow w g P → Is w Q0 t tv →
  Calls Tryz.prog 77 #[trV t tv, .string s, .slice (some ⟨g, 0, none⟩) (s.size + 1) (s.size + 1)] w fun e w' => ∃ g' Q, e = .returned (.slice (some ⟨g', 0, none⟩) (s.size + 1) (s.size + 1)) ∧ w.heap.size ≤ g' ∧ IRow w' g' Q ∧ PlOf (Img (s.size + 1) (Tk (txOf s) t) S) (s.size + 1) Q ∧ Below w.heap.size w w'
theorem make138 (n : Nat) (hn : n ≤ 1000000) (W : World) : (Instr.makeSlice 138 (.int .i64 (n : Int)) (.int .i64 (n : Int))).run Tryz.prog W = .ok (.slice (some ⟨W.heap.size, 0, none⟩) n n) (W.alloc (.cells (icells (List.replicate n 0)) 3)) := by
  rw [← nf.icells_made]
  exact run_make_row' (P := Tryz.prog) 138 3 (.int .i64 0) 8 Tryz.underlying138 nf.info3 rfl .i64 .i64 n (by omega) (by omega) W
/-- the two blocks of a call: the tree, and what is marked -/
structure Two (w : World) (t : Tr) (tv : Value) (n : Nat) (W : World) (Q : List Int) : Prop where
  box : Box W w.heap.size t tv
  out : IRow W (w.heap.size + 1) Q
  be : Below w.heap.size w W
theorem two_new (w : World) (t : Tr) (tv : Value) (n : Nat) (W : World) (hW : W = (w.alloc (.cells #[.int .i64 t.kind, .int .u64 t.set.a, .int .u64 t.set.b, .int .u64 t.set.c, .int .u64 t.set.d, .int .i64 t.min, .int .i64 t.max, tv] 29)).alloc (.cells (icells (List.replicate n 0)) 3)) : Two w t tv n W (List.replicate n 0) := by
  subst hW
  exact ⟨heap_alloc2_old w _ _, heap_alloc2_new w _ _, ((Below.refl _ _).alloc (Nat.le_refl _) _).alloc (by simp) _⟩
theorem Two.later {w : World} {t : Tr} {tv : Value} {n : Nat} {W W' : World} {Q : List Int} (h : Two w t tv n W Q) (b : Below W.heap.size W W') : Two w t tv n W' Q := ⟨h.box.below b, h.out.later b, nf.chain h.be b⟩
theorem Two.put {w : World} {t : Tr} {tv : Value} {n : Nat} {W : World} {Q : List Int} (h : Two w t tv n W Q) (i : Nat) (x : Int) : Two w t tv n (W.setCell ⟨w.heap.size + 1, i, none⟩ (.int .i64 x)) (Q.set i x) :=
  ⟨(Below.heap_setCell _ _ _ _ (fun e => by have e2 : w.heap.size = w.heap.size + 1 := e; omega)).trans h.box, h.out.put i x, h.be.setCell (p := ⟨w.heap.size + 1, i, none⟩) (by show w.heap.size ≤ w.heap.size + 1; omega) _⟩
section
variable {op : Oper} {a : Act} {w : World}
theorem x_index138 {x y : Operand} {b n cap i : Nat} (h : op.op = .indexAddr 138 x y) (hx : a.eval x = .slice (some ⟨b, 0, none⟩) n cap) (hy : a.eval y = .int .i64 (i : Int)) (hi : i < n) : (execOp a.eval op).run Tryz.prog w = .ok (.value (.pointer (some ⟨b, i, none⟩))) w := by
  unfold execOp; rw [h]
  have hs : (sizeOf 3).run Tryz.prog w = .ok 1 w := by kernel_rfl
  have hb : (0 : Int) ≤ (i : Int) ∧ (i : Int) < (n : Int) := by omega
  simp only [Instr.indexAt, hx, hy, asIntOf, Sem.run_bind, Sem.run_pure, Result.andThen_ok, run_underlying Tryz.underlying138, hb, and_self, if_true, hs, Int.toNat_natCast, Addr.add_mid, Nat.mul_one, Nat.zero_add]
theorem x_load3 {x : Operand} {p : Addr} {v : Value} (h : op.op = .load 3 x) (hx : a.eval x = .pointer (some p)) (hc : w.cell? p = some v) : (execOp a.eval op).run Tryz.prog w = .ok (.value v) w := by
  unfold execOp; rw [h]; simp only [hx]; go_simp
theorem x_index9 {x y : Operand} {s : ByteArray} {i : Nat} (h : op.op = .index 9 x y) (hx : a.eval x = .string s) (hy : a.eval y = .int .i64 (i : Int)) (hi : i < s.size) : (execOp a.eval op).run Tryz.prog w = .ok (.value (.int .u8 (dOf s i : Nat))) w := by
  have h1 : (i : Int) < (s.size : Int) := by omega
  rw [nf.dOf_eq s i hi]
  unfold execOp; rw [h]; simp only [hx, hy]; go_simp
theorem x_load26 {x : Operand} {b off : Nat} {q : Q4} (h : op.op = .load 26 x) (hx : a.eval x = .pointer (some ⟨b, off, none⟩)) (h0 : w.cell? ⟨b, off, none⟩ = some (.int .u64 q.a)) (h1 : w.cell? ⟨b, off + 1, none⟩ = some (.int .u64 q.b)) (h2 : w.cell? ⟨b, off + 2, none⟩ = some (.int .u64 q.c)) (h3 : w.cell? ⟨b, off + 3, none⟩ = some (.int .u64 q.d)) : (execOp a.eval op).run Tryz.prog w = .ok (.value (.agg #[.int .u64 q.a, .int .u64 q.b, .int .u64 q.c, .int .u64 q.d])) w := by
  unfold execOp; rw [h]; simp only [hx]; go_simp
end
theorem yields_run {ops : Array Oper} {S : World → Prop} {op : Oper} {a : Act} (hw : Region.wanted op (yielded ops a.tmps) = true) {v : Value} (h : ∀ W, S W → (execOp a.eval op).run Tryz.prog W = .ok (.value v) W) : YieldsIf Tryz.prog ops S op v a := .inl ⟨hw, h⟩
/-- one place more is looked at -/
theorem one_yes {s : ByteArray} {q : Q4} {S : Nat → Prop} {i : Nat} (hS : S i) (hi : i < s.size) (hh : st.has q (dOf s i) = true) (j : Nat) : ((∃ k, k < i ∧ S k ∧ OvS (txOf s) q k j) ∨ j = i + 1) ↔ (∃ k, k < i + 1 ∧ S k ∧ OvS (txOf s) q k j) := by
  constructor
  · rintro (⟨k, h1, h2, h3⟩ | rfl)
    · exact ⟨k, by omega, h2, h3⟩
    · exact ⟨i, by omega, hS, hi, rfl, hh⟩
  · rintro ⟨k, h1, h2, h3⟩
    by_cases e : k = i
    · subst e
      exact .inr h3.2.1
    · exact .inl ⟨k, by omega, h2, h3⟩
theorem one_no {s : ByteArray} {q : Q4} {S : Nat → Prop} {i : Nat} (hn : ¬ (S i ∧ st.has q (dOf s i) = true)) (j : Nat) : (∃ k, k < i ∧ S k ∧ OvS (txOf s) q k j) ↔ (∃ k, k < i + 1 ∧ S k ∧ OvS (txOf s) q k j) := by
  constructor
  · rintro ⟨k, h1, h2, h3⟩
    exact ⟨k, by omega, h2, h3⟩
  · rintro ⟨k, h1, h2, h3⟩
    by_cases e : k = i
    · subst e
      exact absurd ⟨h2, h3.2.2⟩ hn
    · exact ⟨k, by omega, h2, h3⟩
theorem dOf_lt (s : ByteArray) (i : Nat) : dOf s i < 256 := by
  unfold nf.dOf
  split
  · exact UInt8.toNat_lt _
  · omega
def Kept (w1 : World) (W : World) : Prop := Below w1.heap.size w1 W
theorem Kept.drew {w1 W : World} (h : Kept w1 W) : Kept w1 W.drew := Below.drew h
set_option maxHeartbeats 4000000 in
set_option maxRecDepth 100000 in
theorem from1 (s : ByteArray) (hs : s.size ≤ 60) (t : Tr) (hk : t.kind = 1) (hf : st.Fits t.set) : FromIs s t := by
  intro S P g tv w Q0 hP hR hI
  obtain ⟨o, n0, cap0, rfl⟩ := hI.shape
  have hm : ∀ W, (Instr.makeSlice 138 (.int .i64 ((s.size : Int) + 1)) (.int .i64 ((s.size : Int) + 1))).run Tryz.prog W = .ok (.slice (some ⟨W.heap.size, 0, none⟩) (s.size + 1) (s.size + 1)) (W.alloc (.cells (icells (List.replicate (s.size + 1) 0)) 3)) := fun W => by
    have := make138 (s.size + 1) (by omega) W
    rw [Int.natCast_add] at this
    exact this
  obtain ⟨w2, HW2⟩ : ∃ w2, Hid (w2 = (w.alloc (.cells #[.int .i64 t.kind, .int .u64 t.set.a, .int .u64 t.set.b, .int .u64 t.set.c, .int .u64 t.set.d, .int .i64 t.min, .int .i64 t.max, .slice o n0 cap0] 29)).alloc (.cells (icells (List.replicate (s.size + 1) 0)) 3)) := ⟨_, rfl⟩
  have HT0 := (show Hid _ from two_new w t _ (s.size + 1) w2 HW2.out)
  have HTK := (show Hid (∀ i j, Tk (txOf s) t i j ↔ OvS (txOf s) t.set i j) from fun i j => by
    cases t with
    | node k q mn mx l =>
      simp only [Tr.kind] at hk
      rw [Tk, if_pos hk]
      rfl)
  have HPP := (show Hid (PlOf S (s.size + 1) P) from hP)
  have HRR := (show Hid (∀ W, Below w.heap.size w W → IRow W g P) from fun W h => hR.later h)
  have hgl : g < w.heap.size := hR.lt
  have hlen := hP.len
  clear hP hR hI
  unfold trV
  rw [hk] at HW2 ⊢
  go_enter Tryz.func77, Tryz.ntmps77
  go_wp2
  rw [← HW2.out]
  clear hm
  go_loopw [8] (fun x wr => ∃ (i : Nat) (Q : List Int), x = .int .i64 i ∧ i ≤ s.size ∧ Hid (Two w t (.slice o n0 cap0) (s.size + 1) wr Q) ∧ Hid (PlOf (fun j => ∃ k, k < i ∧ S k ∧ OvS (txOf s) t.set k j) (s.size + 1) Q)) (fun x _ => s.size - (intOf x).toNat)
  case atStart => exact ⟨0, _, rfl, by omega, HT0, (plOf_none _).to fun j _ => ⟨fun h => h.elim, fun ⟨k, h, _⟩ => by omega⟩⟩
  case round =>
    obtain ⟨i, Q, rfl, hi, HT, HQ⟩ := hrel
    clear HT0
    have hQl := HQ.out.len
    have hbx := HT.out.box
    by_cases hin : i < s.size
    · have hpr := HRR.out wr HT.out.be
      have hgr : g < wr.heap.size := hpr.lt
      have hbr : w.heap.size < wr.heap.size := (Array.getElem?_eq_some_iff.1 hbx).1
      have hb1 : wr.cell? ⟨w.heap.size, 1, none⟩ = some (.int .u64 t.set.a) := by rw [Lib.cell_of_heap hbx]; rfl
      have hb2 : wr.cell? ⟨w.heap.size, 1 + 1, none⟩ = some (.int .u64 t.set.b) := by rw [Lib.cell_of_heap hbx]; rfl
      have hb3 : wr.cell? ⟨w.heap.size, 1 + 2, none⟩ = some (.int .u64 t.set.c) := by rw [Lib.cell_of_heap hbx]; rfl
      have hb4 : wr.cell? ⟨w.heap.size, 1 + 3, none⟩ = some (.int .u64 t.set.d) := by rw [Lib.cell_of_heap hbx]; rfl
      have kR : Kept wr wr := Below.refl _ _
      have hpi := hpr.cell i (by omega)
      have hii : (i : Int) < (s.size : Int) := by omega
      have hi1 : (i : Int) < (s.size : Int) + 1 := by omega
      rcases HPP.out.bit i (by omega) with ⟨e1, hSi⟩ | ⟨e0, hSn⟩
      · rw [e1] at hpi
        have c57 := st.rhas_any t.set hf (dOf s i) (dOf_lt s i) _ rfl
        cases hh : st.has t.set (dOf s i)
        · rw [hh] at c57
          have HQ2 := (show Hid _ from HQ.out.to fun j _ => one_no (s := s) (q := t.set) (S := S) (i := i) (fun h => by rw [hh] at h; cases h.2) j)
          clear hh hpr hbx HQ
          go_wp2
          refine wp_region_held (S := Kept wr) (by kernel_rfl) ?_
          refine rg.take_op (i := 0) 29 rfl rfl (yields_run rfl (v := .slice (some ⟨g, 0, none⟩) (s.size + 1) (s.size + 1)) (fun W h => by kernel_rfl)) (by kernel_rfl) (by kernel_rfl) (by kernel_rfl) (fun _ _ _ h => h) kR.drew ?_
          simp only [Act.put, List.setIfInBounds_toArray, List.set_cons_zero, List.set_cons_succ]
          refine rg.take_op (i := 1) 30 rfl rfl (yields_run rfl (v := .int .i64 (i : Int)) (fun W h => by kernel_rfl)) (by kernel_rfl) (by kernel_rfl) (by kernel_rfl) (fun _ _ _ h => h) kR.drew ?_
          simp only [Act.put, List.setIfInBounds_toArray, List.set_cons_zero, List.set_cons_succ]
          refine rg.take_op (i := 2) 31 rfl rfl (yields_run rfl (v := .pointer (some ⟨g, i, none⟩)) (fun W h => x_index138 (x := .tmp 29) (y := .tmp 30) rfl rfl rfl (by omega))) (by kernel_rfl) (by kernel_rfl) (by kernel_rfl) (fun _ _ _ h => h) kR.drew ?_
          simp only [Act.put, List.setIfInBounds_toArray, List.set_cons_zero, List.set_cons_succ]
          refine rg.take_op (i := 3) 32 rfl rfl (yields_run rfl (v := .int .i64 1) (fun W h => x_load3 (x := .tmp 31) rfl rfl (by rw [Below.cell h hgr]; exact hpi))) (by kernel_rfl) (by kernel_rfl) (by kernel_rfl) (fun _ _ _ h => h) kR.drew ?_
          simp only [Act.put, List.setIfInBounds_toArray, List.set_cons_zero, List.set_cons_succ]
          refine rg.take_op (i := 4) 33 rfl rfl (yields_run rfl (v := .bool true) (fun W h => by kernel_rfl)) (by kernel_rfl) (by kernel_rfl) (by kernel_rfl) (fun _ _ _ h => h) kR.drew ?_
          simp only [Act.put, List.setIfInBounds_toArray, List.set_cons_zero, List.set_cons_succ]
          refine rg.take_op (i := 5) 34 rfl rfl (yields_run rfl (v := .bool true) (fun W h => by kernel_rfl)) (by kernel_rfl) (by kernel_rfl) (by kernel_rfl) (fun _ _ _ h => h) kR.drew ?_
          simp only [Act.put, List.setIfInBounds_toArray, List.set_cons_zero, List.set_cons_succ]
          refine rg.take_op (i := 6) 35 rfl rfl (yields_run rfl (v := .pointer (some ⟨w.heap.size, 1, none⟩)) (fun W h => by kernel_rfl)) (by kernel_rfl) (by kernel_rfl) (by kernel_rfl) (fun _ _ _ h => h) kR.drew ?_
          simp only [Act.put, List.setIfInBounds_toArray, List.set_cons_zero, List.set_cons_succ]
          refine rg.take_op (i := 7) 36 rfl rfl (yields_run rfl (v := .agg #[.int .u64 t.set.a, .int .u64 t.set.b, .int .u64 t.set.c, .int .u64 t.set.d]) (fun W h => x_load26 (x := .tmp 35) rfl rfl (by rw [Below.cell h hbr]; exact hb1) (by rw [Below.cell h hbr]; exact hb2) (by rw [Below.cell h hbr]; exact hb3) (by rw [Below.cell h hbr]; exact hb4))) (by kernel_rfl) (by kernel_rfl) (by kernel_rfl) (fun _ _ _ h => h) kR.drew ?_
          simp only [Act.put, List.setIfInBounds_toArray, List.set_cons_zero, List.set_cons_succ]
          refine rg.take_op (i := 8) 37 rfl rfl (yields_run rfl (v := .string s) (fun W h => by kernel_rfl)) (by kernel_rfl) (by kernel_rfl) (by kernel_rfl) (fun _ _ _ h => h) kR.drew ?_
          simp only [Act.put, List.setIfInBounds_toArray, List.set_cons_zero, List.set_cons_succ]
          refine rg.take_op (i := 9) 38 rfl rfl (yields_run rfl (v := .int .i64 (i : Int)) (fun W h => by kernel_rfl)) (by kernel_rfl) (by kernel_rfl) (by kernel_rfl) (fun _ _ _ h => h) kR.drew ?_
          simp only [Act.put, List.setIfInBounds_toArray, List.set_cons_zero, List.set_cons_succ]
          refine rg.take_op (i := 10) 39 rfl rfl (yields_run rfl (v := .int .u8 (dOf s i : Nat)) (fun W h => x_index9 (x := .tmp 37) (y := .tmp 38) rfl rfl rfl hin)) (by kernel_rfl) (by kernel_rfl) (by kernel_rfl) (fun _ _ _ h => h) kR.drew ?_
          simp only [Act.put, List.setIfInBounds_toArray, List.set_cons_zero, List.set_cons_succ]
          refine rg.call_op 11 40 (f := 104) (args := #[.agg #[.int .u64 t.set.a, .int .u64 t.set.b, .int .u64 t.set.c, .int .u64 t.set.d], .int .u8 (dOf s i : Nat)]) (by kernel_rfl) rfl rfl rfl (by kernel_rfl) ((c57 _).mono ?_)
          rintro e w5 ⟨rfl, b5⟩
          have k5 : Kept wr w5 := nf.chain kR.drew b5
          refine ⟨_, rfl, k5, ?_⟩
          simp only [Act.put, List.setIfInBounds_toArray, List.set_cons_zero, List.set_cons_succ]
          refine rg.take_op (i := 12) 41 rfl rfl (yields_run rfl (v := .bool false) (fun W h => by kernel_rfl)) (by kernel_rfl) (by kernel_rfl) (by kernel_rfl) (fun _ _ _ h => h) k5 ?_
          simp only [Act.put, List.setIfInBounds_toArray, List.set_cons_zero, List.set_cons_succ]
          refine rg.done_op (by kernel_rfl) ?_
          clear hb1 hb2 hb3 hb4 hpi c57
          go_wp2
          go_roundw
          case rel => exact ⟨i + 1, Q, by go_num, by omega, HT.out.later k5, HQ2⟩
          case measure => simp [intOf]; omega
        · rw [hh] at c57
          have HQ2 := (show Hid _ from (HQ.out.put (i + 1) (by omega)).to fun j _ => one_yes (s := s) (q := t.set) hSi hin hh j)
          clear hh hpr hbx HQ
          go_wp2
          refine wp_region_held (S := Kept wr) (by kernel_rfl) ?_
          refine rg.take_op (i := 0) 29 rfl rfl (yields_run rfl (v := .slice (some ⟨g, 0, none⟩) (s.size + 1) (s.size + 1)) (fun W h => by kernel_rfl)) (by kernel_rfl) (by kernel_rfl) (by kernel_rfl) (fun _ _ _ h => h) kR.drew ?_
          simp only [Act.put, List.setIfInBounds_toArray, List.set_cons_zero, List.set_cons_succ]
          refine rg.take_op (i := 1) 30 rfl rfl (yields_run rfl (v := .int .i64 (i : Int)) (fun W h => by kernel_rfl)) (by kernel_rfl) (by kernel_rfl) (by kernel_rfl) (fun _ _ _ h => h) kR.drew ?_
          simp only [Act.put, List.setIfInBounds_toArray, List.set_cons_zero, List.set_cons_succ]
          refine rg.take_op (i := 2) 31 rfl rfl (yields_run rfl (v := .pointer (some ⟨g, i, none⟩)) (fun W h => x_index138 (x := .tmp 29) (y := .tmp 30) rfl rfl rfl (by omega))) (by kernel_rfl) (by kernel_rfl) (by kernel_rfl) (fun _ _ _ h => h) kR.drew ?_
          simp only [Act.put, List.setIfInBounds_toArray, List.set_cons_zero, List.set_cons_succ]
          refine rg.take_op (i := 3) 32 rfl rfl (yields_run rfl (v := .int .i64 1) (fun W h => x_load3 (x := .tmp 31) rfl rfl (by rw [Below.cell h hgr]; exact hpi))) (by kernel_rfl) (by kernel_rfl) (by kernel_rfl) (fun _ _ _ h => h) kR.drew ?_
          simp only [Act.put, List.setIfInBounds_toArray, List.set_cons_zero, List.set_cons_succ]
          refine rg.take_op (i := 4) 33 rfl rfl (yields_run rfl (v := .bool true) (fun W h => by kernel_rfl)) (by kernel_rfl) (by kernel_rfl) (by kernel_rfl) (fun _ _ _ h => h) kR.drew ?_
          simp only [Act.put, List.setIfInBounds_toArray, List.set_cons_zero, List.set_cons_succ]
          refine rg.take_op (i := 5) 34 rfl rfl (yields_run rfl (v := .bool true) (fun W h => by kernel_rfl)) (by kernel_rfl) (by kernel_rfl) (by kernel_rfl) (fun _ _ _ h => h) kR.drew ?_
          simp only [Act.put, List.setIfInBounds_toArray, List.set_cons_zero, List.set_cons_succ]
          refine rg.take_op (i := 6) 35 rfl rfl (yields_run rfl (v := .pointer (some ⟨w.heap.size, 1, none⟩)) (fun W h => by kernel_rfl)) (by kernel_rfl) (by kernel_rfl) (by kernel_rfl) (fun _ _ _ h => h) kR.drew ?_
          simp only [Act.put, List.setIfInBounds_toArray, List.set_cons_zero, List.set_cons_succ]
          refine rg.take_op (i := 7) 36 rfl rfl (yields_run rfl (v := .agg #[.int .u64 t.set.a, .int .u64 t.set.b, .int .u64 t.set.c, .int .u64 t.set.d]) (fun W h => x_load26 (x := .tmp 35) rfl rfl (by rw [Below.cell h hbr]; exact hb1) (by rw [Below.cell h hbr]; exact hb2) (by rw [Below.cell h hbr]; exact hb3) (by rw [Below.cell h hbr]; exact hb4))) (by kernel_rfl) (by kernel_rfl) (by kernel_rfl) (fun _ _ _ h => h) kR.drew ?_
          simp only [Act.put, List.setIfInBounds_toArray, List.set_cons_zero, List.set_cons_succ]
          refine rg.take_op (i := 8) 37 rfl rfl (yields_run rfl (v := .string s) (fun W h => by kernel_rfl)) (by kernel_rfl) (by kernel_rfl) (by kernel_rfl) (fun _ _ _ h => h) kR.drew ?_
          simp only [Act.put, List.setIfInBounds_toArray, List.set_cons_zero, List.set_cons_succ]
          refine rg.take_op (i := 9) 38 rfl rfl (yields_run rfl (v := .int .i64 (i : Int)) (fun W h => by kernel_rfl)) (by kernel_rfl) (by kernel_rfl) (by kernel_rfl) (fun _ _ _ h => h) kR.drew ?_
          simp only [Act.put, List.setIfInBounds_toArray, List.set_cons_zero, List.set_cons_succ]
          refine rg.take_op (i := 10) 39 rfl rfl (yields_run rfl (v := .int .u8 (dOf s i : Nat)) (fun W h => x_index9 (x := .tmp 37) (y := .tmp 38) rfl rfl rfl hin)) (by kernel_rfl) (by kernel_rfl) (by kernel_rfl) (fun _ _ _ h => h) kR.drew ?_
          simp only [Act.put, List.setIfInBounds_toArray, List.set_cons_zero, List.set_cons_succ]
          refine rg.call_op 11 40 (f := 104) (args := #[.agg #[.int .u64 t.set.a, .int .u64 t.set.b, .int .u64 t.set.c, .int .u64 t.set.d], .int .u8 (dOf s i : Nat)]) (by kernel_rfl) rfl rfl rfl (by kernel_rfl) ((c57 _).mono ?_)
          rintro e w5 ⟨rfl, b5⟩
          have k5 : Kept wr w5 := nf.chain kR.drew b5
          refine ⟨_, rfl, k5, ?_⟩
          simp only [Act.put, List.setIfInBounds_toArray, List.set_cons_zero, List.set_cons_succ]
          refine rg.take_op (i := 12) 41 rfl rfl (yields_run rfl (v := .bool true) (fun W h => by kernel_rfl)) (by kernel_rfl) (by kernel_rfl) (by kernel_rfl) (fun _ _ _ h => h) k5 ?_
          simp only [Act.put, List.setIfInBounds_toArray, List.set_cons_zero, List.set_cons_succ]
          refine rg.done_op (by kernel_rfl) ?_
          clear hb1 hb2 hb3 hb4 hpi c57
          have HT5 := (show Hid _ from HT.out.later k5)
          have kc := HT5.out.out.cell (i + 1) (by omega)
          have kf := HT5.out.out.fz (i + 1)
          have hi2 : (i : Int) + 1 < (s.size : Int) + 1 := by omega
          go_wp2
          go_roundw
          case rel => exact ⟨i + 1, _, by go_num, by omega, HT5.out.put (i + 1) 1, HQ2⟩
          case measure => simp [intOf]; omega
      · rw [e0] at hpi
        have HQ2 := (show Hid _ from HQ.out.to fun j _ => one_no (s := s) (q := t.set) (S := S) (i := i) (fun h => hSn h.1) j)
        clear hpr hbx HQ hb1 hb2 hb3 hb4
        go_wp2
        go_quiet (fail)
        go_wp2
        go_roundw
        case rel => exact ⟨i + 1, Q, by go_num, by omega, HT.out.later ⟨rfl, rfl, rfl, Nat.le_refl _, fun _ _ => rfl⟩, HQ2⟩
        case measure => simp [intOf]; omega
    · have HQ2 := (show Hid (PlOf (Img (s.size + 1) (Tk (txOf s) t) S) (s.size + 1) Q) from HQ.out.to fun j hj => by
        constructor
        · rintro ⟨k, h1, h2, h3⟩
          exact ⟨k, by omega, h2, (HTK.out k j).2 h3⟩
        · rintro ⟨k, h1, h2, h3⟩
          have h4 := (HTK.out k j).1 h3
          have h5 : k < s.size := h4.1
          exact ⟨k, by omega, h2, h4⟩)
      have hii : ¬ (i : Int) < (s.size : Int) := by omega
      clear hbx
      go_wp2
      go_ret
      exact ⟨_, rfl, Nat.le_succ _, Q, HT.out.out, HQ2.out, HT.out.be⟩
end Go.Proofs.YthmecbonjkcnmaaGreat.nb

namespace Go.Proofs.YthmecbonjkcnmaaGreat.nb
open Go.ChangeShapes Go.WideShapes Go.ChangeAt Go.RowKit
open st (Tr Q4 nodesOf goods okNode Is Box nthT)
open nf (Ed IRow icells dOf)
set_option linter.unusedVariables false

theorem PlOf.put0 {S : Nat → Prop} {n : Nat} {P : List Int} (h : PlOf S n P) (j : Nat) (hj : ¬ S j) : PlOf S n (P.set j 0) := by
  refine ⟨by rw [List.length_set]; exact h.len, fun i hi => ?_⟩
  rw [List.length_set] at hi
  rw [List.getElem_set]
  by_cases e : j = i
  · rw [if_pos e]
    exact .inr ⟨rfl, by rw [← e]; exact hj⟩
  · rw [if_neg e]
    exact h.bit i hi
theorem tkC_snoc (x : Tx) : ∀ (l : List Tr) (t : Tr) (a b : Nat), TkC x (l ++ [t]) a b ↔ Sq (TkC x l) (Tk x t) a b
  | [], t, a, b => by
    show TkC x [t] a b ↔ _
    rw [TkC]
    constructor
    · rintro ⟨k, h1, h2⟩
      rw [TkC] at h2
      subst h2
      exact ⟨a, by rw [TkC], h1⟩
    · rintro ⟨k, h1, h2⟩
      rw [TkC] at h1
      subst h1
      exact ⟨b, h2, by rw [TkC]⟩
  | u :: l, t, a, b => by
    show TkC x (u :: (l ++ [t])) a b ↔ _
    rw [TkC]
    constructor
    · rintro ⟨k, h1, h2⟩
      obtain ⟨c, h3, h4⟩ := (tkC_snoc x l t k b).1 h2
      exact ⟨c, by rw [TkC]; exact ⟨k, h1, h3⟩, h4⟩
    · rintro ⟨c, h1, h2⟩
      rw [TkC] at h1
      obtain ⟨k, h3, h4⟩ := h1
      exact ⟨k, h3, (tkC_snoc x l t k b).2 ⟨c, h4, h2⟩⟩
theorem tkA_snoc (x : Tx) : ∀ (l : List Tr) (t : Tr) (a b : Nat), TkA x (l ++ [t]) a b ↔ TkA x l a b ∨ Tk x t a b
  | [], t, a, b => by
    show TkA x [t] a b ↔ _
    rw [TkA, TkA, TkA]
    exact or_comm
  | u :: l, t, a, b => by
    show TkA x (u :: (l ++ [t])) a b ↔ _
    rw [TkA, TkA, tkA_snoc x l t a b, or_assoc]
theorem img_seq (s : ByteArray) (l : List Tr) (t : Tr) (S : Nat → Prop) (j : Nat) : Img (s.size + 1) (Tk (txOf s) t) (Img (s.size + 1) (TkC (txOf s) l) S) j ↔ Img (s.size + 1) (TkC (txOf s) (l ++ [t])) S j := by
  constructor
  · rintro ⟨c, h1, ⟨a, h2, h3, h4⟩, h5⟩
    exact ⟨a, h2, h3, (tkC_snoc _ l t a j).2 ⟨c, h4, h5⟩⟩
  · rintro ⟨a, h2, h3, h4⟩
    obtain ⟨c, h5, h6⟩ := (tkC_snoc _ l t a j).1 h4
    have hr := (tkC_range (txOf s) l a c h5).2 (by show a ≤ s.size; omega)
    have hr' : c ≤ s.size := hr
    exact ⟨c, by omega, ⟨a, h2, h3, h5⟩, h6⟩
theorem below_of {w W : World} {n : Nat} (h : Below w.heap.size w W) : w.heap.size ≤ W.heap.size := h.size
set_option maxHeartbeats 4000000 in
set_option maxRecDepth 100000 in
theorem from2 (s : ByteArray) (hs : s.size ≤ 60) (t : Tr) (hk : t.kind = 2) (hkids : ∀ i, i < t.kids.length → FromIs s (nthT t.kids i)) : FromIs s t := by
  intro S P g tv w Q0 hP hR hI
  obtain ⟨o, cap, b, off, vs, rfl, hcap, hki⟩ := hI.form
  have hll : t.kids.length ≤ 9223372036854775807 := by
    by_cases h0 : 0 < t.kids.length
    · have := (hki 0 h0).2.1; omega
    · omega
  have hm : ∀ W, (Instr.makeSlice 138 (.int .i64 ((s.size : Int) + 1)) (.int .i64 ((s.size : Int) + 1))).run Tryz.prog W = .ok (.slice (some ⟨W.heap.size, 0, none⟩) (s.size + 1) (s.size + 1)) (W.alloc (.cells (icells (List.replicate (s.size + 1) 0)) 3)) := fun W => by
    have := make138 (s.size + 1) (by omega) W
    rw [Int.natCast_add] at this
    exact this
  obtain ⟨w2, HW2⟩ : ∃ w2, Hid (w2 = (w.alloc (.cells #[.int .i64 t.kind, .int .u64 t.set.a, .int .u64 t.set.b, .int .u64 t.set.c, .int .u64 t.set.d, .int .i64 t.min, .int .i64 t.max, .slice o t.kids.length cap] 29)).alloc (.cells (icells (List.replicate (s.size + 1) 0)) 3)) := ⟨_, rfl⟩
  have HT0 := (show Hid _ from two_new w t _ (s.size + 1) w2 HW2.out)
  have HTK := (show Hid (∀ i j, Tk (txOf s) t i j ↔ TkC (txOf s) t.kids i j) from fun i j => by
    cases t with
    | node k q mn mx l =>
      simp only [Tr.kind] at hk
      rw [Tk, if_neg (by omega), if_pos hk]
      rfl)
  have HPP := (show Hid (PlOf S (s.size + 1) P) from hP)
  have HRR := (show Hid (∀ W, Below w.heap.size w W → IRow W g P) from fun W h => hR.later h)
  have HKI := (show Hid _ from hki)
  have HKD := (show Hid _ from hkids)
  have hlen := hP.len
  clear hP hR hI hki hkids
  unfold trV
  rw [hk] at HW2 ⊢
  go_enter Tryz.func77, Tryz.ntmps77
  go_wp2
  rw [← HW2.out]
  clear hm
  go_loopw [50] (fun x wr => ∃ (i : Nat) (Q : List Int), x = .int .i64 i ∧ i ≤ s.size + 1 ∧ Hid (Two w t (.slice o t.kids.length cap) (s.size + 1) wr Q) ∧ Hid (PlOf (fun j => j < i ∧ S j) (s.size + 1) Q)) (fun x _ => s.size + 1 - (intOf x).toNat)
  case atStart => exact ⟨0, _, rfl, by omega, HT0, (plOf_none _).to fun j _ => ⟨fun h => h.elim, fun h => by omega⟩⟩
  case round =>
    obtain ⟨i, Q, rfl, hi, HT, HQ⟩ := hrel
    clear HT0
    have hQl := HQ.out.len
    by_cases hin : i < s.size + 1
    · have hpr := HRR.out wr HT.out.be
      have hpi := hpr.cell i (by omega)
      have kc := HT.out.out.cell i (by omega)
      have kf := HT.out.out.fz i
      have hii : (i : Int) < (s.size : Int) + 1 := by omega
      rcases HPP.out.bit i (by omega) with ⟨e1, hSi⟩ | ⟨e0, hSn⟩
      · rw [e1] at hpi
        have HQ2 := (show Hid (PlOf (fun j => j < i + 1 ∧ S j) (s.size + 1) (Q.set i 1)) from (HQ.out.put i hin).to fun j _ => by
          constructor
          · rintro (⟨h1, h2⟩ | rfl)
            · exact ⟨by omega, h2⟩
            · exact ⟨by omega, hSi⟩
          · rintro ⟨h1, h2⟩
            by_cases e : j = i
            · exact .inr e
            · exact .inl ⟨by omega, h2⟩)
        clear hpr HQ
        go_wp2
        go_roundw
        case rel => exact ⟨i + 1, _, by go_num, by omega, HT.out.put i 1, HQ2⟩
        case measure => simp [intOf]; omega
      · rw [e0] at hpi
        have HQ2 := (show Hid (PlOf (fun j => j < i + 1 ∧ S j) (s.size + 1) (Q.set i 0)) from (HQ.out.put0 i (fun h => by omega)).to fun j _ => by
          constructor
          · rintro ⟨h1, h2⟩
            exact ⟨by omega, h2⟩
          · rintro ⟨h1, h2⟩
            by_cases e : j = i
            · subst e; exact absurd h2 hSn
            · exact ⟨by omega, h2⟩)
        clear hpr HQ
        go_wp2
        go_roundw
        case rel => exact ⟨i + 1, _, by go_num, by omega, HT.out.put i 0, HQ2⟩
        case measure => simp [intOf]; omega
    · have hbx := HT.out.box
      have hb7 : wr.cell? ⟨w.heap.size, 7, none⟩ = some (.slice o t.kids.length cap) := by rw [Lib.cell_of_heap hbx]; rfl
      have HQ0 := (show Hid (PlOf (Img (s.size + 1) (TkC (txOf s) (t.kids.take 0)) S) (s.size + 1) Q) from HQ.out.to fun j hj => by
        rw [List.take_zero]
        constructor
        · rintro ⟨h1, h2⟩
          exact ⟨j, hj, h2, by rw [TkC]⟩
        · rintro ⟨k, h1, h2, h3⟩
          rw [TkC] at h3
          subst h3
          exact ⟨by omega, h2⟩)
      have hii : ¬ (i : Int) < (s.size : Int) + 1 := by omega
      have HO := (show Hid _ from HT.out.out)
      have HB := (show Hid _ from HT.out.be)
      clear hbx HQ HT
      go_wp2
      go_loopw [7, 64] (fun u x wr => ∃ (i g' : Nat) (Q : List Int), u = .slice (some ⟨g', 0, none⟩) (s.size + 1) (s.size + 1) ∧ x = .int .i64 i ∧ i ≤ t.kids.length ∧ w.heap.size ≤ g' ∧ Hid (IRow wr g' Q) ∧ Hid (PlOf (Img (s.size + 1) (TkC (txOf s) (t.kids.take i)) S) (s.size + 1) Q) ∧ Below w.heap.size w wr) (fun _ x _ => t.kids.length - (intOf x).toNat)
      case atStart => exact ⟨0, _, Q, rfl, rfl, by omega, by omega, HO, HQ0, HB.out⟩
      case round =>
        clear HO HB HQ0 hb7
        obtain ⟨i2, g', Q2, rfl, rfl, hi2, hg', HIR, HPQ, hB⟩ := hrel
        by_cases hend : i2 < t.kids.length
        · obtain ⟨rfl, hcm, hb, hne, hcells, hkid⟩ := HKI.out i2 hend
          have hcells2 := hcells.same (hB.block b hb)
          have hkid2 := hkid.later hB
          obtain ⟨o2, n2, cap2, hv2⟩ := hkid.shape
          rw [hv2] at hcells2 hkid2
          obtain ⟨k0, k1, k2, k3, k4, k5, k6, k7⟩ := hcells2
          have hcall := HKD.out i2 hend
          have HNX := (show Hid (∀ Q3, PlOf (Img (s.size + 1) (Tk (txOf s) (nthT t.kids i2)) (Img (s.size + 1) (TkC (txOf s) (t.kids.take i2)) S)) (s.size + 1) Q3 → PlOf (Img (s.size + 1) (TkC (txOf s) (t.kids.take (i2 + 1))) S) (s.size + 1) Q3) from fun Q3 h => h.to fun j _ => by rw [st.take_nthT t.kids i2 hend]; exact img_seq s _ _ S j)
          clear hcells hkid hv2
          generalize nthT t.kids i2 = x at *
          have hbig : Below wr.heap.size wr (wr.alloc (.cells #[.int .i64 x.kind, .int .u64 x.set.a, .int .u64 x.set.b, .int .u64 x.set.c, .int .u64 x.set.d, .int .i64 x.min, .int .i64 x.max, .slice o2 n2 cap2] 29)) := nf.below_alloc _ _
          have c37 := hcall _ Q2 g' _ _ _ HPQ.out (HIR.out.later hbig) (hkid2.later hbig)
          go_wp2_with (go_at_call 77; refine c37.mono ?_; rintro e w3 ⟨g3, Q3, rfl, hg3, hr3, hp3, b3⟩; have HR3 := (show Hid (IRow w3 g3 Q3) from hr3); have HP3 := (show Hid _ from HNX.out Q3 hp3); clear hr3 hp3)
          go_roundw
          case rel => exact ⟨i2 + 1, g3, Q3, rfl, by go_num, by omega, by have := hbig.size; have := hB.size; omega, HR3, HP3, nf.chain hB (nf.chain hbig b3)⟩
          case measure => simp [intOf]; omega
        · have HQ2 := (show Hid (PlOf (Img (s.size + 1) (Tk (txOf s) t) S) (s.size + 1) Q2) from HPQ.out.to fun j hj => by
            rw [List.take_of_length_le (by omega)]
            exact ⟨fun ⟨k, h1, h2, h3⟩ => ⟨k, h1, h2, (HTK.out k j).2 h3⟩, fun ⟨k, h1, h2, h3⟩ => ⟨k, h1, h2, (HTK.out k j).1 h3⟩⟩)
          clear HPQ
          go_wp2
          go_ret
          exact ⟨_, Q2, rfl, hg', HIR.out, HQ2.out, hB⟩
end Go.Proofs.YthmecbonjkcnmaaGreat.nb

namespace Go.Proofs.YthmecbonjkcnmaaGreat.nb
open Go.ChangeShapes Go.WideShapes Go.ChangeAt Go.RowKit
open st (Tr Q4 nodesOf goods okNode Is Box nthT)
open nf (Ed IRow icells dOf)
set_option linter.unusedVariables false

theorem img_or (s : ByteArray) (l : List Tr) (t : Tr) (S : Nat → Prop) (j : Nat) (hj : j < s.size + 1) : (Img (s.size + 1) (TkA (txOf s) l) S j ∨ (j < s.size + 1 ∧ Img (s.size + 1) (Tk (txOf s) t) S j)) ↔ Img (s.size + 1) (TkA (txOf s) (l ++ [t])) S j := by
  constructor
  · rintro (⟨a, h1, h2, h3⟩ | ⟨_, a, h1, h2, h3⟩)
    · exact ⟨a, h1, h2, (tkA_snoc _ l t a j).2 (.inl h3)⟩
    · exact ⟨a, h1, h2, (tkA_snoc _ l t a j).2 (.inr h3)⟩
  · rintro ⟨a, h1, h2, h3⟩
    rcases (tkA_snoc _ l t a j).1 h3 with h | h
    · exact .inl ⟨a, h1, h2, h⟩
    · exact .inr ⟨hj, a, h1, h2, h⟩
set_option maxHeartbeats 4000000 in
set_option maxRecDepth 100000 in
theorem from3 (s : ByteArray) (hs : s.size ≤ 60) (t : Tr) (hk : t.kind = 3) (hkids : ∀ i, i < t.kids.length → FromIs s (nthT t.kids i)) : FromIs s t := by
  intro S P g tv w Q0 hP hR hI
  obtain ⟨o, cap, b, off, vs, rfl, hcap, hki⟩ := hI.form
  have hll : t.kids.length ≤ 9223372036854775807 := by
    by_cases h0 : 0 < t.kids.length
    · have := (hki 0 h0).2.1; omega
    · omega
  have hm : ∀ W, (Instr.makeSlice 138 (.int .i64 ((s.size : Int) + 1)) (.int .i64 ((s.size : Int) + 1))).run Tryz.prog W = .ok (.slice (some ⟨W.heap.size, 0, none⟩) (s.size + 1) (s.size + 1)) (W.alloc (.cells (icells (List.replicate (s.size + 1) 0)) 3)) := fun W => by
    have := make138 (s.size + 1) (by omega) W
    rw [Int.natCast_add] at this
    exact this
  obtain ⟨w2, HW2⟩ : ∃ w2, Hid (w2 = (w.alloc (.cells #[.int .i64 t.kind, .int .u64 t.set.a, .int .u64 t.set.b, .int .u64 t.set.c, .int .u64 t.set.d, .int .i64 t.min, .int .i64 t.max, .slice o t.kids.length cap] 29)).alloc (.cells (icells (List.replicate (s.size + 1) 0)) 3)) := ⟨_, rfl⟩
  have HT0 := (show Hid _ from two_new w t _ (s.size + 1) w2 HW2.out)
  have hb7 : ((w.alloc (.cells #[.int .i64 t.kind, .int .u64 t.set.a, .int .u64 t.set.b, .int .u64 t.set.c, .int .u64 t.set.d, .int .i64 t.min, .int .i64 t.max, .slice o t.kids.length cap] 29)).alloc (.cells (icells (List.replicate (s.size + 1) 0)) 3)).cell? ⟨w.heap.size, 7, none⟩ = some (.slice o t.kids.length cap) := by
    rw [← HW2.out, Lib.cell_of_heap HT0.out.box]; rfl
  have HTK := (show Hid (∀ i j, Tk (txOf s) t i j ↔ TkA (txOf s) t.kids i j) from fun i j => by
    cases t with
    | node k q mn mx l =>
      simp only [Tr.kind] at hk
      rw [Tk, if_neg (by omega), if_neg (by omega), if_pos hk]
      rfl)
  have HPP := (show Hid (PlOf S (s.size + 1) P) from hP)
  have HRR := (show Hid (∀ W, Below w.heap.size w W → IRow W g P) from fun W h => hR.later h)
  have HKI := (show Hid _ from hki)
  have HKD := (show Hid _ from hkids)
  have hlen := hP.len
  clear hP hR hI hki hkids
  unfold trV
  rw [hk] at HW2 hb7 ⊢
  go_enter Tryz.func77, Tryz.ntmps77
  go_wp2
  rw [← HW2.out]
  clear hm hb7
  go_loopw [78] (fun x wr => ∃ (i : Nat) (Q : List Int), x = .int .i64 i ∧ i ≤ t.kids.length ∧ Hid (Two w t (.slice o t.kids.length cap) (s.size + 1) wr Q) ∧ Hid (PlOf (Img (s.size + 1) (TkA (txOf s) (t.kids.take i)) S) (s.size + 1) Q)) (fun x _ => t.kids.length - (intOf x).toNat)
  case atStart => exact ⟨0, _, rfl, by omega, HT0, (plOf_none _).to fun j _ => ⟨fun h => h.elim, fun ⟨k, _, _, h⟩ => by rw [List.take_zero, TkA] at h; exact h⟩⟩
  case round =>
    obtain ⟨i, Q, rfl, hi, HT, HQ⟩ := hrel
    clear HT0
    have hB := HT.out.be
    by_cases hend : i < t.kids.length
    · obtain ⟨rfl, hcm, hb, hne, hcells, hkid⟩ := HKI.out i hend
      have hcells2 := hcells.same (hB.block b hb)
      have hkid2 := hkid.later hB
      obtain ⟨o2, n2, cap2, hv2⟩ := hkid.shape
      rw [hv2] at hcells2 hkid2
      obtain ⟨k0, k1, k2, k3, k4, k5, k6, k7⟩ := hcells2
      have hcall := HKD.out i hend
      have HNX := (show Hid (∀ Q3, PlOf (fun m => Img (s.size + 1) (TkA (txOf s) (t.kids.take i)) S m ∨ (m < s.size + 1 ∧ Img (s.size + 1) (Tk (txOf s) (nthT t.kids i)) S m)) (s.size + 1) Q3 → PlOf (Img (s.size + 1) (TkA (txOf s) (t.kids.take (i + 1))) S) (s.size + 1) Q3) from fun Q3 h => h.to fun j hj => by rw [st.take_nthT t.kids i hend]; exact img_or s _ _ S j hj)
      clear hcells hkid hv2
      generalize nthT t.kids i = x at *
      have hbig : Below wr.heap.size wr (wr.alloc (.cells #[.int .i64 x.kind, .int .u64 x.set.a, .int .u64 x.set.b, .int .u64 x.set.c, .int .u64 x.set.d, .int .i64 x.min, .int .i64 x.max, .slice o2 n2 cap2] 29)) := nf.below_alloc _ _
      have hout := HT.out.out.lt
      have c37 := hcall _ P g _ _ _ HPP.out ((HRR.out wr hB).later hbig) (hkid2.later hbig)
      go_wp2_with (go_at_call 77; refine c37.mono ?_; rintro e w3 ⟨g3, R, rfl, hg3, hr3, hp3, b3⟩; have HR3 := (show Hid (IRow w3 g3 R) from hr3); have HP3 := (show Hid _ from hp3); have HT3 := (show Hid _ from HT.out.later (nf.chain hbig b3)); clear hr3 hp3)
      have hg4 : w.heap.size + 1 < g3 := by have := hbig.size; simp at hg3; omega
      clear c37 k0 k1 k2 k3 k4 k5 k6 k7 hbig b3 hg3 HT
      go_loopw [88] (fun y wr => ∃ (j : Nat) (Q2 : List Int), y = .int .i64 j ∧ j ≤ s.size + 1 ∧ Hid (Two w t (.slice (some ⟨b, off, none⟩) t.kids.length cap) (s.size + 1) wr Q2) ∧ Hid (IRow wr g3 R) ∧ Hid (PlOf (fun m => Img (s.size + 1) (TkA (txOf s) (t.kids.take i)) S m ∨ (m < j ∧ Img (s.size + 1) (Tk (txOf s) x) S m)) (s.size + 1) Q2)) (fun y _ => s.size + 1 - (intOf y).toNat)
      case atStart => exact ⟨0, Q, rfl, by omega, HT3, HR3, HQ.out.to fun m _ => ⟨fun h => .inl h, fun h => h.elim id (fun h => by omega)⟩⟩
      case round =>
        obtain ⟨j, Q2, rfl, hj, HT4, HR4, HQ4⟩ := hrel
        clear HT3 HR3
        have hQl := HQ4.out.len
        have hRl := HP3.out.len
        by_cases hje : j < s.size + 1
        · have hpi := HR4.out.cell j (by omega)
          have kc := HT4.out.out.cell j (by omega)
          have kf := HT4.out.out.fz j
          have hii : (j : Int) < (s.size : Int) + 1 := by omega
          rcases HP3.out.bit j (by omega) with ⟨e1, hSi⟩ | ⟨e0, hSn⟩
          · rw [e1] at hpi
            have HQ5 := (show Hid (PlOf (fun m => Img (s.size + 1) (TkA (txOf s) (t.kids.take i)) S m ∨ (m < j + 1 ∧ Img (s.size + 1) (Tk (txOf s) x) S m)) (s.size + 1) (Q2.set j 1)) from (HQ4.out.put j hje).to fun m _ => by
              constructor
              · rintro ((h | ⟨h1, h2⟩) | rfl)
                · exact .inl h
                · exact .inr ⟨by omega, h2⟩
                · exact .inr ⟨by omega, hSi⟩
              · rintro (h | ⟨h1, h2⟩)
                · exact .inl (.inl h)
                · by_cases e : m = j
                  · exact .inr e
                  · exact .inl (.inr ⟨by omega, h2⟩))
            clear HQ4
            go_wp2
            go_roundw
            case rel => exact ⟨j + 1, _, by go_num, by omega, HT4.out.put j 1, HR4.out.other (by omega) j _, HQ5⟩
            case measure => simp [intOf]; omega
          · rw [e0] at hpi
            have HQ5 := (show Hid (PlOf (fun m => Img (s.size + 1) (TkA (txOf s) (t.kids.take i)) S m ∨ (m < j + 1 ∧ Img (s.size + 1) (Tk (txOf s) x) S m)) (s.size + 1) Q2) from HQ4.out.to fun m _ => by
              constructor
              · rintro (h | ⟨h1, h2⟩)
                · exact .inl h
                · exact .inr ⟨by omega, h2⟩
              · rintro (h | ⟨h1, h2⟩)
                · exact .inl h
                · by_cases e : m = j
                  · subst e; exact absurd h2 hSn
                  · exact .inr ⟨by omega, h2⟩)
            clear HQ4
            go_wp2
            go_roundw
            case rel => exact ⟨j + 1, Q2, by go_num, by omega, HT4, HR4, HQ5⟩
            case measure => simp [intOf]; omega
        · have HQ5 := (show Hid _ from HNX.out Q2 (HQ4.out.to fun m hm => by
            constructor
            · rintro (h | ⟨h1, h2⟩)
              · exact .inl h
              · exact .inr ⟨hm, h2⟩
            · rintro (h | ⟨h1, h2⟩)
              · exact .inl h
              · exact .inr ⟨by omega, h2⟩))
          have hii : ¬ (j : Int) < (s.size : Int) + 1 := by omega
          clear HQ4 HNX
          go_wp2
          go_roundw
          case rel => exact ⟨i + 1, Q2, by go_num, by omega, HT4, HQ5⟩
          case measure => simp [intOf]; omega
    · have HQ2 := (show Hid (PlOf (Img (s.size + 1) (Tk (txOf s) t) S) (s.size + 1) Q) from HQ.out.to fun j hj => by
        rw [List.take_of_length_le (by omega)]
        exact ⟨fun ⟨k, h1, h2, h3⟩ => ⟨k, h1, h2, (HTK.out k j).2 h3⟩, fun ⟨k, h1, h2, h3⟩ => ⟨k, h1, h2, (HTK.out k j).1 h3⟩⟩)
      clear HQ
      go_wp2
      go_ret
      exact ⟨_, Q, rfl, Nat.le_succ _, HT.out.out, HQ2.out, hB⟩
end Go.Proofs.YthmecbonjkcnmaaGreat.nb
