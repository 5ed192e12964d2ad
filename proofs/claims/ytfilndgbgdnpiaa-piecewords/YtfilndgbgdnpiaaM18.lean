/-
  Texts put together: Contracts over this program: what an expression takes from some places on, as the document has it (fretsawref07's from): one byte of a set. Contracts over this program: fretsawref07's from: one behind the other, one beside the other.
-/
import Derived.Test.YtfilndgbgdnpiaaM10
import Derived.Test.YtfilndgbgdnpiaaM17
import Derived.Test.YtfilndgbgdnpiaaM01
import Derived.Test.YtfilndgbgdnpiaaM08
import Derived.BigQuiet
import Derived.Deep.QuietTactic
namespace Go.Proofs.Ytfilndgbgdnpiaa.nb
open Go.ChangeShapes Go.WideShapes Go.ChangeAt Go.RowKit
open st (Tr Q4 nodesOf goods okNode Is Box nthT)
open nf (Ed IRow icells dOf)
set_option linter.unusedVariables false

def txOf (s : ByteArray) : Tx := ⟨dOf s, s.size⟩
/-- places that are marked -/
structure PlOf (S : Nat → Prop) (n : Nat) (P : List Int) : Prop where
  len : P.length = n
  bit : ∀ i (h : i < P.length), (P[i] = 1 ∧ S i) ∨ (P[i] = 0 ∧ ¬ S i)
theorem PlOf.to {S R : Nat → Prop} {n : Nat} {P : List Int} (h : PlOf S n P) (k : ∀ i, i < n → (S i ↔ R i)) : PlOf R n P :=
  ⟨h.len, fun i hi => (h.bit i hi).imp (fun a => ⟨a.1, (k i (by have := h.len; omega)).1 a.2⟩) (fun a => ⟨a.1, fun b => a.2 ((k i (by have := h.len; omega)).2 b)⟩)⟩
theorem plOf_none (n : Nat) : PlOf (fun _ => False) n (List.replicate n 0) := ⟨by simp, fun i hi => .inr ⟨by simp, id⟩⟩
theorem PlOf.put {S : Nat → Prop} {n : Nat} {P : List Int} (h : PlOf S n P) (j : Nat) (hj : j < n) : PlOf (fun i => S i ∨ i = j) n (P.set j 1) := by
  refine ⟨by rw [List.length_set]; exact h.len, fun i hi => ?_⟩
  rw [List.length_set] at hi
  rw [List.getElem_set]
  by_cases e : j = i
  · rw [if_pos e]
    exact .inl ⟨rfl, .inr e.symm⟩
  · rw [if_neg e]
    exact (h.bit i hi).imp (fun a => ⟨a.1, .inl a.2⟩) (fun a => ⟨a.1, fun b => b.elim a.2 (fun c => e c.symm)⟩)
/-- where one comes to -/
def Img (n : Nat) (T : Nat → Nat → Prop) (S : Nat → Prop) (j : Nat) : Prop := ∃ i, i < n ∧ S i ∧ T i j
def FromIs (s : ByteArray) (t : Tr) : Prop := ∀ (S : Nat → Prop) (P : List Int) (g : Nat) (tv : Value) (w : World) (Q0 : Nat → Prop), PlOf S (s.size + 1) P → IRow w g P → Is w Q0 t tv →
  Calls Try.prog 37 #[trV t tv, .string s, .slice (some ⟨g, 0, none⟩) (s.size + 1) (s.size + 1)] w fun e w' => ∃ g' Q, e = .returned (.slice (some ⟨g', 0, none⟩) (s.size + 1) (s.size + 1)) ∧ w.heap.size ≤ g' ∧ IRow w' g' Q ∧ PlOf (Img (s.size + 1) (Tk (txOf s) t) S) (s.size + 1) Q ∧ Below w.heap.size w w'
theorem make79 (n : Nat) (hn : n ≤ 1000000) (W : World) : (Instr.makeSlice 79 (.int .i64 (n : Int)) (.int .i64 (n : Int))).run Try.prog W = .ok (.slice (some ⟨W.heap.size, 0, none⟩) n n) (W.alloc (.cells (icells (List.replicate n 0)) 3)) := by
  rw [← nf.icells_made]
  exact run_make_row' (P := Try.prog) 79 3 (.int .i64 0) 8 Try.underlying79 nf.info3 rfl .i64 .i64 n (by omega) (by omega) W
/-- the two blocks of a call: the tree, and what is marked -/
structure Two (w : World) (t : Tr) (tv : Value) (n : Nat) (W : World) (Q : List Int) : Prop where
  box : Box W w.heap.size t tv
  out : IRow W (w.heap.size + 1) Q
  be : Below w.heap.size w W
theorem two_new (w : World) (t : Tr) (tv : Value) (n : Nat) (W : World) (hW : W = (w.alloc (.cells #[.int .i64 t.kind, .int .u64 t.set.a, .int .u64 t.set.b, .int .u64 t.set.c, .int .u64 t.set.d, .int .i64 t.min, .int .i64 t.max, tv] 28)).alloc (.cells (icells (List.replicate n 0)) 3)) : Two w t tv n W (List.replicate n 0) := by
  subst hW
  exact ⟨heap_alloc2_old w _ _, heap_alloc2_new w _ _, ((Below.refl _ _).alloc (Nat.le_refl _) _).alloc (by simp) _⟩
theorem Two.later {w : World} {t : Tr} {tv : Value} {n : Nat} {W W' : World} {Q : List Int} (h : Two w t tv n W Q) (b : Below W.heap.size W W') : Two w t tv n W' Q := ⟨h.box.below b, h.out.later b, nf.chain h.be b⟩
theorem Two.put {w : World} {t : Tr} {tv : Value} {n : Nat} {W : World} {Q : List Int} (h : Two w t tv n W Q) (i : Nat) (x : Int) : Two w t tv n (W.setCell ⟨w.heap.size + 1, i, none⟩ (.int .i64 x)) (Q.set i x) :=
  ⟨(Below.heap_setCell _ _ _ _ (fun e => by have e2 : w.heap.size = w.heap.size + 1 := e; omega)).trans h.box, h.out.put i x, h.be.setCell (p := ⟨w.heap.size + 1, i, none⟩) (by show w.heap.size ≤ w.heap.size + 1; omega) _⟩
section
variable {op : Oper} {a : Act} {w : World}
theorem x_index79 {x y : Operand} {b n cap i : Nat} (h : op.op = .indexAddr 79 x y) (hx : a.eval x = .slice (some ⟨b, 0, none⟩) n cap) (hy : a.eval y = .int .i64 (i : Int)) (hi : i < n) : (execOp a.eval op).run Try.prog w = .ok (.value (.pointer (some ⟨b, i, none⟩))) w := by
  unfold execOp; rw [h]
  have hs : (sizeOf 3).run Try.prog w = .ok 1 w := by kernel_rfl
  have hb : (0 : Int) ≤ (i : Int) ∧ (i : Int) < (n : Int) := by omega
  simp only [Instr.indexAt, hx, hy, asIntOf, Sem.run_bind, Sem.run_pure, Result.andThen_ok, run_underlying Try.underlying79, hb, and_self, if_true, hs, Int.toNat_natCast, Addr.add_mid, Nat.mul_one, Nat.zero_add]
theorem x_load3 {x : Operand} {p : Addr} {v : Value} (h : op.op = .load 3 x) (hx : a.eval x = .pointer (some p)) (hc : w.cell? p = some v) : (execOp a.eval op).run Try.prog w = .ok (.value v) w := by
  unfold execOp; rw [h]; simp only [hx]; go_simp
theorem x_index9 {x y : Operand} {s : ByteArray} {i : Nat} (h : op.op = .index 9 x y) (hx : a.eval x = .string s) (hy : a.eval y = .int .i64 (i : Int)) (hi : i < s.size) : (execOp a.eval op).run Try.prog w = .ok (.value (.int .u8 (dOf s i : Nat))) w := by
  have h1 : (i : Int) < (s.size : Int) := by omega
  rw [nf.dOf_eq s i hi]
  unfold execOp; rw [h]; simp only [hx, hy]; go_simp
theorem x_load25 {x : Operand} {b off : Nat} {q : Q4} (h : op.op = .load 25 x) (hx : a.eval x = .pointer (some ⟨b, off, none⟩)) (h0 : w.cell? ⟨b, off, none⟩ = some (.int .u64 q.a)) (h1 : w.cell? ⟨b, off + 1, none⟩ = some (.int .u64 q.b)) (h2 : w.cell? ⟨b, off + 2, none⟩ = some (.int .u64 q.c)) (h3 : w.cell? ⟨b, off + 3, none⟩ = some (.int .u64 q.d)) : (execOp a.eval op).run Try.prog w = .ok (.value (.agg #[.int .u64 q.a, .int .u64 q.b, .int .u64 q.c, .int .u64 q.d])) w := by
  unfold execOp; rw [h]; simp only [hx]; go_simp
end
theorem yields_run {ops : Array Oper} {S : World → Prop} {op : Oper} {a : Act} (hw : Region.wanted op (yielded ops a.tmps) = true) {v : Value} (h : ∀ W, S W → (execOp a.eval op).run Try.prog W = .ok (.value v) W) : YieldsIf Try.prog ops S op v a := .inl ⟨hw, h⟩
/-- one place more is looked at -/
theorem one_yes {s : ByteArray} {q : Q4} {S : Nat → Prop} {i : Nat} (hS : S i) (hi : i < s.size) (hh : st.has q (dOf s i) = true) (j : Nat) : ((∃ k, k < i ∧ S k ∧ OvS (txOf s) q k j) ∨ j = i + 1) ↔ (∃ k, k < i + 1 ∧ S k ∧ OvS (txOf s) q k j) := by
  constructor
  · rintro (⟨k, h1, h2, h3⟩ | rfl)
    · exact ⟨k, by omega, h2, h3⟩
    · exact ⟨i, by omega, hS, hi, rfl, hh⟩
  · rintro ⟨k, h1, h2, h3⟩
    by_cases e : k = i
    · subst e
      exact .inr h3.2.1
    · exact .inl ⟨k, by omega, h2, h3⟩
theorem one_no {s : ByteArray} {q : Q4} {S : Nat → Prop} {i : Nat} (hn : ¬ (S i ∧ st.has q (dOf s i) = true)) (j : Nat) : (∃ k, k < i ∧ S k ∧ OvS (txOf s) q k j) ↔ (∃ k, k < i + 1 ∧ S k ∧ OvS (txOf s) q k j) := by
  constructor
  · rintro ⟨k, h1, h2, h3⟩
    exact ⟨k, by omega, h2, h3⟩
  · rintro ⟨k, h1, h2, h3⟩
    by_cases e : k = i
    · subst e
      exact absurd ⟨h2, h3.2.2⟩ hn
    · exact ⟨k, by omega, h2, h3⟩
theorem dOf_lt (s : ByteArray) (i : Nat) : dOf s i < 256 := by
  unfold nf.dOf
  split
  · exact UInt8.toNat_lt _
  · omega
def Kept (w1 : World) (W : World) : Prop := Below w1.heap.size w1 W
theorem Kept.drew {w1 W : World} (h : Kept w1 W) : Kept w1 W.drew := Below.drew h
set_option maxHeartbeats 4000000 in
set_option maxRecDepth 100000 in
theorem from1 (s : ByteArray) (hs : s.size ≤ 60) (t : Tr) (hk : t.kind = 1) (hf : st.Fits t.set) : FromIs s t := by
  intro S P g tv w Q0 hP hR hI
  obtain ⟨o, n0, cap0, rfl⟩ := hI.shape
  have hm : ∀ W, (Instr.makeSlice 79 (.int .i64 ((s.size : Int) + 1)) (.int .i64 ((s.size : Int) + 1))).run Try.prog W = .ok (.slice (some ⟨W.heap.size, 0, none⟩) (s.size + 1) (s.size + 1)) (W.alloc (.cells (icells (List.replicate (s.size + 1) 0)) 3)) := fun W => by
    have := make79 (s.size + 1) (by omega) W
    rw [Int.natCast_add] at this
    exact this
  obtain ⟨w2, HW2⟩ : ∃ w2, Hid (w2 = (w.alloc (.cells #[.int .i64 t.kind, .int .u64 t.set.a, .int .u64 t.set.b, .int .u64 t.set.c, .int .u64 t.set.d, .int .i64 t.min, .int .i64 t.max, .slice o n0 cap0] 28)).alloc (.cells (icells (List.replicate (s.size + 1) 0)) 3)) := ⟨_, rfl⟩
  have HT0 := (show Hid _ from two_new w t _ (s.size + 1) w2 HW2.out)
  have HTK := (show Hid (∀ i j, Tk (txOf s) t i j ↔ OvS (txOf s) t.set i j) from fun i j => by
    cases t with
    | node k q mn mx l =>
      simp only [Tr.kind] at hk
      rw [Tk, if_pos hk]
      rfl)
  have HPP := (show Hid (PlOf S (s.size + 1) P) from hP)
  have HRR := (show Hid (∀ W, Below w.heap.size w W → IRow W g P) from fun W h => hR.later h)
  have hgl : g < w.heap.size := hR.lt
  have hlen := hP.len
  clear hP hR hI
  unfold trV
  rw [hk] at HW2 ⊢
  go_enter Try.func37, Try.ntmps37
  go_wp2
  rw [← HW2.out]
  clear hm
  go_loopw [8] (fun x wr => ∃ (i : Nat) (Q : List Int), x = .int .i64 i ∧ i ≤ s.size ∧ Hid (Two w t (.slice o n0 cap0) (s.size + 1) wr Q) ∧ Hid (PlOf (fun j => ∃ k, k < i ∧ S k ∧ OvS (txOf s) t.set k j) (s.size + 1) Q)) (fun x _ => s.size - (intOf x).toNat)
  case atStart => exact ⟨0, _, rfl, by omega, HT0, (plOf_none _).to fun j _ => ⟨fun h => h.elim, fun ⟨k, h, _⟩ => by omega⟩⟩
  case round =>
    obtain ⟨i, Q, rfl, hi, HT, HQ⟩ := hrel
    clear HT0
    have hQl := HQ.out.len
    have hbx := HT.out.box
    by_cases hin : i < s.size
    · have hpr := HRR.out wr HT.out.be
      have hgr : g < wr.heap.size := hpr.lt
      have hbr : w.heap.size < wr.heap.size := (Array.getElem?_eq_some_iff.1 hbx).1
      have hb1 : wr.cell? ⟨w.heap.size, 1, none⟩ = some (.int .u64 t.set.a) := by rw [Lib.cell_of_heap hbx]; rfl
      have hb2 : wr.cell? ⟨w.heap.size, 1 + 1, none⟩ = some (.int .u64 t.set.b) := by rw [Lib.cell_of_heap hbx]; rfl
      have hb3 : wr.cell? ⟨w.heap.size, 1 + 2, none⟩ = some (.int .u64 t.set.c) := by rw [Lib.cell_of_heap hbx]; rfl
      have hb4 : wr.cell? ⟨w.heap.size, 1 + 3, none⟩ = some (.int .u64 t.set.d) := by rw [Lib.cell_of_heap hbx]; rfl
      have kR : Kept wr wr := Below.refl _ _
      have hpi := hpr.cell i (by omega)
      have hii : (i : Int) < (s.size : Int) := by omega
      have hi1 : (i : Int) < (s.size : Int) + 1 := by omega
      rcases HPP.out.bit i (by omega) with ⟨e1, hSi⟩ | ⟨e0, hSn⟩
      · rw [e1] at hpi
        have c57 := st.rhas_any t.set hf (dOf s i) (dOf_lt s i) _ rfl
        cases hh : st.has t.set (dOf s i)
        · rw [hh] at c57
          have HQ2 := (show Hid _ from HQ.out.to fun j _ => one_no (s := s) (q := t.set) (S := S) (i := i) (fun h => by rw [hh] at h; cases h.2) j)
          clear hh hpr hbx HQ
          go_wp2
          refine wp_region_held (S := Kept wr) (by kernel_rfl) ?_
          refine df.take_op (i := 0) 29 rfl rfl (yields_run rfl (v := .slice (some ⟨g, 0, none⟩) (s.size + 1) (s.size + 1)) (fun W h => by kernel_rfl)) (by kernel_rfl) (by kernel_rfl) (by kernel_rfl) (fun _ _ _ h => h) kR.drew ?_
          simp only [Act.put, List.setIfInBounds_toArray, List.set_cons_zero, List.set_cons_succ]
          refine df.take_op (i := 1) 30 rfl rfl (yields_run rfl (v := .int .i64 (i : Int)) (fun W h => by kernel_rfl)) (by kernel_rfl) (by kernel_rfl) (by kernel_rfl) (fun _ _ _ h => h) kR.drew ?_
          simp only [Act.put, List.setIfInBounds_toArray, List.set_cons_zero, List.set_cons_succ]
          refine df.take_op (i := 2) 31 rfl rfl (yields_run rfl (v := .pointer (some ⟨g, i, none⟩)) (fun W h => x_index79 (x := .tmp 29) (y := .tmp 30) rfl rfl rfl (by omega))) (by kernel_rfl) (by kernel_rfl) (by kernel_rfl) (fun _ _ _ h => h) kR.drew ?_
          simp only [Act.put, List.setIfInBounds_toArray, List.set_cons_zero, List.set_cons_succ]
          refine df.take_op (i := 3) 32 rfl rfl (yields_run rfl (v := .int .i64 1) (fun W h => x_load3 (x := .tmp 31) rfl rfl (by rw [Below.cell h hgr]; exact hpi))) (by kernel_rfl) (by kernel_rfl) (by kernel_rfl) (fun _ _ _ h => h) kR.drew ?_
          simp only [Act.put, List.setIfInBounds_toArray, List.set_cons_zero, List.set_cons_succ]
          refine df.take_op (i := 4) 33 rfl rfl (yields_run rfl (v := .bool true) (fun W h => by kernel_rfl)) (by kernel_rfl) (by kernel_rfl) (by kernel_rfl) (fun _ _ _ h => h) kR.drew ?_
          simp only [Act.put, List.setIfInBounds_toArray, List.set_cons_zero, List.set_cons_succ]
          refine df.take_op (i := 5) 34 rfl rfl (yields_run rfl (v := .bool true) (fun W h => by kernel_rfl)) (by kernel_rfl) (by kernel_rfl) (by kernel_rfl) (fun _ _ _ h => h) kR.drew ?_
          simp only [Act.put, List.setIfInBounds_toArray, List.set_cons_zero, List.set_cons_succ]
          refine df.take_op (i := 6) 35 rfl rfl (yields_run rfl (v := .pointer (some ⟨w.heap.size, 1, none⟩)) (fun W h => by kernel_rfl)) (by kernel_rfl) (by kernel_rfl) (by kernel_rfl) (fun _ _ _ h => h) kR.drew ?_
          simp only [Act.put, List.setIfInBounds_toArray, List.set_cons_zero, List.set_cons_succ]
          refine df.take_op (i := 7) 36 rfl rfl (yields_run rfl (v := .agg #[.int .u64 t.set.a, .int .u64 t.set.b, .int .u64 t.set.c, .int .u64 t.set.d]) (fun W h => x_load25 (x := .tmp 35) rfl rfl (by rw [Below.cell h hbr]; exact hb1) (by rw [Below.cell h hbr]; exact hb2) (by rw [Below.cell h hbr]; exact hb3) (by rw [Below.cell h hbr]; exact hb4))) (by kernel_rfl) (by kernel_rfl) (by kernel_rfl) (fun _ _ _ h => h) kR.drew ?_
          simp only [Act.put, List.setIfInBounds_toArray, List.set_cons_zero, List.set_cons_succ]
          refine df.take_op (i := 8) 37 rfl rfl (yields_run rfl (v := .string s) (fun W h => by kernel_rfl)) (by kernel_rfl) (by kernel_rfl) (by kernel_rfl) (fun _ _ _ h => h) kR.drew ?_
          simp only [Act.put, List.setIfInBounds_toArray, List.set_cons_zero, List.set_cons_succ]
          refine df.take_op (i := 9) 38 rfl rfl (yields_run rfl (v := .int .i64 (i : Int)) (fun W h => by kernel_rfl)) (by kernel_rfl) (by kernel_rfl) (by kernel_rfl) (fun _ _ _ h => h) kR.drew ?_
          simp only [Act.put, List.setIfInBounds_toArray, List.set_cons_zero, List.set_cons_succ]
          refine df.take_op (i := 10) 39 rfl rfl (yields_run rfl (v := .int .u8 (dOf s i : Nat)) (fun W h => x_index9 (x := .tmp 37) (y := .tmp 38) rfl rfl rfl hin)) (by kernel_rfl) (by kernel_rfl) (by kernel_rfl) (fun _ _ _ h => h) kR.drew ?_
          simp only [Act.put, List.setIfInBounds_toArray, List.set_cons_zero, List.set_cons_succ]
          refine df.call_op 11 40 (f := 57) (args := #[.agg #[.int .u64 t.set.a, .int .u64 t.set.b, .int .u64 t.set.c, .int .u64 t.set.d], .int .u8 (dOf s i : Nat)]) (by kernel_rfl) rfl rfl rfl (by kernel_rfl) ((c57 _).mono ?_)
          rintro e w5 ⟨rfl, b5⟩
          have k5 : Kept wr w5 := nf.chain kR.drew b5
          refine ⟨_, rfl, k5, ?_⟩
          simp only [Act.put, List.setIfInBounds_toArray, List.set_cons_zero, List.set_cons_succ]
          refine df.take_op (i := 12) 41 rfl rfl (yields_run rfl (v := .bool false) (fun W h => by kernel_rfl)) (by kernel_rfl) (by kernel_rfl) (by kernel_rfl) (fun _ _ _ h => h) k5 ?_
          simp only [Act.put, List.setIfInBounds_toArray, List.set_cons_zero, List.set_cons_succ]
          refine df.done_op (by kernel_rfl) ?_
          clear hb1 hb2 hb3 hb4 hpi c57
          go_wp2
          go_roundw
          case rel => exact ⟨i + 1, Q, by go_num, by omega, HT.out.later k5, HQ2⟩
          case measure => simp [intOf]; omega
        · rw [hh] at c57
          have HQ2 := (show Hid _ from (HQ.out.put (i + 1) (by omega)).to fun j _ => one_yes (s := s) (q := t.set) hSi hin hh j)
          clear hh hpr hbx HQ
          go_wp2
          refine wp_region_held (S := Kept wr) (by kernel_rfl) ?_
          refine df.take_op (i := 0) 29 rfl rfl (yields_run rfl (v := .slice (some ⟨g, 0, none⟩) (s.size + 1) (s.size + 1)) (fun W h => by kernel_rfl)) (by kernel_rfl) (by kernel_rfl) (by kernel_rfl) (fun _ _ _ h => h) kR.drew ?_
          simp only [Act.put, List.setIfInBounds_toArray, List.set_cons_zero, List.set_cons_succ]
          refine df.take_op (i := 1) 30 rfl rfl (yields_run rfl (v := .int .i64 (i : Int)) (fun W h => by kernel_rfl)) (by kernel_rfl) (by kernel_rfl) (by kernel_rfl) (fun _ _ _ h => h) kR.drew ?_
          simp only [Act.put, List.setIfInBounds_toArray, List.set_cons_zero, List.set_cons_succ]
          refine df.take_op (i := 2) 31 rfl rfl (yields_run rfl (v := .pointer (some ⟨g, i, none⟩)) (fun W h => x_index79 (x := .tmp 29) (y := .tmp 30) rfl rfl rfl (by omega))) (by kernel_rfl) (by kernel_rfl) (by kernel_rfl) (fun _ _ _ h => h) kR.drew ?_
          simp only [Act.put, List.setIfInBounds_toArray, List.set_cons_zero, List.set_cons_succ]
          refine df.take_op (i := 3) 32 rfl rfl (yields_run rfl (v := .int .i64 1) (fun W h => x_load3 (x := .tmp 31) rfl rfl (by rw [Below.cell h hgr]; exact hpi))) (by kernel_rfl) (by kernel_rfl) (by kernel_rfl) (fun _ _ _ h => h) kR.drew ?_
          simp only [Act.put, List.setIfInBounds_toArray, List.set_cons_zero, List.set_cons_succ]
          refine df.take_op (i := 4) 33 rfl rfl (yields_run rfl (v := .bool true) (fun W h => by kernel_rfl)) (by kernel_rfl) (by kernel_rfl) (by kernel_rfl) (fun _ _ _ h => h) kR.drew ?_
          simp only [Act.put, List.setIfInBounds_toArray, List.set_cons_zero, List.set_cons_succ]
          refine df.take_op (i := 5) 34 rfl rfl (yields_run rfl (v := .bool true) (fun W h => by kernel_rfl)) (by kernel_rfl) (by kernel_rfl) (by kernel_rfl) (fun _ _ _ h => h) kR.drew ?_
          simp only [Act.put, List.setIfInBounds_toArray, List.set_cons_zero, List.set_cons_succ]
          refine df.take_op (i := 6) 35 rfl rfl (yields_run rfl (v := .pointer (some ⟨w.heap.size, 1, none⟩)) (fun W h => by kernel_rfl)) (by kernel_rfl) (by kernel_rfl) (by kernel_rfl) (fun _ _ _ h => h) kR.drew ?_
          simp only [Act.put, List.setIfInBounds_toArray, List.set_cons_zero, List.set_cons_succ]
          refine df.take_op (i := 7) 36 rfl rfl (yields_run rfl (v := .agg #[.int .u64 t.set.a, .int .u64 t.set.b, .int .u64 t.set.c, .int .u64 t.set.d]) (fun W h => x_load25 (x := .tmp 35) rfl rfl (by rw [Below.cell h hbr]; exact hb1) (by rw [Below.cell h hbr]; exact hb2) (by rw [Below.cell h hbr]; exact hb3) (by rw [Below.cell h hbr]; exact hb4))) (by kernel_rfl) (by kernel_rfl) (by kernel_rfl) (fun _ _ _ h => h) kR.drew ?_
          simp only [Act.put, List.setIfInBounds_toArray, List.set_cons_zero, List.set_cons_succ]
          refine df.take_op (i := 8) 37 rfl rfl (yields_run rfl (v := .string s) (fun W h => by kernel_rfl)) (by kernel_rfl) (by kernel_rfl) (by kernel_rfl) (fun _ _ _ h => h) kR.drew ?_
          simp only [Act.put, List.setIfInBounds_toArray, List.set_cons_zero, List.set_cons_succ]
          refine df.take_op (i := 9) 38 rfl rfl (yields_run rfl (v := .int .i64 (i : Int)) (fun W h => by kernel_rfl)) (by kernel_rfl) (by kernel_rfl) (by kernel_rfl) (fun _ _ _ h => h) kR.drew ?_
          simp only [Act.put, List.setIfInBounds_toArray, List.set_cons_zero, List.set_cons_succ]
          refine df.take_op (i := 10) 39 rfl rfl (yields_run rfl (v := .int .u8 (dOf s i : Nat)) (fun W h => x_index9 (x := .tmp 37) (y := .tmp 38) rfl rfl rfl hin)) (by kernel_rfl) (by kernel_rfl) (by kernel_rfl) (fun _ _ _ h => h) kR.drew ?_
          simp only [Act.put, List.setIfInBounds_toArray, List.set_cons_zero, List.set_cons_succ]
          refine df.call_op 11 40 (f := 57) (args := #[.agg #[.int .u64 t.set.a, .int .u64 t.set.b, .int .u64 t.set.c, .int .u64 t.set.d], .int .u8 (dOf s i : Nat)]) (by kernel_rfl) rfl rfl rfl (by kernel_rfl) ((c57 _).mono ?_)
          rintro e w5 ⟨rfl, b5⟩
          have k5 : Kept wr w5 := nf.chain kR.drew b5
          refine ⟨_, rfl, k5, ?_⟩
          simp only [Act.put, List.setIfInBounds_toArray, List.set_cons_zero, List.set_cons_succ]
          refine df.take_op (i := 12) 41 rfl rfl (yields_run rfl (v := .bool true) (fun W h => by kernel_rfl)) (by kernel_rfl) (by kernel_rfl) (by kernel_rfl) (fun _ _ _ h => h) k5 ?_
          simp only [Act.put, List.setIfInBounds_toArray, List.set_cons_zero, List.set_cons_succ]
          refine df.done_op (by kernel_rfl) ?_
          clear hb1 hb2 hb3 hb4 hpi c57
          have HT5 := (show Hid _ from HT.out.later k5)
          have kc := HT5.out.out.cell (i + 1) (by omega)
          have kf := HT5.out.out.fz (i + 1)
          have hi2 : (i : Int) + 1 < (s.size : Int) + 1 := by omega
          go_wp2
          go_roundw
          case rel => exact ⟨i + 1, _, by go_num, by omega, HT5.out.put (i + 1) 1, HQ2⟩
          case measure => simp [intOf]; omega
      · rw [e0] at hpi
        have HQ2 := (show Hid _ from HQ.out.to fun j _ => one_no (s := s) (q := t.set) (S := S) (i := i) (fun h => hSn h.1) j)
        clear hpr hbx HQ hb1 hb2 hb3 hb4
        go_wp2
        go_quiet (fail)
        go_wp2
        go_roundw
        case rel => exact ⟨i + 1, Q, by go_num, by omega, HT.out.later ⟨rfl, rfl, rfl, Nat.le_refl _, fun _ _ => rfl⟩, HQ2⟩
        case measure => simp [intOf]; omega
    · have HQ2 := (show Hid (PlOf (Img (s.size + 1) (Tk (txOf s) t) S) (s.size + 1) Q) from HQ.out.to fun j hj => by
        constructor
        · rintro ⟨k, h1, h2, h3⟩
          exact ⟨k, by omega, h2, (HTK.out k j).2 h3⟩
        · rintro ⟨k, h1, h2, h3⟩
          have h4 := (HTK.out k j).1 h3
          have h5 : k < s.size := h4.1
          exact ⟨k, by omega, h2, h4⟩)
      have hii : ¬ (i : Int) < (s.size : Int) := by omega
      clear hbx
      go_wp2
      go_ret
      exact ⟨_, rfl, Nat.le_succ _, Q, HT.out.out, HQ2.out, HT.out.be⟩
end Go.Proofs.Ytfilndgbgdnpiaa.nb

namespace Go.Proofs.Ytfilndgbgdnpiaa.nb
open Go.ChangeShapes Go.WideShapes Go.ChangeAt Go.RowKit
open st (Tr Q4 nodesOf goods okNode Is Box nthT)
open nf (Ed IRow icells dOf)
set_option linter.unusedVariables false

theorem PlOf.put0 {S : Nat → Prop} {n : Nat} {P : List Int} (h : PlOf S n P) (j : Nat) (hj : ¬ S j) : PlOf S n (P.set j 0) := by
  refine ⟨by rw [List.length_set]; exact h.len, fun i hi => ?_⟩
  rw [List.length_set] at hi
  rw [List.getElem_set]
  by_cases e : j = i
  · rw [if_pos e]
    exact .inr ⟨rfl, by rw [← e]; exact hj⟩
  · rw [if_neg e]
    exact h.bit i hi
theorem tkC_snoc (x : Tx) : ∀ (l : List Tr) (t : Tr) (a b : Nat), TkC x (l ++ [t]) a b ↔ Sq (TkC x l) (Tk x t) a b
  | [], t, a, b => by
    show TkC x [t] a b ↔ _
    rw [TkC]
    constructor
    · rintro ⟨k, h1, h2⟩
      rw [TkC] at h2
      subst h2
      exact ⟨a, by rw [TkC], h1⟩
    · rintro ⟨k, h1, h2⟩
      rw [TkC] at h1
      subst h1
      exact ⟨b, h2, by rw [TkC]⟩
  | u :: l, t, a, b => by
    show TkC x (u :: (l ++ [t])) a b ↔ _
    rw [TkC]
    constructor
    · rintro ⟨k, h1, h2⟩
      obtain ⟨c, h3, h4⟩ := (tkC_snoc x l t k b).1 h2
      exact ⟨c, by rw [TkC]; exact ⟨k, h1, h3⟩, h4⟩
    · rintro ⟨c, h1, h2⟩
      rw [TkC] at h1
      obtain ⟨k, h3, h4⟩ := h1
      exact ⟨k, h3, (tkC_snoc x l t k b).2 ⟨c, h4, h2⟩⟩
theorem tkA_snoc (x : Tx) : ∀ (l : List Tr) (t : Tr) (a b : Nat), TkA x (l ++ [t]) a b ↔ TkA x l a b ∨ Tk x t a b
  | [], t, a, b => by
    show TkA x [t] a b ↔ _
    rw [TkA, TkA, TkA]
    exact or_comm
  | u :: l, t, a, b => by
    show TkA x (u :: (l ++ [t])) a b ↔ _
    rw [TkA, TkA, tkA_snoc x l t a b, or_assoc]
theorem img_seq (s : ByteArray) (l : List Tr) (t : Tr) (S : Nat → Prop) (j : Nat) : Img (s.size + 1) (Tk (txOf s) t) (Img (s.size + 1) (TkC (txOf s) l) S) j ↔ Img (s.size + 1) (TkC (txOf s) (l ++ [t])) S j := by
  constructor
  · rintro ⟨c, h1, ⟨a, h2, h3, h4⟩, h5⟩
    exact ⟨a, h2, h3, (tkC_snoc _ l t a j).2 ⟨c, h4, h5⟩⟩
  · rintro ⟨a, h2, h3, h4⟩
    obtain ⟨c, h5, h6⟩ := (tkC_snoc _ l t a j).1 h4
    have hr := (tkC_range (txOf s) l a c h5).2 (by show a ≤ s.size; omega)
    have hr' : c ≤ s.size := hr
    exact ⟨c, by omega, ⟨a, h2, h3, h5⟩, h6⟩
theorem below_of {w W : World} {n : Nat} (h : Below w.heap.size w W) : w.heap.size ≤ W.heap.size := h.size
set_option maxHeartbeats 4000000 in
set_option maxRecDepth 100000 in
theorem from2 (s : ByteArray) (hs : s.size ≤ 60) (t : Tr) (hk : t.kind = 2) (hkids : ∀ i, i < t.kids.length → FromIs s (nthT t.kids i)) : FromIs s t := by
  intro S P g tv w Q0 hP hR hI
  obtain ⟨o, cap, b, off, vs, rfl, hcap, hki⟩ := hI.form
  have hll : t.kids.length ≤ 9223372036854775807 := by
    by_cases h0 : 0 < t.kids.length
    · have := (hki 0 h0).2.1; omega
    · omega
  have hm : ∀ W, (Instr.makeSlice 79 (.int .i64 ((s.size : Int) + 1)) (.int .i64 ((s.size : Int) + 1))).run Try.prog W = .ok (.slice (some ⟨W.heap.size, 0, none⟩) (s.size + 1) (s.size + 1)) (W.alloc (.cells (icells (List.replicate (s.size + 1) 0)) 3)) := fun W => by
    have := make79 (s.size + 1) (by omega) W
    rw [Int.natCast_add] at this
    exact this
  obtain ⟨w2, HW2⟩ : ∃ w2, Hid (w2 = (w.alloc (.cells #[.int .i64 t.kind, .int .u64 t.set.a, .int .u64 t.set.b, .int .u64 t.set.c, .int .u64 t.set.d, .int .i64 t.min, .int .i64 t.max, .slice o t.kids.length cap] 28)).alloc (.cells (icells (List.replicate (s.size + 1) 0)) 3)) := ⟨_, rfl⟩
  have HT0 := (show Hid _ from two_new w t _ (s.size + 1) w2 HW2.out)
  have HTK := (show Hid (∀ i j, Tk (txOf s) t i j ↔ TkC (txOf s) t.kids i j) from fun i j => by
    cases t with
    | node k q mn mx l =>
      simp only [Tr.kind] at hk
      rw [Tk, if_neg (by omega), if_pos hk]
      rfl)
  have HPP := (show Hid (PlOf S (s.size + 1) P) from hP)
  have HRR := (show Hid (∀ W, Below w.heap.size w W → IRow W g P) from fun W h => hR.later h)
  have HKI := (show Hid _ from hki)
  have HKD := (show Hid _ from hkids)
  have hlen := hP.len
  clear hP hR hI hki hkids
  unfold trV
  rw [hk] at HW2 ⊢
  go_enter Try.func37, Try.ntmps37
  go_wp2
  rw [← HW2.out]
  clear hm
  go_loopw [50] (fun x wr => ∃ (i : Nat) (Q : List Int), x = .int .i64 i ∧ i ≤ s.size + 1 ∧ Hid (Two w t (.slice o t.kids.length cap) (s.size + 1) wr Q) ∧ Hid (PlOf (fun j => j < i ∧ S j) (s.size + 1) Q)) (fun x _ => s.size + 1 - (intOf x).toNat)
  case atStart => exact ⟨0, _, rfl, by omega, HT0, (plOf_none _).to fun j _ => ⟨fun h => h.elim, fun h => by omega⟩⟩
  case round =>
    obtain ⟨i, Q, rfl, hi, HT, HQ⟩ := hrel
    clear HT0
    have hQl := HQ.out.len
    by_cases hin : i < s.size + 1
    · have hpr := HRR.out wr HT.out.be
      have hpi := hpr.cell i (by omega)
      have kc := HT.out.out.cell i (by omega)
      have kf := HT.out.out.fz i
      have hii : (i : Int) < (s.size : Int) + 1 := by omega
      rcases HPP.out.bit i (by omega) with ⟨e1, hSi⟩ | ⟨e0, hSn⟩
      · rw [e1] at hpi
        have HQ2 := (show Hid (PlOf (fun j => j < i + 1 ∧ S j) (s.size + 1) (Q.set i 1)) from (HQ.out.put i hin).to fun j _ => by
          constructor
          · rintro (⟨h1, h2⟩ | rfl)
            · exact ⟨by omega, h2⟩
            · exact ⟨by omega, hSi⟩
          · rintro ⟨h1, h2⟩
            by_cases e : j = i
            · exact .inr e
            · exact .inl ⟨by omega, h2⟩)
        clear hpr HQ
        go_wp2
        go_roundw
        case rel => exact ⟨i + 1, _, by go_num, by omega, HT.out.put i 1, HQ2⟩
        case measure => simp [intOf]; omega
      · rw [e0] at hpi
        have HQ2 := (show Hid (PlOf (fun j => j < i + 1 ∧ S j) (s.size + 1) (Q.set i 0)) from (HQ.out.put0 i (fun h => by omega)).to fun j _ => by
          constructor
          · rintro ⟨h1, h2⟩
            exact ⟨by omega, h2⟩
          · rintro ⟨h1, h2⟩
            by_cases e : j = i
            · subst e; exact absurd h2 hSn
            · exact ⟨by omega, h2⟩)
        clear hpr HQ
        go_wp2
        go_roundw
        case rel => exact ⟨i + 1, _, by go_num, by omega, HT.out.put i 0, HQ2⟩
        case measure => simp [intOf]; omega
    · have hbx := HT.out.box
      have hb7 : wr.cell? ⟨w.heap.size, 7, none⟩ = some (.slice o t.kids.length cap) := by rw [Lib.cell_of_heap hbx]; rfl
      have HQ0 := (show Hid (PlOf (Img (s.size + 1) (TkC (txOf s) (t.kids.take 0)) S) (s.size + 1) Q) from HQ.out.to fun j hj => by
        rw [List.take_zero]
        constructor
        · rintro ⟨h1, h2⟩
          exact ⟨j, hj, h2, by rw [TkC]⟩
        · rintro ⟨k, h1, h2, h3⟩
          rw [TkC] at h3
          subst h3
          exact ⟨by omega, h2⟩)
      have hii : ¬ (i : Int) < (s.size : Int) + 1 := by omega
      have HO := (show Hid _ from HT.out.out)
      have HB := (show Hid _ from HT.out.be)
      clear hbx HQ HT
      go_wp2
      go_loopw [7, 64] (fun u x wr => ∃ (i g' : Nat) (Q : List Int), u = .slice (some ⟨g', 0, none⟩) (s.size + 1) (s.size + 1) ∧ x = .int .i64 i ∧ i ≤ t.kids.length ∧ w.heap.size ≤ g' ∧ Hid (IRow wr g' Q) ∧ Hid (PlOf (Img (s.size + 1) (TkC (txOf s) (t.kids.take i)) S) (s.size + 1) Q) ∧ Below w.heap.size w wr) (fun _ x _ => t.kids.length - (intOf x).toNat)
      case atStart => exact ⟨0, _, Q, rfl, rfl, by omega, by omega, HO, HQ0, HB.out⟩
      case round =>
        clear HO HB HQ0 hb7
        obtain ⟨i2, g', Q2, rfl, rfl, hi2, hg', HIR, HPQ, hB⟩ := hrel
        by_cases hend : i2 < t.kids.length
        · obtain ⟨rfl, hcm, hb, hne, hcells, hkid⟩ := HKI.out i2 hend
          have hcells2 := hcells.same (hB.block b hb)
          have hkid2 := hkid.later hB
          obtain ⟨o2, n2, cap2, hv2⟩ := hkid.shape
          rw [hv2] at hcells2 hkid2
          obtain ⟨k0, k1, k2, k3, k4, k5, k6, k7⟩ := hcells2
          have hcall := HKD.out i2 hend
          have HNX := (show Hid (∀ Q3, PlOf (Img (s.size + 1) (Tk (txOf s) (nthT t.kids i2)) (Img (s.size + 1) (TkC (txOf s) (t.kids.take i2)) S)) (s.size + 1) Q3 → PlOf (Img (s.size + 1) (TkC (txOf s) (t.kids.take (i2 + 1))) S) (s.size + 1) Q3) from fun Q3 h => h.to fun j _ => by rw [st.take_nthT t.kids i2 hend]; exact img_seq s _ _ S j)
          clear hcells hkid hv2
          generalize nthT t.kids i2 = x at *
          have hbig : Below wr.heap.size wr (wr.alloc (.cells #[.int .i64 x.kind, .int .u64 x.set.a, .int .u64 x.set.b, .int .u64 x.set.c, .int .u64 x.set.d, .int .i64 x.min, .int .i64 x.max, .slice o2 n2 cap2] 28)) := nf.below_alloc _ _
          have c37 := hcall _ Q2 g' _ _ _ HPQ.out (HIR.out.later hbig) (hkid2.later hbig)
          go_wp2_with (go_at_call 37; refine c37.mono ?_; rintro e w3 ⟨g3, Q3, rfl, hg3, hr3, hp3, b3⟩; have HR3 := (show Hid (IRow w3 g3 Q3) from hr3); have HP3 := (show Hid _ from HNX.out Q3 hp3); clear hr3 hp3)
          go_roundw
          case rel => exact ⟨i2 + 1, g3, Q3, rfl, by go_num, by omega, by have := hbig.size; have := hB.size; omega, HR3, HP3, nf.chain hB (nf.chain hbig b3)⟩
          case measure => simp [intOf]; omega
        · have HQ2 := (show Hid (PlOf (Img (s.size + 1) (Tk (txOf s) t) S) (s.size + 1) Q2) from HPQ.out.to fun j hj => by
            rw [List.take_of_length_le (by omega)]
            exact ⟨fun ⟨k, h1, h2, h3⟩ => ⟨k, h1, h2, (HTK.out k j).2 h3⟩, fun ⟨k, h1, h2, h3⟩ => ⟨k, h1, h2, (HTK.out k j).1 h3⟩⟩)
          clear HPQ
          go_wp2
          go_ret
          exact ⟨_, Q2, rfl, hg', HIR.out, HQ2.out, hB⟩
end Go.Proofs.Ytfilndgbgdnpiaa.nb
