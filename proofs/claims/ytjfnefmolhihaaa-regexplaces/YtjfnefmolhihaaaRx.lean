/-
  Contracts over this program: the whole of a text (regex.whole), the deferred recover (regex.read's closure).
-/
import Derived.Test.YtjfnefmolhihaaaRw
import Derived.Defers
import Derived.Recover
namespace Go.Proofs.Ytjfnefmolhihaaa.st
open Go.Sort Go.ChangeShapes Go.WideShapes Go.ChangeAt Go.RowKit
set_option linter.unusedVariables false

theorem assert_yes (x y : Int) (W : World) : (Instr.typeAssert (.iface 39 (.agg #[.int .i64 x, .int .i64 y])) 20 39 true).run Try.prog W = .ok (.tuple #[.agg #[.int .i64 x, .int .i64 y], .bool true]) W := by kernel_rfl
theorem assert_no (W : World) : (Instr.typeAssert .nilIface 20 39 true).run Try.prog W = .ok (.tuple #[.agg #[.int .i64 0, .int .i64 0], .bool false]) W := by kernel_rfl

set_option maxHeartbeats 2000000 in
set_option maxRecDepth 100000 in
theorem catch_panicking (p : Nat) (er q : Nat) (w : World) (c0 : w.cell? ⟨p, 0, none⟩ = some (.int .i64 0)) (c1 : w.cell? ⟨p, 1, none⟩ = some (.int .i64 0)) (f0 : w.frozen? ⟨p, 0, none⟩ = false) (f1 : w.frozen? ⟨p, 1, none⟩ = false) (hp : p < w.heap.size) :
    CallsD Try.prog 21 #[.pointer (some ⟨p, 0, none⟩)] (.panicking ({ v := .iface 39 (.agg #[.int .i64 er, .int .i64 q]), recovered := false } :: [])) w fun e u' w' =>
      e = .returned (.tuple #[]) ∧ u' = .panicking ({ v := .iface 39 (.agg #[.int .i64 er, .int .i64 q]), recovered := true } :: []) ∧ ∃ o, w' = ((w.setCell ⟨p, 0, none⟩ (.int .i64 er)).setCell ⟨p, 1, none⟩ (.int .i64 q)).alloc o := by
  have hta := assert_yes er q
  refine callsD_of_wpS Try.func21 rfl fun c₀ cs hu => ?_
  apply wpS_seq
  apply wpS_region
  simp [wpOpsS, go_sem, recoverD, hu, Try.ntmps21, Exit.thenS]
  refine wpS_of_wp ?_
  have e1 : ∀ (a b : Value), #[a] ++ ((Array.replicate 14 undef).setIfInBounds 3 b).setIfInBounds 0 b = #[a, b, undef, undef, b, undef, undef, undef, undef, undef, undef, undef, undef, undef, undef] := fun a b => rfl
  rw [e1]
  go_wp2
  simp [bodyPostS, results, Try.results21]
  exact ⟨_, rfl⟩

set_option maxHeartbeats 2000000 in
set_option maxRecDepth 100000 in
theorem catch_idle (p : Nat) (w : World) : CallsD Try.prog 21 #[.pointer (some ⟨p, 0, none⟩)] .returning w fun e u' w' => e = .returned (.tuple #[]) ∧ u' = .returning ∧ ∃ o, w' = w.alloc o := by
  have hta := assert_no
  refine callsD_of_wpS Try.func21 rfl fun c₀ cs hu => ?_
  apply wpS_seq
  apply wpS_region
  simp [wpOpsS, go_sem, recoverD, hu, Try.ntmps21, Exit.thenS]
  refine wpS_of_wp ?_
  have e1 : ∀ (a b : Value), #[a] ++ ((Array.replicate 14 undef).setIfInBounds 3 b).setIfInBounds 0 b = #[a, b, undef, undef, b, undef, undef, undef, undef, undef, undef, undef, undef, undef, undef] := fun a b => rfl
  rw [e1]
  go_wp2
  cases c₀
  simp_all [bodyPostS, results, Try.results21]
  exact ⟨_, rfl⟩

/-- the whole of a text, as pure reading tells -/
def WholeOk (s : ByteArray) (t : Tr) : Prop := ∀ w, Calls Try.prog 22 #[.string s] w fun e w' => ∃ v, e = .returned (.agg #[.int .i64 t.kind, .int .u64 t.set.a, .int .u64 t.set.b, .int .u64 t.set.c, .int .u64 t.set.d, .int .i64 t.min, .int .i64 t.max, v]) ∧ Is w' (fun b => w.heap.size ≤ b) t v ∧ RowKit.Below w.heap.size w w'
def WholeBad (s : ByteArray) (er q : Nat) : Prop := ∀ w, Calls Try.prog 22 #[.string s] w fun e w' => e = .panicked [{ v := .iface 39 (.agg #[.int .i64 er, .int .i64 q]), recovered := false }] ∧ RowKit.Below w.heap.size w w'

theorem whole_long (s : ByteArray) (hs : 512 < s.size) (hm : s.size ≤ 9223372036854775807) : WholeBad s 2 0 := by
  intro w
  go_enter Try.func22, Try.ntmps22
  go_wp2_with (fail)
  exact ⟨rfl, rfl, below_alloc _ _⟩

theorem rd_new (w : World) (o : Obj) (s : ByteArray) : Rd ((w.alloc o).alloc (.cells #[.string s, .int .i64 0, .int .i64 0] 56)) (w.heap.size + 1) s 0 0 := heap_alloc2_new w _ _
theorem below2 (w : World) (o o' : Obj) : RowKit.Below w.heap.size w ((w.alloc o).alloc o') := (below_alloc w o).trans ((below_alloc _ _).mono (below_alloc w o).size)

theorem whole_wrong (s : ByteArray) (hs : s.size ≤ 512) (er q : Nat) (h28 : BadT 28 s 0 0 er q) : WholeBad s er q := by
  intro w
  go_enter Try.func22, Try.ntmps22
  go_wp2_with (go_at_call 28; refine (h28 _ _ (rd_new _ _ _)).mono ?_; rintro e w1 ⟨rfl, t1⟩)
  exact ⟨rfl, rfl, below_over (below2 _ _ _) t1 (by omega)⟩

set_option maxHeartbeats 1000000 in
set_option maxRecDepth 100000 in
theorem whole_rest (s : ByteArray) (hs : s.size ≤ 512) (t : Tr) (q : Nat) (hq : q < s.size) (h28 : OkT 28 s 0 0 t q) : WholeBad s 60 q := by
  intro w
  have h29 := wrong_any q
  go_enter Try.func22, Try.ntmps22
  go_wp2_with (first | (go_at_call 28; refine (h28 _ _ (rd_new _ _ _)).mono ?_; rintro e w1 ⟨v, rfl, i1, r1, t1⟩; obtain ⟨va, vn, vc, rfl⟩ := i1.shape; have r1' := r1.later (below_alloc w1 (.cells #[.int .i64 t.kind, .int .u64 t.set.a, .int .u64 t.set.b, .int .u64 t.set.c, .int .u64 t.set.d, .int .i64 t.min, .int .i64 t.max, .slice va vn vc] 28)); have c1 := r1'.c1) | (go_at_call 29; refine (h29 _ _).mono ?_; rintro e w2 ⟨rfl, rfl⟩))
  exact ⟨rfl, rfl, (below_over (below2 _ _ _) t1 (by omega)).alloc (below_over (below2 w _ _) t1 (by omega)).size _⟩

set_option maxHeartbeats 1000000 in
set_option maxRecDepth 100000 in
theorem whole_deep (s : ByteArray) (hs : s.size ≤ 512) (t : Tr) (hd : ¬ t.depth ≤ 30) (h28 : OkT 28 s 0 0 t s.size) : WholeBad s 2 0 := by
  intro w
  have h16 := fits_any t.depth t 30 9223372036854775807 false _ (Nat.le_refl _) (by decide) (by decide) (by symm; simp; omega) rfl
  go_enter Try.func22, Try.ntmps22
  go_wp2_with (first | (go_at_call 28; refine (h28 _ _ (rd_new _ _ _)).mono ?_; rintro e w1 ⟨v, rfl, i1, r1, t1⟩; obtain ⟨va, vn, vc, rfl⟩ := i1.shape; have r1' := r1.later (below_alloc w1 (.cells #[.int .i64 t.kind, .int .u64 t.set.a, .int .u64 t.set.b, .int .u64 t.set.c, .int .u64 t.set.d, .int .i64 t.min, .int .i64 t.max, .slice va vn vc] 28)); have c1 := r1'.c1; have q1 := (box_new w1 t (.slice va vn vc)).below (below_alloc _ (.cells #[.int .i64 9223372036854775807] 3)); obtain ⟨⟨x0, x1, x2, x3, x4, x5, x6, x7⟩, _⟩ := b8 q1; have i2 := i1.fresh (below2 w1 (.cells #[.int .i64 t.kind, .int .u64 t.set.a, .int .u64 t.set.b, .int .u64 t.set.c, .int .u64 t.set.d, .int .i64 t.min, .int .i64 t.max, .slice va vn vc] 28) (.cells #[.int .i64 9223372036854775807] 3)) (w1.heap.size + 1) (by omega); have o2 : One ((w1.alloc (.cells #[.int .i64 t.kind, .int .u64 t.set.a, .int .u64 t.set.b, .int .u64 t.set.c, .int .u64 t.set.d, .int .i64 t.min, .int .i64 t.max, .slice va vn vc] 28)).alloc (.cells #[.int .i64 9223372036854775807] 3)) (w1.heap.size + 1) (9223372036854775807 : Nat) := heap_alloc2_new w1 _ _) | (go_at_call 16; refine (h16 _ _ _ i2 o2).mono ?_; rintro e w3 ⟨rfl, _, t3⟩))
  exact ⟨rfl, rfl, below_over (Below.trans (below_over (below2 w _ _) t1 (by omega)) ((below2 w1 _ _).mono (below_over (below2 w _ _) t1 (by omega)).size)) t3 (by have := (below_over (below2 w _ _) t1 (by omega)).size; omega)⟩

set_option maxHeartbeats 1000000 in
set_option maxRecDepth 100000 in
theorem whole_ok (s : ByteArray) (hs : s.size ≤ 512) (t : Tr) (hd : t.depth ≤ 30) (hn : t.nodes ≤ 9223372036854775807) (h28 : OkT 28 s 0 0 t s.size) : WholeOk s t := by
  intro w
  have h16 := fits_any t.depth t 30 9223372036854775807 true _ (Nat.le_refl _) (by decide) (by decide) (by simp [hd, hn]) rfl
  have z0 := box_new w Tr.zero (.slice none 0 0)
  go_enter Try.func22, Try.ntmps22
  go_wp2_with (first | (go_at_call 28; refine (h28 _ _ (rd_new _ _ _)).mono ?_; rintro e w1 ⟨v, rfl, i1, r1, t1⟩; obtain ⟨va, vn, vc, rfl⟩ := i1.shape; have r1' := r1.later (below_alloc w1 (.cells #[.int .i64 t.kind, .int .u64 t.set.a, .int .u64 t.set.b, .int .u64 t.set.c, .int .u64 t.set.d, .int .i64 t.min, .int .i64 t.max, .slice va vn vc] 28)); have c1 := r1'.c1; have q1 := (box_new w1 t (.slice va vn vc)).below (below_alloc _ (.cells #[.int .i64 9223372036854775807] 3)); obtain ⟨⟨x0, x1, x2, x3, x4, x5, x6, x7⟩, _⟩ := b8 q1; have i2 := i1.fresh (below2 w1 (.cells #[.int .i64 t.kind, .int .u64 t.set.a, .int .u64 t.set.b, .int .u64 t.set.c, .int .u64 t.set.d, .int .i64 t.min, .int .i64 t.max, .slice va vn vc] 28) (.cells #[.int .i64 9223372036854775807] 3)) (w1.heap.size + 1) (by omega); have o2 : One ((w1.alloc (.cells #[.int .i64 t.kind, .int .u64 t.set.a, .int .u64 t.set.b, .int .u64 t.set.c, .int .u64 t.set.d, .int .i64 t.min, .int .i64 t.max, .slice va vn vc] 28)).alloc (.cells #[.int .i64 9223372036854775807] 3)) (w1.heap.size + 1) (9223372036854775807 : Nat) := heap_alloc2_new w1 _ _) | (go_at_call 16; refine (h16 _ _ _ i2 o2).mono ?_; rintro e w3 ⟨rfl, _, t3⟩; have hw1 : w.heap.size + 1 + 1 ≤ w1.heap.size := (by have := t1.size; simpa using this); have q3 := Box.keep q1 t3 (by omega); have z3 := Box.keep ((Box.keep (z0.below (below_alloc _ _)) t1 (by omega)).below (below2 w1 _ _)) t3 (by omega); obtain ⟨⟨m0, m1, m2, m3, m4, m5, m6, m7⟩, _⟩ := b8 q3; obtain ⟨⟨d0, d1, d2, d3, d4, d5, d6, d7⟩, f0, f1, f2, f3, f4, f5, f6, f7⟩ := b8 z3))
  refine ret28 Try.results22 w.heap.size t (.slice va vn vc) rfl (box_set z3 t _) rfl ?_
  have hB3 := below_over (Below.trans (below_over (below2 w _ _) t1 (by omega)) ((below2 w1 _ _).mono (below_over (below2 w _ _) t1 (by omega)).size)) t3 (by omega)
  refine ⟨_, rfl, ?_, below_over hB3 (touch_set8 _ _ t _) (Nat.le_refl _)⟩
  have j1 : Is w1 (fun b => w.heap.size < b ∧ b < w1.heap.size) t (.slice va vn vc) := i1.carry (Nat.le_refl _) (fun b hb hlt => ⟨by simp at hb; omega, hlt⟩) (fun _ _ _ => rfl)
  have j3 : Is w3 (fun b => w.heap.size < b ∧ b < w1.heap.size) t (.slice va vn vc) := (j1.later (below2 w1 _ _)).carry t3.size (fun _ hb _ => hb) (fun b hb hlt => t3.block b hlt (fun e => by have := Option.some.inj e; omega))
  exact j3.carry (touch_set8 _ _ t _).size (fun b hb _ => by omega) (fun b hb hlt => (touch_set8 _ _ t _).block b hlt (fun e => by have := Option.some.inj e; omega))
end Go.Proofs.Ytjfnefmolhihaaa.st
