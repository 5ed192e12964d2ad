/-
  Contracts over this program: what is in one or the other, in both, in neither (set.Join, set.Meet, set.Not).
-/
import Derived.Test.YtfclidcfhadohaaDoorOf
namespace Go.Proofs.YtfclidcfhadohaaDoor.sp
open Go.Proofs.YtfclidcfhadohaaDoor.st
open Go.ChangeShapes Go.WideShapes Go.ChangeAt Go.RowKit
set_option linter.unusedVariables false

theorem index_0 (a b c d : Value) (W : World) : (Instr.index 23 (.agg #[a, b, c, d]) (.int .i64 0)).run Tryd.prog W = .ok a W := by
  simp [Instr.index, asIntOf, run_underlying Tryd.underlying23, part, Tryd.isAgg22, Tryd.sizeOf22]
theorem index_1 (a b c d : Value) (W : World) : (Instr.index 23 (.agg #[a, b, c, d]) (.int .i64 1)).run Tryd.prog W = .ok b W := by
  simp [Instr.index, asIntOf, run_underlying Tryd.underlying23, part, Tryd.isAgg22, Tryd.sizeOf22]
theorem index_2 (a b c d : Value) (W : World) : (Instr.index 23 (.agg #[a, b, c, d]) (.int .i64 2)).run Tryd.prog W = .ok c W := by
  simp [Instr.index, asIntOf, run_underlying Tryd.underlying23, part, Tryd.isAgg22, Tryd.sizeOf22]
theorem index_3 (a b c d : Value) (W : World) : (Instr.index 23 (.agg #[a, b, c, d]) (.int .i64 3)).run Tryd.prog W = .ok d W := by
  simp [Instr.index, asIntOf, run_underlying Tryd.underlying23, part, Tryd.isAgg22, Tryd.sizeOf22]

theorem heap3 (w : World) (A B C : Obj) : (((w.alloc A).alloc B).alloc C).heap[w.heap.size + 1 + 1]? = some C := by
  have h := heap_alloc_new ((w.alloc A).alloc B) C
  simp only [World.size_alloc] at h
  exact h

def JoinIs (q r s : Q4) : Prop := ∀ w, Calls Tryd.prog 97 #[.agg #[.int .u64 q.a, .int .u64 q.b, .int .u64 q.c, .int .u64 q.d], .agg #[.int .u64 r.a, .int .u64 r.b, .int .u64 r.c, .int .u64 r.d]] w fun e w' => e = .returned (.agg #[.int .u64 s.a, .int .u64 s.b, .int .u64 s.c, .int .u64 s.d]) ∧ Below w.heap.size w w'

set_option maxHeartbeats 1000000 in
set_option maxRecDepth 100000 in
theorem join_any (q r s : Q4) (hq : Fits q) (hr : Fits r) (hs : s = jn q r) : JoinIs q r s := by
  intro w
  have e0 := u64_or_nat q.a r.a hq.a hr.a
  have e1 := u64_or_nat q.b r.b hq.b hr.b
  have e2 := u64_or_nat q.c r.c hq.c hr.c
  have e3 := u64_or_nat q.d r.d hq.d hr.d
  have i0 := index_0
  have i1 := index_1
  have i2 := index_2
  have i3 := index_3
  subst hs
  go_enter Tryd.func97, Tryd.ntmps97
  go_wp2
  refine wp_loop_rounds 5 ?_
  rw [rounds_succ]
  go_wp2
  rw [rounds_succ]
  go_wp2
  rw [rounds_succ]
  go_wp2
  rw [rounds_succ]
  go_wp2
  rw [rounds_succ]
  go_wp2
  refine ret25 Tryd.results97 (w.heap.size + 1 + 1) ⟨q.a ||| r.a, q.b ||| r.b, q.c ||| r.c, q.d ||| r.d⟩ rfl (heap3 w _ _ _) rfl ?_
  exact ⟨rfl, (((Below.refl _ _).alloc (Nat.le_refl _) _).alloc (by simp) _).alloc (by simp; omega) _⟩

theorem turn_all (x : Nat) (h : x < 18446744073709551616) : bits .xor .u64 IntKind.u64.max (x : Int) = ((2 ^ 64 - (x + 1) : Nat) : Int) := by
  have h1 := u64_xor_nat 18446744073709551615 x (by decide) h
  have e : 18446744073709551615 ^^^ x = 2 ^ 64 - (x + 1) := by
    apply Nat.eq_of_testBit_eq
    intro i
    rw [Nat.testBit_xor, Nat.testBit_two_pow_sub_succ (show x < 2 ^ 64 from h), show (18446744073709551615 : Nat) = 2 ^ 64 - 1 from by decide, Nat.testBit_two_pow_sub_one]
    by_cases hi : i < 64
    · simp [hi]
    · rw [Nat.testBit_lt_two_pow (Nat.lt_of_lt_of_le (show x < 2 ^ 64 from h) (Nat.pow_le_pow_right (by omega) (by omega)))]
      simp [hi]
  rw [e] at h1
  exact h1

def NotIs (q s : Q4) : Prop := ∀ w, Calls Tryd.prog 40 #[.agg #[.int .u64 q.a, .int .u64 q.b, .int .u64 q.c, .int .u64 q.d]] w fun e w' => e = .returned (.agg #[.int .u64 s.a, .int .u64 s.b, .int .u64 s.c, .int .u64 s.d]) ∧ Below w.heap.size w w'

set_option maxHeartbeats 1000000 in
set_option maxRecDepth 100000 in
theorem not_any (q s : Q4) (hq : Fits q) (hs : s = nt q) : NotIs q s := by
  intro w
  obtain ⟨n0, h0⟩ : ∃ n : Nat, n = 2 ^ 64 - (q.a + 1) := ⟨_, rfl⟩
  obtain ⟨n1, h1⟩ : ∃ n : Nat, n = 2 ^ 64 - (q.b + 1) := ⟨_, rfl⟩
  obtain ⟨n2, h2⟩ : ∃ n : Nat, n = 2 ^ 64 - (q.c + 1) := ⟨_, rfl⟩
  obtain ⟨n3, h3⟩ : ∃ n : Nat, n = 2 ^ 64 - (q.d + 1) := ⟨_, rfl⟩
  have e0 := turn_all q.a hq.a
  have e1 := turn_all q.b hq.b
  have e2 := turn_all q.c hq.c
  have e3 := turn_all q.d hq.d
  rw [← h0] at e0
  rw [← h1] at e1
  rw [← h2] at e2
  rw [← h3] at e3
  have hss : s = ⟨n0, n1, n2, n3⟩ := by rw [hs, h0, h1, h2, h3]; rfl
  clear h0 h1 h2 h3 hs
  subst hss
  have i0 := index_0
  have i1 := index_1
  have i2 := index_2
  have i3 := index_3
  go_enter Tryd.func40, Tryd.ntmps40
  go_wp2
  refine wp_loop_rounds 5 ?_
  rw [rounds_succ]
  go_wp2
  rw [rounds_succ]
  go_wp2
  rw [rounds_succ]
  go_wp2
  rw [rounds_succ]
  go_wp2
  rw [rounds_succ]
  go_wp2
  refine ret25 Tryd.results40 (w.heap.size + 1) ⟨n0, n1, n2, n3⟩ rfl (heap_alloc2_new w _ _) rfl ?_
  exact ⟨rfl, ((Below.refl _ _).alloc (Nat.le_refl _) _).alloc (by simp) _⟩

def CountIs (q : Q4) (n : Nat) : Prop := ∀ w, Calls Tryd.prog 36 #[.agg #[.int .u64 q.a, .int .u64 q.b, .int .u64 q.c, .int .u64 q.d]] w fun e w' => e = .returned (.int .i64 n) ∧ Below w.heap.size w w'

set_option maxHeartbeats 1000000 in
set_option maxRecDepth 100000 in
theorem count_any (q : Q4) (n : Nat) (hq : Fits q) (hn : n = cnt q) : CountIs q n := by
  intro w
  obtain ⟨n0, h0⟩ : ∃ n : Nat, n = ones q.a := ⟨_, rfl⟩
  obtain ⟨n1, h1⟩ : ∃ n : Nat, n = ones q.b := ⟨_, rfl⟩
  obtain ⟨n2, h2⟩ : ∃ n : Nat, n = ones q.c := ⟨_, rfl⟩
  obtain ⟨n3, h3⟩ : ∃ n : Nat, n = ones q.d := ⟨_, rfl⟩
  have p0 := ones_any q.a n0 hq.a h0
  have p1 := ones_any q.b n1 hq.b h1
  have p2 := ones_any q.c n2 hq.c h2
  have p3 := ones_any q.d n3 hq.d h3
  have l0 : n0 ≤ 64 := by rw [h0]; exact (ones_is q.a hq.a).2.2.2.2.2
  have l1 : n1 ≤ 64 := by rw [h1]; exact (ones_is q.b hq.b).2.2.2.2.2
  have l2 : n2 ≤ 64 := by rw [h2]; exact (ones_is q.c hq.c).2.2.2.2.2
  have l3 : n3 ≤ 64 := by rw [h3]; exact (ones_is q.d hq.d).2.2.2.2.2
  have HN : Hid (n = n0 + n1 + n2 + n3) := by show _ = _; rw [hn, cnt_words, h0, h1, h2, h3]
  clear h0 h1 h2 h3 hn
  have i0 := index_0
  have i1 := index_1
  have i2 := index_2
  have i3 := index_3
  go_enter Tryd.func36, Tryd.ntmps36
  go_wp2
  refine wp_loop_rounds 5 ?_
  rw [rounds_succ]
  go_wp2_with (go_at_call 54; refine (p0 _).mono ?_; rintro e w1 ⟨rfl, h⟩; obtain rfl := h.symm)
  rw [rounds_succ]
  go_wp2_with (go_at_call 54; refine (p1 _).mono ?_; rintro e w1 ⟨rfl, h⟩; obtain rfl := h.symm)
  rw [rounds_succ]
  go_wp2_with (go_at_call 54; refine (p2 _).mono ?_; rintro e w1 ⟨rfl, h⟩; obtain rfl := h.symm)
  rw [rounds_succ]
  go_wp2_with (go_at_call 54; refine (p3 _).mono ?_; rintro e w1 ⟨rfl, h⟩; obtain rfl := h.symm)
  rw [rounds_succ]
  go_wp2
  go_ret
  exact ⟨by rw [HN.out]; show Ending.returned (Value.int .i64 _) = Ending.returned (Value.int .i64 _); go_num, (Below.refl _ _).alloc (Nat.le_refl _) _⟩
end Go.Proofs.YtfclidcfhadohaaDoor.sp
