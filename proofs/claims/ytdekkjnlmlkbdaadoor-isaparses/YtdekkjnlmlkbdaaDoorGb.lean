/-
  Contracts over this program: a number up to a bound (isa.upTo), an instruction of its parts (isa.made), the instruction at a place (isa.get).
-/
import Derived.Test.YtdekkjnlmlkbdaaDoorGa
import Derived.Test.YtdekkjnlmlkbdaaDoorIf
import Derived.Deep.RegionWith
namespace Go.Proofs.YtdekkjnlmlkbdaaDoor.is
open Go.Proofs.YtdekkjnlmlkbdaaDoor.num
open Go.ChangeShapes Go.WideShapes Go.ChangeAt Go.RowKit
set_option linter.unusedVariables false

def UpToIs (s : ByteArray) (p m n to e : Nat) : Prop := ∀ w, Calls Tryd.prog 46 #[.string s, .int .i64 p, .int .i64 m] w fun r w' => r = .returned (.tuple #[.int .i64 n, .int .i64 to, .int .i64 e]) ∧ w' = w

theorem u64_small (m : Nat) (h : m ≤ 1073741824) : IntKind.u64.wrap (m : Int) = m := by rw [IntKind.wrap_u64]; omega
theorem i64_small (m : Nat) (h : m ≤ 1073741824) : IntKind.i64.wrap (m : Int) = m := by rw [IntKind.wrap_i64]; omega

set_option maxRecDepth 100000 in
theorem upto_bad (s : ByteArray) (p m : Nat) (hs : s.size ≤ 1125899906842624) (hp : p ≤ s.size) (n to e : Nat) (h : gets s.data.toList p = (n, to, e)) (he : e ≠ 0) : UpToIs s p m 0 0 e := by
  intro w
  have hg := get_in s p hs hp n to e h
  have hne : ((e : Int) == 0) = false := by rw [beq_eq_false_iff_ne]; omega
  unfold GetIs at hg
  clear h
  go_enter Tryd.func46, Tryd.ntmps46
  go_wp2_with (go_at_call 34; refine (hg _).mono ?_; rintro e w1 ⟨rfl, h⟩; obtain rfl := h.symm)
  go_ret3
  exact ⟨rfl, rfl⟩
set_option maxRecDepth 100000 in
theorem upto_far (s : ByteArray) (p m : Nat) (hs : s.size ≤ 1125899906842624) (hp : p ≤ s.size) (hm : m ≤ 1073741824) (n to : Nat) (h : gets s.data.toList p = (n, to, 0)) (hn : m < n) : UpToIs s p m 0 0 210 := by
  intro w
  have hg := get_in s p hs hp n to 0 h
  have h1 := u64_small m hm
  unfold GetIs at hg
  clear h
  go_enter Tryd.func46, Tryd.ntmps46
  go_wp2_with (go_at_call 34; refine (hg _).mono ?_; rintro e w1 ⟨rfl, h⟩; obtain rfl := h.symm)
  go_ret3
  exact ⟨rfl, rfl⟩
set_option maxRecDepth 100000 in
theorem upto_ok (s : ByteArray) (p m : Nat) (hs : s.size ≤ 1125899906842624) (hp : p ≤ s.size) (hm : m ≤ 1073741824) (n to : Nat) (h : gets s.data.toList p = (n, to, 0)) (hn : n ≤ m) : UpToIs s p m n to 0 := by
  intro w
  have hg := get_in s p hs hp n to 0 h
  have h1 := u64_small m hm
  have h2 := i64_small n (by omega)
  unfold GetIs at hg
  clear h
  go_enter Tryd.func46, Tryd.ntmps46
  go_wp2_with (go_at_call 34; refine (hg _).mono ?_; rintro e w1 ⟨rfl, h⟩; obtain rfl := h.symm)
  go_ret3
  exact ⟨rfl, rfl⟩

def MadeIs (i : In) : Prop := ∀ w, Calls Tryd.prog 47 #[.int .i64 i.op, .agg #[.int .i64 i.a, .int .i64 i.b, .int .i64 i.c, .int .i64 i.d]] w fun e w' => e = .returned (vI i) ∧ Below w.heap.size w w'
set_option maxRecDepth 100000 in
theorem made_any (i : In) : MadeIs i := by
  intro w
  obtain ⟨op, a, b, c, d⟩ := i
  go_enter Tryd.func47, Tryd.ntmps47
  go_wp2
  exact ret23 Tryd.results47 (w.heap.size + 1) ⟨op, a, b, c, d⟩ rfl (heap_alloc2_new w _ _) rfl ⟨rfl, ((Below.refl _ _).alloc (Nat.le_refl _) _).alloc (by simp) _⟩

theorem ret_iie {fn : Func} {p u v : Tmp} (h : fn.results = #[.cell p 23, .tmp u, .tmp v]) {a : Act} {W : World} {R : Ending → World → Prop} (g : Nat) (i : In) (m n : Value) (hp : a.tmps.getD p undef = .pointer (some ⟨g, 0, none⟩)) (hb : IBlk W g i) (hu : a.tmps.getD u undef = m) (hv : a.tmps.getD v undef = n) (hd : a.defers = [])
    (hR : R (.returned (.tuple #[vI i, m, n])) W) : bodyPost Tryd.prog fn R .ret a W := by
  refine bodyPost_ret ?_ hd hR
  have h1 := run_loadVar_row (P := Tryd.prog) W g 23 23 _ (0, 0) _ hb Tryd.underlying23 rfl (by kernel_rfl)
  have hp' : a.tmps[p]?.getD undef = .pointer (some ⟨g, 0, none⟩) := by simpa using hp
  have hu' : a.tmps[u]?.getD undef = m := by simpa using hu
  have hv' : a.tmps[v]?.getD undef = n := by simpa using hv
  simp [results, h, hp', hu', hv', asAddr, h1, vI]

theorem index_kd (o f : Nat) (hf : f < 4) (W : World) : (Instr.index 37 (.agg #[.int .i64 (kd o 0 : Nat), .int .i64 (kd o 1 : Nat), .int .i64 (kd o 2 : Nat), .int .i64 (kd o 3 : Nat)]) (.int .i64 f)).run Tryd.prog W = .ok (.int .i64 (kd o f : Nat)) W := by
  rcases (by omega : f = 0 ∨ f = 1 ∨ f = 2 ∨ f = 3) with rfl | rfl | rfl | rfl
  · exact index_0 _ _ _ _ W
  · exact index_1 _ _ _ _ W
  · exact index_2 _ _ _ _ W
  · exact index_3 _ _ _ _ W
theorem RowBlk.set {w : World} {g : Nat} {i : In} (h : RowBlk w g i) (f : Nat) (hf : f < 4) (v : Int) : RowBlk (w.setCell ⟨g, f, none⟩ (.int .i64 v)) g (setF i f v) := by
  have := set_heap w g _ _ f (.int .i64 v) h
  rcases (by omega : f = 0 ∨ f = 1 ∨ f = 2 ∨ f = 3) with rfl | rfl | rfl | rfl <;> exact this
theorem RowBlk.lt {w : World} {g : Nat} {i : In} (h : RowBlk w g i) : g < w.heap.size := (Array.getElem?_eq_some_iff.1 h).1
theorem RowBlk.fz {w : World} {g : Nat} {i : In} (h : RowBlk w g i) (k : Nat) : w.frozen? ⟨g, k, none⟩ = false := Lib.frozen_of_heap h k
theorem RowBlk.later {w w' : World} {g : Nat} {q : In} (h : RowBlk w g q) (b : Below w.heap.size w w') : RowBlk w' g q := by unfold RowBlk; rw [b.block g h.lt]; exact h

def GetIIs (s : ByteArray) (p : Nat) (r : In) (to e : Nat) : Prop := ∀ w, Tabs w → Calls Tryd.prog 35 #[.string s, .int .i64 p] w fun x w' => x = .returned (.tuple #[vI r, .int .i64 to, .int .i64 e]) ∧ Below w.heap.size w w'

set_option maxHeartbeats 1000000 in
set_option maxRecDepth 100000 in
theorem geti_bad (s : ByteArray) (p : Nat) (hs : s.size ≤ 1125899906842624) (hp : p ≤ s.size) (n to e : Nat) (h : gets s.data.toList p = (n, to, e)) (he : e ≠ 0) : GetIIs s p zI 0 e := by
  intro w hT
  have hu := upto_bad s p 17 hs hp n to e h he
  have hne : ((e : Int) == 0) = false := by rw [beq_eq_false_iff_ne]; omega
  unfold UpToIs at hu
  clear h
  go_enter Tryd.func35, Tryd.ntmps35
  go_wp2_with (go_at_call 46; refine (hu _).mono ?_; rintro e w1 ⟨rfl, h⟩; obtain rfl := h.symm)
  exact ret_iie Tryd.results35 w.heap.size zI _ _ rfl (heap_alloc_new w _) rfl rfl rfl ⟨rfl, (Below.refl _ _).alloc (Nat.le_refl _) _⟩
end Go.Proofs.YtdekkjnlmlkbdaaDoor.is
