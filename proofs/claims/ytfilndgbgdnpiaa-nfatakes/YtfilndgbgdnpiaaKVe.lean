/-
  Contracts over this program: the nfa's builder: one; what laying a tree asks and gives.
-/
import Derived.Test.YtfilndgbgdnpiaaM08
import Derived.Test.YtfilndgbgdnpiaaKDp
namespace Go.Proofs.Ytfilndgbgdnpiaa.nb
open Go.ChangeShapes Go.WideShapes Go.ChangeAt Go.RowKit
open st (Tr Q4 nodesOf goods okNode Is Box)
open nf (Ed)
set_option linter.unusedVariables false
set_option maxRecDepth 100000

abbrev trV (t : Tr) (v : Value) : Value := .agg #[.int .i64 t.kind, .int .u64 t.set.a, .int .u64 t.set.b, .int .u64 t.set.c, .int .u64 t.set.d, .int .i64 t.min, .int .i64 t.max, v]
/-- room for a tree -/
structure Room (t : Tr) (a : Nat) : Prop where
  lo : 16000 ≤ a
  nd : t.nodes ≤ 512
  hi : a + 16000 * t.depth ≤ 900000
def LayIs (t : Tr) : Prop := ∀ (f to : Nat) (x : St) (a : Nat), Most x a a → Room t a → ∀ B g v w tv, Bx w B g x v → B ≤ w.heap.size → Is w (· < B) t tv →
  Calls Try.prog 27 #[.pointer (some ⟨g, 0, none⟩), trV t tv, .int .i64 (f : Int), .int .i64 (to : Int)] w fun e w' => e = .returned (.tuple #[]) ∧ ∃ v', Bx w' B g (layT t f to x) v' ∧ Mv g v v' w w'
def OneIs (t : Tr) : Prop := ∀ (f : Nat) (x : St) (a : Nat), Most x.new a a → Room t a → ∀ B g v w tv, Bx w B g x v → B ≤ w.heap.size → Is w (· < B) t tv →
  Calls Try.prog 74 #[.pointer (some ⟨g, 0, none⟩), trV t tv, .int .i64 (f : Int)] w fun e w' => e = .returned (.int .i64 (x.n : Int)) ∧ ∃ v', Bx w' B g (layT t f x.n x.new) v' ∧ Mv g v v' w w'
theorem info28 : (Try.prog.info? 28).map (·.size) = some 8 := by kernel_rfl
theorem is_mv {w w' : World} {B g : Nat} {x : St} {v v' : Value} {t : Tr} {tv : Value} (h : Is w (· < B) t tv) (hx : Bx w B g x v) (hB : B ≤ w.heap.size) (m : Mv g v v' w w') : Is w' (· < B) t tv :=
  h.carry m.size (fun _ p _ => p) (fun b p hlt => m.block b hlt (by have := hx.bg; omega) (fun e => by have := (ow.lt hx.own e.symm).1; omega))
theorem box_mv {w w' : World} {B g k : Nat} {x : St} {v v' : Value} {t : Tr} {tv : Value} (h : Box w k t tv) (hx : Bx w B g x v) (m : Mv g v v' w w') : Box w' k t tv := by
  unfold Box at h ⊢
  rw [m.block k (Array.getElem?_eq_some_iff.1 h).1 (fun e => by subst e; rw [hx.blk] at h; simp at h) (ow.type hx.own h (by decide))]
  exact h
set_option maxHeartbeats 1000000 in
theorem one_any (t : Tr) (hL : LayIs t) : OneIs t := by
  intro f x a hm hr B g v w tv hx hB ht
  obtain ⟨w1, hw1⟩ : ∃ w1, w1 = w.alloc (.cells #[.int .i64 t.kind, .int .u64 t.set.a, .int .u64 t.set.b, .int .u64 t.set.c, .int .u64 t.set.d, .int .i64 t.min, .int .i64 t.max, tv] 28) := ⟨_, rfl⟩
  have b1 : Below w.heap.size w w1 := by rw [hw1]; exact (Below.refl _ _).alloc (Nat.le_refl _) _
  have bx1 : Box w1 w.heap.size t tv := by rw [hw1]; exact st.box_new w t tv
  have hx1 := hx.later b1
  have hB1 : B ≤ w1.heap.size := Nat.le_trans hB b1.size
  have ht1 := is_mv ht hx hB (Mv.of (g := g) (v := v) b1)
  have HM := (show Hid (Mv g v v w w1) from Mv.of b1)
  have hlo := hr.lo
  have hhi := hr.hi
  have hn : x.n ≤ 1000000 := by have := hm.n; simp [St.new] at this; omega
  have h75 := state_any x hn B g v w1 hx1
  have HL := (show Hid (∀ W, Bx W B g x.new v → Mv g v v w1 W → Calls Try.prog 27 #[.pointer (some ⟨g, 0, none⟩), trV t tv, .int .i64 (f : Int), .int .i64 (x.n : Int)] W fun e w' => e = .returned (.tuple #[]) ∧ ∃ v', Bx w' B g (layT t f x.n x.new) v' ∧ Mv g v v' W w') from fun W h m => hL f x.n x.new a hm hr B g v W tv h (Nat.le_trans hB1 m.size) (is_mv ht1 hx1 hB1 m))
  have HB := (show Hid (∀ W, Mv g v v w1 W → Box W w.heap.size t tv) from fun W m => box_mv bx1 hx1 m)
  clear ht ht1 hx hm hr b1 bx1 hx1
  go_enter Try.func74, Try.ntmps74
  go_wp2_with (first | (go_at_call 75; (try rw [← hw1]); refine h75.mono ?_; rintro e w2 ⟨rfl, hx2, m2⟩; clear h75; have b2 := HB.out w2 m2; have c27 := HL.out w2 hx2 m2) | (refine wpList_load_row rfl 28 (.tmp 4) rfl w.heap.size rfl 28 _ (0, 0) _ b2 Try.underlying28 rfl info28 ?_) | (go_at_call 27; refine c27.mono ?_; rintro e w3 ⟨rfl, v3, hx3, m3⟩))
  go_ret
  exact ⟨rfl, v3, hx3, HM.out.trans (m2.trans m3)⟩
end Go.Proofs.Ytfilndgbgdnpiaa.nb
