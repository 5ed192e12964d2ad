/-
  Contracts over this program: whether a byte is in a set, a set and a byte (set.Has, set.put, the document's Has and With), and bits that are 1 (math/bits.OnesCount64).
-/
import Derived.Test.YtfclidcfhadohaaDoorRows
import Derived.Test.YtfclidcfhadohaaDoorRng
import Derived.Test.YtfclidcfhadohaaDoorOnes
import Derived.Laws.BitsAllLaws
import Derived.Laws.Rows
import Derived.Lib.Builder
import Derived.WalkKit
import Derived.ProofKit
import Derived.OpenShut
namespace Go.Proofs.YtfclidcfhadohaaDoor.sp
open Go.Proofs.YtfclidcfhadohaaDoor.st
open Go.ChangeShapes Go.WideShapes Go.ChangeAt Go.RowKit
set_option linter.unusedVariables false

theorem chain {w w1 w2 : World} (h1 : Below w.heap.size w w1) (h2 : Below w1.heap.size w1 w2) : Below w.heap.size w w2 := h1.trans (h2.mono h1.size)

theorem bit_and (x m : Nat) (hx : x < 18446744073709551616) : (bits .and .u64 ((x : Int) / 2 ^ m) 1 == 1) = x.testBit m := by
  have h1 : ((x : Int) / 2 ^ m) = ((x / 2 ^ m : Nat) : Int) := by simp
  have h2 := u64_and_nat (x / 2 ^ m) 1 (Nat.lt_of_le_of_lt (Nat.div_le_self _ _) hx) (by omega)
  rw [h1, show ((1 : Nat) : Int) = (1 : Int) from rfl] at *
  rw [h2, Nat.and_one_is_mod, Nat.testBit_eq_decide_div_mod_eq]
  generalize x / 2 ^ m = y
  by_cases h : y % 2 = 1
  · rw [h]; rfl
  · have : y % 2 = 0 := by omega
    rw [this]; rfl
theorem bit_mod (x m : Nat) : (((x : Int) / 2 ^ m).tmod 2 == 1) = x.testBit m := by
  have h1 : ((x : Int) / 2 ^ m) = ((x / 2 ^ m : Nat) : Int) := by simp
  rw [h1, Nat.testBit_eq_decide_div_mod_eq]
  generalize x / 2 ^ m = y
  rw [Int.tmod_eq_emod_of_nonneg (by omega)]
  by_cases h : y % 2 = 1
  · rw [show ((y : Int) % 2) = 1 from by omega, h]; rfl
  · rw [show ((y : Int) % 2) = 0 from by omega, show y % 2 = 0 from by omega]; rfl
theorem bit_or (x m : Nat) (hx : x < 18446744073709551616) (hm : m < 64) : bits .or .u64 (x : Int) (IntKind.u64.wrap (2 ^ m)) = ((x ||| 2 ^ m : Nat) : Int) := by
  have hp : (2 : Nat) ^ m < 18446744073709551616 := Nat.lt_of_lt_of_le (Nat.pow_lt_pow_right (by omega) hm) (by decide)
  have h1 : IntKind.u64.wrap (2 ^ m) = ((2 ^ m : Nat) : Int) := by
    have e : ((2 : Int) ^ m) = ((2 ^ m : Nat) : Int) := by simp
    rw [e, IntKind.wrap_u64]
    generalize 2 ^ m = y at *
    omega
  rw [h1]
  exact u64_or_nat _ _ hx hp

/-- a set's block -/
def Blk (w : World) (g : Nat) (q : Q4) : Prop := w.heap[g]? = some (.cells #[.int .u64 q.a, .int .u64 q.b, .int .u64 q.c, .int .u64 q.d] 25 (0, 0))

theorem Blk.lt {w : World} {g : Nat} {q : Q4} (h : Blk w g q) : g < w.heap.size := (Array.getElem?_eq_some_iff.1 h).1
theorem Blk.c0 {w : World} {g : Nat} {q : Q4} (h : Blk w g q) : w.cell? ⟨g, 0, none⟩ = some (.int .u64 q.a) := by rw [Lib.cell_of_heap h]; rfl
theorem Blk.c1 {w : World} {g : Nat} {q : Q4} (h : Blk w g q) : w.cell? ⟨g, 1, none⟩ = some (.int .u64 q.b) := by rw [Lib.cell_of_heap h]; rfl
theorem Blk.c2 {w : World} {g : Nat} {q : Q4} (h : Blk w g q) : w.cell? ⟨g, 2, none⟩ = some (.int .u64 q.c) := by rw [Lib.cell_of_heap h]; rfl
theorem Blk.c3 {w : World} {g : Nat} {q : Q4} (h : Blk w g q) : w.cell? ⟨g, 3, none⟩ = some (.int .u64 q.d) := by rw [Lib.cell_of_heap h]; rfl
theorem Blk.fz {w : World} {g : Nat} {q : Q4} (h : Blk w g q) (k : Nat) : w.frozen? ⟨g, k, none⟩ = false := Lib.frozen_of_heap h k
theorem Blk.later {w w' : World} {g : Nat} {q : Q4} (h : Blk w g q) (b : Below w.heap.size w w') : Blk w' g q := by unfold Blk; rw [b.block g h.lt]; exact h

theorem set_heap (w : World) (g : Nat) (cs : Array Value) (T : TypeId) (i : Nat) (x : Value) (h : w.heap[g]? = some (.cells cs T (0, 0))) : (w.setCell ⟨g, i, none⟩ x).heap[g]? = some (.cells (cs.setIfInBounds i x) T (0, 0)) := by
  show (w.heap.modify g _)[g]? = _
  rw [Array.getElem?_modify, if_pos rfl, h]
  rfl
theorem touch_set (w : World) (g i : Nat) (x : Value) : w.grownBy (w.setCell ⟨g, i, none⟩ x) (some g) :=
  ⟨rfl, rfl, rfl, by simp, fun k _ hne => Below.heap_setCell _ _ _ _ (fun e => hne (congrArg some e))⟩
theorem touch_drew {w w1 : World} {row : Option Nat} (h : w.grownBy w1 row) : w.grownBy w1.drew row := ⟨h.os, h.tape, h.output, h.size, h.block⟩


/-- a set that is handed back through a cell -/
theorem ret25 {fn : Func} {p : Tmp} (h : fn.results = #[.cell p 25]) {a : Act} {W : World} {R : Ending → World → Prop} (g : Nat) (q : Q4) (hp : a.tmps.getD p undef = .pointer (some ⟨g, 0, none⟩)) (hb : Blk W g q) (hd : a.defers = [])
    (hR : R (.returned (.agg #[.int .u64 q.a, .int .u64 q.b, .int .u64 q.c, .int .u64 q.d])) W) : bodyPost Tryd.prog fn R .ret a W :=
  bodyPost_ret (results_cell_row h _ _ g 25 _ (0, 0) _ hp hb Tryd.underlying25 rfl (by kernel_rfl)) hd hR
theorem blk_new (w : World) (q : Q4) : Blk (w.alloc (.cells #[.int .u64 q.a, .int .u64 q.b, .int .u64 q.c, .int .u64 q.d] 25)) w.heap.size q := heap_alloc_new w _
theorem blk_new2 (w : World) (o : Obj) (q : Q4) : Blk ((w.alloc o).alloc (.cells #[.int .u64 q.a, .int .u64 q.b, .int .u64 q.c, .int .u64 q.d] 25)) (w.heap.size + 1) q := heap_alloc2_new w _ _

theorem quarter (n : Nat) (h : n < 256) : n / 64 = 0 ∨ n / 64 = 1 ∨ n / 64 = 2 ∨ n / 64 = 3 := by omega

def HasIs (q : Q4) (n : Nat) (r : Bool) : Prop := ∀ w, Calls Tryd.prog 56 #[.agg #[.int .u64 q.a, .int .u64 q.b, .int .u64 q.c, .int .u64 q.d], .int .u8 n] w fun e w' => e = .returned (.bool r) ∧ Below w.heap.size w w'
def RHasIs (q : Q4) (n : Nat) (r : Bool) : Prop := ∀ w, Calls Tryd.prog 58 #[.agg #[.int .u64 q.a, .int .u64 q.b, .int .u64 q.c, .int .u64 q.d], .int .u8 n] w fun e w' => e = .returned (.bool r) ∧ Below w.heap.size w w'

set_option maxRecDepth 100000 in
theorem has_any (q : Q4) (hq : Fits q) (n : Nat) (hn : n < 256) (r : Bool) (hr : r = has q n) : HasIs q n r := by
  intro w
  have HR : Hid (r = has q n) := hr
  clear hr
  obtain ⟨m, hm, hm64⟩ : ∃ m : Nat, n % 64 = m ∧ m < 64 := ⟨_, rfl, by omega⟩
  have e2 : ((n : Int) % 64) = m := by omega
  rcases quarter n hn with h | h | h | h
  · have e1 : ((n : Int) / 64) = 0 := by omega
    have e3 := bit_and q.a m hq.a
    have HB : Hid (q.a.testBit m = r) := by show _ = _; rw [HR.out]; unfold has; rw [h, hm]; rfl
    clear h hm HR hn
    go_enter Tryd.func56, Tryd.ntmps56
    go_wp2
    go_ret
    exact ⟨by rw [← HB.out]; rfl, (Below.refl _ _).alloc (Nat.le_refl _) _⟩
  · have e1 : ((n : Int) / 64) = 1 := by omega
    have e3 := bit_and q.b m hq.b
    have HB : Hid (q.b.testBit m = r) := by show _ = _; rw [HR.out]; unfold has; rw [h, hm]; rfl
    clear h hm HR hn
    go_enter Tryd.func56, Tryd.ntmps56
    go_wp2
    go_ret
    exact ⟨by rw [← HB.out]; rfl, (Below.refl _ _).alloc (Nat.le_refl _) _⟩
  · have e1 : ((n : Int) / 64) = 2 := by omega
    have e3 := bit_and q.c m hq.c
    have HB : Hid (q.c.testBit m = r) := by show _ = _; rw [HR.out]; unfold has; rw [h, hm]; rfl
    clear h hm HR hn
    go_enter Tryd.func56, Tryd.ntmps56
    go_wp2
    go_ret
    exact ⟨by rw [← HB.out]; rfl, (Below.refl _ _).alloc (Nat.le_refl _) _⟩
  · have e1 : ((n : Int) / 64) = 3 := by omega
    have e3 := bit_and q.d m hq.d
    have HB : Hid (q.d.testBit m = r) := by show _ = _; rw [HR.out]; unfold has; rw [h, hm]; rfl
    clear h hm HR hn
    go_enter Tryd.func56, Tryd.ntmps56
    go_wp2
    go_ret
    exact ⟨by rw [← HB.out]; rfl, (Below.refl _ _).alloc (Nat.le_refl _) _⟩

set_option maxRecDepth 100000 in
theorem rhas_any (q : Q4) (hq : Fits q) (n : Nat) (hn : n < 256) (r : Bool) (hr : r = has q n) : RHasIs q n r := by
  intro w
  have HR : Hid (r = has q n) := hr
  clear hr
  obtain ⟨m, hm, hm64⟩ : ∃ m : Nat, n % 64 = m ∧ m < 64 := ⟨_, rfl, by omega⟩
  have e2 : ((n : Int) % 64) = m := by omega
  rcases quarter n hn with h | h | h | h
  · have e1 : ((n : Int) / 64) = 0 := by omega
    have e3 := bit_mod q.a m
    have HB : Hid (q.a.testBit m = r) := by show _ = _; rw [HR.out]; unfold has; rw [h, hm]; rfl
    clear h hm HR hn
    go_enter Tryd.func58, Tryd.ntmps58
    go_wp2
    go_ret
    exact ⟨by rw [← HB.out]; rfl, (Below.refl _ _).alloc (Nat.le_refl _) _⟩
  · have e1 : ((n : Int) / 64) = 1 := by omega
    have e3 := bit_mod q.b m
    have HB : Hid (q.b.testBit m = r) := by show _ = _; rw [HR.out]; unfold has; rw [h, hm]; rfl
    clear h hm HR hn
    go_enter Tryd.func58, Tryd.ntmps58
    go_wp2
    go_ret
    exact ⟨by rw [← HB.out]; rfl, (Below.refl _ _).alloc (Nat.le_refl _) _⟩
  · have e1 : ((n : Int) / 64) = 2 := by omega
    have e3 := bit_mod q.c m
    have HB : Hid (q.c.testBit m = r) := by show _ = _; rw [HR.out]; unfold has; rw [h, hm]; rfl
    clear h hm HR hn
    go_enter Tryd.func58, Tryd.ntmps58
    go_wp2
    go_ret
    exact ⟨by rw [← HB.out]; rfl, (Below.refl _ _).alloc (Nat.le_refl _) _⟩
  · have e1 : ((n : Int) / 64) = 3 := by omega
    have e3 := bit_mod q.d m
    have HB : Hid (q.d.testBit m = r) := by show _ = _; rw [HR.out]; unfold has; rw [h, hm]; rfl
    clear h hm HR hn
    go_enter Tryd.func58, Tryd.ntmps58
    go_wp2
    go_ret
    exact ⟨by rw [← HB.out]; rfl, (Below.refl _ _).alloc (Nat.le_refl _) _⟩

def WithIs (q : Q4) (n : Nat) (r : Q4) : Prop := ∀ w, Calls Tryd.prog 61 #[.agg #[.int .u64 q.a, .int .u64 q.b, .int .u64 q.c, .int .u64 q.d], .int .u8 n] w fun e w' => e = .returned (.agg #[.int .u64 r.a, .int .u64 r.b, .int .u64 r.c, .int .u64 r.d]) ∧ Below w.heap.size w w'

theorem wth_0 (q : Q4) (n m : Nat) (h : n / 64 = 0) (hm : n % 64 = m) : wth q n = ⟨q.a ||| 2 ^ m, q.b, q.c, q.d⟩ := by unfold wth; rw [h, hm]; rfl
theorem wth_1 (q : Q4) (n m : Nat) (h : n / 64 = 1) (hm : n % 64 = m) : wth q n = ⟨q.a, q.b ||| 2 ^ m, q.c, q.d⟩ := by unfold wth; rw [h, hm]; rfl
theorem wth_2 (q : Q4) (n m : Nat) (h : n / 64 = 2) (hm : n % 64 = m) : wth q n = ⟨q.a, q.b, q.c ||| 2 ^ m, q.d⟩ := by unfold wth; rw [h, hm]; rfl
theorem wth_3 (q : Q4) (n m : Nat) (h : n / 64 = 3) (hm : n % 64 = m) : wth q n = ⟨q.a, q.b, q.c, q.d ||| 2 ^ m⟩ := by unfold wth; rw [h, hm]; rfl

set_option maxRecDepth 100000 in
theorem with_any (q : Q4) (hq : Fits q) (n : Nat) (hn : n < 256) (r : Q4) (hr : r = wth q n) : WithIs q n r := by
  intro w
  obtain ⟨m, hm, hm64⟩ : ∃ m : Nat, n % 64 = m ∧ m < 64 := ⟨_, rfl, by omega⟩
  have e2 : ((n : Int) % 64) = m := by omega
  rcases quarter n hn with h | h | h | h
  · have e1 : ((n : Int) / 64) = 0 := by omega
    have e3 := bit_or q.a m hq.a hm64
    rw [wth_0 q n m h hm] at hr
    subst hr
    clear h hm hn
    go_enter Tryd.func61, Tryd.ntmps61
    go_wp2
    refine ret25 Tryd.results61 (w.heap.size + 1) ⟨q.a ||| 2 ^ m, q.b, q.c, q.d⟩ rfl (heap_alloc2_new w _ _) rfl ?_
    exact ⟨rfl, ((Below.refl _ _).alloc (Nat.le_refl _) _).alloc (by simp) _⟩
  · have e1 : ((n : Int) / 64) = 1 := by omega
    have e3 := bit_or q.b m hq.b hm64
    rw [wth_1 q n m h hm] at hr
    subst hr
    clear h hm hn
    go_enter Tryd.func61, Tryd.ntmps61
    go_wp2
    refine ret25 Tryd.results61 (w.heap.size + 1) ⟨q.a, q.b ||| 2 ^ m, q.c, q.d⟩ rfl (heap_alloc2_new w _ _) rfl ?_
    exact ⟨rfl, ((Below.refl _ _).alloc (Nat.le_refl _) _).alloc (by simp) _⟩
  · have e1 : ((n : Int) / 64) = 2 := by omega
    have e3 := bit_or q.c m hq.c hm64
    rw [wth_2 q n m h hm] at hr
    subst hr
    clear h hm hn
    go_enter Tryd.func61, Tryd.ntmps61
    go_wp2
    refine ret25 Tryd.results61 (w.heap.size + 1) ⟨q.a, q.b, q.c ||| 2 ^ m, q.d⟩ rfl (heap_alloc2_new w _ _) rfl ?_
    exact ⟨rfl, ((Below.refl _ _).alloc (Nat.le_refl _) _).alloc (by simp) _⟩
  · have e1 : ((n : Int) / 64) = 3 := by omega
    have e3 := bit_or q.d m hq.d hm64
    rw [wth_3 q n m h hm] at hr
    subst hr
    clear h hm hn
    go_enter Tryd.func61, Tryd.ntmps61
    go_wp2
    refine ret25 Tryd.results61 (w.heap.size + 1) ⟨q.a, q.b, q.c, q.d ||| 2 ^ m⟩ rfl (heap_alloc2_new w _ _) rfl ?_
    exact ⟨rfl, ((Below.refl _ _).alloc (Nat.le_refl _) _).alloc (by simp) _⟩
end Go.Proofs.YtfclidcfhadohaaDoor.sp
