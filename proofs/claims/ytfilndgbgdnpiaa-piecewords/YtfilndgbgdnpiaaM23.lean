/-
  Texts put together: Contracts of sets, laid from stage 5. Contracts of sets, laid from stage 5. Contracts of sets, laid from stage 5. Contracts of sets, laid from stage 5. Contracts of sets, laid from stage 5.
-/
import Derived.Test.YtfilndgbgdnpiaaM08
import Derived.Test.YtfilndgbgdnpiaaM22
import Derived.Below
import Derived.ChangeOld
import Derived.Deep.RegionHeld3
import Derived.Deep.RegionLaw
import Derived.Deep.RegionWith
import Derived.Deep.Slices
import Derived.Laws.Bits128
import Derived.Laws.BitsAllLaws
import Derived.Laws.BytesArg
import Derived.Laws.IdiomArrays
import Derived.Laws.Rows
import Derived.Lib.BufSteps
import Derived.Lib.Builder
import Derived.OpenShut
import Derived.ProofKit
import Derived.SizedLaws
import Derived.WalkKit
import Derived.BigQuiet
import Derived.Deep.OwnRows
import Derived.Lib.QuietBelow
import Derived.Deep.WholeRow
import Derived.Laws.CopyOwn
import Derived.Laws.ResultCell
import Derived.Laws.Tables
import Derived.DeepKeys4
import Derived.MapViews
import Derived.Maps.AppendAt
import Derived.Maps.OwnSet
namespace Go.Proofs.Ytfilndgbgdnpiaa.st
open Go.ChangeShapes Go.WideShapes Go.ChangeAt Go.RowKit
set_option linter.unusedVariables false
set_option maxRecDepth 10000

/-- a set's block -/
def Blk (w : World) (g : Nat) (q : Q4) : Prop := w.heap[g]? = some (.cells #[.int .u64 q.a, .int .u64 q.b, .int .u64 q.c, .int .u64 q.d] 25 (0, 0))

theorem Blk.lt {w : World} {g : Nat} {q : Q4} (h : Blk w g q) : g < w.heap.size := (Array.getElem?_eq_some_iff.1 h).1
theorem Blk.c0 {w : World} {g : Nat} {q : Q4} (h : Blk w g q) : w.cell? ⟨g, 0, none⟩ = some (.int .u64 q.a) := by rw [Lib.cell_of_heap h]; rfl
theorem Blk.c1 {w : World} {g : Nat} {q : Q4} (h : Blk w g q) : w.cell? ⟨g, 1, none⟩ = some (.int .u64 q.b) := by rw [Lib.cell_of_heap h]; rfl
theorem Blk.c2 {w : World} {g : Nat} {q : Q4} (h : Blk w g q) : w.cell? ⟨g, 2, none⟩ = some (.int .u64 q.c) := by rw [Lib.cell_of_heap h]; rfl
theorem Blk.c3 {w : World} {g : Nat} {q : Q4} (h : Blk w g q) : w.cell? ⟨g, 3, none⟩ = some (.int .u64 q.d) := by rw [Lib.cell_of_heap h]; rfl
theorem Blk.fz {w : World} {g : Nat} {q : Q4} (h : Blk w g q) (k : Nat) : w.frozen? ⟨g, k, none⟩ = false := Lib.frozen_of_heap h k
theorem Blk.later {w w' : World} {g : Nat} {q : Q4} (h : Blk w g q) (b : Below w.heap.size w w') : Blk w' g q := by unfold Blk; rw [b.block g h.lt]; exact h

theorem set_heap (w : World) (g : Nat) (cs : Array Value) (T : TypeId) (i : Nat) (x : Value) (h : w.heap[g]? = some (.cells cs T (0, 0))) : (w.setCell ⟨g, i, none⟩ x).heap[g]? = some (.cells (cs.setIfInBounds i x) T (0, 0)) := by
  show (w.heap.modify g _)[g]? = _
  rw [Array.getElem?_modify, if_pos rfl, h]
  rfl
theorem touch_set (w : World) (g i : Nat) (x : Value) : w.grownBy (w.setCell ⟨g, i, none⟩ x) (some g) :=
  ⟨rfl, rfl, rfl, by simp, fun k _ hne => Below.heap_setCell _ _ _ _ (fun e => hne (congrArg some e))⟩
theorem touch_drew {w w1 : World} {row : Option Nat} (h : w.grownBy w1 row) : w.grownBy w1.drew row := ⟨h.os, h.tape, h.output, h.size, h.block⟩


/-- a set that is handed back through a cell -/
theorem ret25 {fn : Func} {p : Tmp} (h : fn.results = #[.cell p 25]) {a : Act} {W : World} {R : Ending → World → Prop} (g : Nat) (q : Q4) (hp : a.tmps.getD p undef = .pointer (some ⟨g, 0, none⟩)) (hb : Blk W g q) (hd : a.defers = [])
    (hR : R (.returned (.agg #[.int .u64 q.a, .int .u64 q.b, .int .u64 q.c, .int .u64 q.d])) W) : bodyPost Try.prog fn R .ret a W :=
  bodyPost_ret (results_cell_row h _ _ g 25 _ (0, 0) _ hp hb Try.underlying25 rfl (by kernel_rfl)) hd hR
theorem blk_new (w : World) (q : Q4) : Blk (w.alloc (.cells #[.int .u64 q.a, .int .u64 q.b, .int .u64 q.c, .int .u64 q.d] 25)) w.heap.size q := heap_alloc_new w _
theorem blk_new2 (w : World) (o : Obj) (q : Q4) : Blk ((w.alloc o).alloc (.cells #[.int .u64 q.a, .int .u64 q.b, .int .u64 q.c, .int .u64 q.d] 25)) (w.heap.size + 1) q := heap_alloc2_new w _ _

theorem wth_0 (q : Q4) (n m : Nat) (h : n / 64 = 0) (hm : n % 64 = m) : wth q n = ⟨q.a ||| 2 ^ m, q.b, q.c, q.d⟩ := by unfold wth; rw [h, hm]; rfl
theorem wth_1 (q : Q4) (n m : Nat) (h : n / 64 = 1) (hm : n % 64 = m) : wth q n = ⟨q.a, q.b ||| 2 ^ m, q.c, q.d⟩ := by unfold wth; rw [h, hm]; rfl
theorem wth_2 (q : Q4) (n m : Nat) (h : n / 64 = 2) (hm : n % 64 = m) : wth q n = ⟨q.a, q.b, q.c ||| 2 ^ m, q.d⟩ := by unfold wth; rw [h, hm]; rfl
theorem wth_3 (q : Q4) (n m : Nat) (h : n / 64 = 3) (hm : n % 64 = m) : wth q n = ⟨q.a, q.b, q.c, q.d ||| 2 ^ m⟩ := by unfold wth; rw [h, hm]; rfl

def PutIs (q : Q4) (n : Nat) (r : Q4) : Prop := ∀ g w, Blk w g q → Calls Try.prog 79 #[.pointer (some ⟨g, 0, none⟩), .int .u8 n] w fun e w' => e = .returned (.tuple #[]) ∧ Blk w' g r ∧ w.grownBy w' (some g)

set_option maxHeartbeats 1000000 in
set_option maxRecDepth 100000 in
theorem put_any (q : Q4) (hq : Fits q) (n : Nat) (hn : n < 256) (r : Q4) (hr : r = wth q n) : PutIs q n r := by
  intro g w hb
  obtain ⟨m, hm, hm64⟩ : ∃ m : Nat, n % 64 = m ∧ m < 64 := ⟨_, rfl, by omega⟩
  have e2 : ((n : Int) % 64) = m := by omega
  rcases quarter n hn with h | h | h | h
  · have e1 : ((n : Int) / 64) = 0 := by omega
    have e3 := bit_or q.a m hq.a hm64
    rw [wth_0 q n m h hm] at hr
    subst hr
    have c := hb.c0
    have f := hb.fz 0
    clear h hm hn
    go_enter Try.func79, Try.ntmps79
    go_region
    all_goals go_end0
    exact ⟨rfl, set_heap w g _ _ 0 _ hb, touch_drew (touch_set _ _ _ _)⟩
  · have e1 : ((n : Int) / 64) = 1 := by omega
    have e3 := bit_or q.b m hq.b hm64
    rw [wth_1 q n m h hm] at hr
    subst hr
    have c := hb.c1
    have f := hb.fz 1
    clear h hm hn
    go_enter Try.func79, Try.ntmps79
    go_region
    all_goals go_end0
    exact ⟨rfl, set_heap w g _ _ 1 _ hb, touch_drew (touch_set _ _ _ _)⟩
  · have e1 : ((n : Int) / 64) = 2 := by omega
    have e3 := bit_or q.c m hq.c hm64
    rw [wth_2 q n m h hm] at hr
    subst hr
    have c := hb.c2
    have f := hb.fz 2
    clear h hm hn
    go_enter Try.func79, Try.ntmps79
    go_region
    all_goals go_end0
    exact ⟨rfl, set_heap w g _ _ 2 _ hb, touch_drew (touch_set _ _ _ _)⟩
  · have e1 : ((n : Int) / 64) = 3 := by omega
    have e3 := bit_or q.d m hq.d hm64
    rw [wth_3 q n m h hm] at hr
    subst hr
    have c := hb.c3
    have f := hb.fz 3
    clear h hm hn
    go_enter Try.func79, Try.ntmps79
    go_region
    all_goals go_end0
    exact ⟨rfl, set_heap w g _ _ 3 _ hb, touch_drew (touch_set _ _ _ _)⟩

theorem wrap_lt (x : Nat) (h : x < 18446744073709551616) : IntKind.u64.wrap (x : Int) = (x : Int) := by
  rw [IntKind.wrap_u64]
  omega
theorem and_lit (x m : Nat) (hx : x < 18446744073709551616) (hm : m < 18446744073709551616) : bits .and .u64 (x : Int) (m : Int) = ((x &&& m : Nat) : Int) := u64_and_nat x m hx hm

theorem set4 {w : World} {g : Nat} {q0 : Q4} (h : Blk w g q0) (q : Q4) : Blk ((((w.setCell ⟨g, 0, none⟩ (.int .u64 q.a)).setCell ⟨g, 1, none⟩ (.int .u64 q.b)).setCell ⟨g, 2, none⟩ (.int .u64 q.c)).setCell ⟨g, 3, none⟩ (.int .u64 q.d)) g q :=
  set_heap _ g _ _ 3 _ (set_heap _ g _ _ 2 _ (set_heap _ g _ _ 1 _ (set_heap w g _ _ 0 _ h)))
theorem Below.set4 {n : Nat} {w w' : World} (h : Below n w w') {g : Nat} (hg : n ≤ g) (q : Q4) : Below n w ((((w'.setCell ⟨g, 0, none⟩ (.int .u64 q.a)).setCell ⟨g, 1, none⟩ (.int .u64 q.b)).setCell ⟨g, 2, none⟩ (.int .u64 q.c)).setCell ⟨g, 3, none⟩ (.int .u64 q.d)) :=
  (((h.setCell (p := ⟨g, 0, none⟩) hg _).setCell (p := ⟨g, 1, none⟩) hg _).setCell (p := ⟨g, 2, none⟩) hg _).setCell (p := ⟨g, 3, none⟩) hg _
theorem set4_other {w : World} {g h : Nat} {q0 : Q4} (b : Blk w g q0) (hne : g ≠ h) (q : Q4) : Blk ((((w.setCell ⟨h, 0, none⟩ (.int .u64 q.a)).setCell ⟨h, 1, none⟩ (.int .u64 q.b)).setCell ⟨h, 2, none⟩ (.int .u64 q.c)).setCell ⟨h, 3, none⟩ (.int .u64 q.d)) g q0 := by
  unfold Blk
  rw [Below.heap_setCell _ _ _ _ hne, Below.heap_setCell _ _ _ _ hne, Below.heap_setCell _ _ _ _ hne, Below.heap_setCell _ _ _ _ hne]
  exact b
theorem Blk.other {w w' : World} {g h : Nat} {q : Q4} (b : Blk w g q) (t : w.grownBy w' (some h)) (hne : g ≠ h) : Blk w' g q := by
  unfold Blk
  rw [t.block g b.lt (fun e => hne (Option.some.inj e))]
  exact b

def codes (s : ByteArray) : List Nat := s.data.toList.map UInt8.toNat
theorem codes_take (s : ByteArray) (i : Nat) (h : i < s.size) : (codes s).take (i + 1) = (codes s).take i ++ [s[i].toNat] := by
  have hl : i < s.data.toList.length := by simpa using h
  unfold codes
  rw [← List.map_take, ← List.map_take, List.take_succ_eq_append_getElem hl, List.map_append]
  rfl
theorem codes_length (s : ByteArray) : (codes s).length = s.size := by unfold codes; simp
theorem ofl_snoc (l : List Nat) (n : Nat) : ofl (l ++ [n]) = wth (ofl l) n := by unfold ofl; rw [List.foldl_append]; rfl

theorem index_0 (a b c d : Value) (W : World) : (Instr.index 23 (.agg #[a, b, c, d]) (.int .i64 0)).run Try.prog W = .ok a W := by
  simp [Instr.index, asIntOf, run_underlying Try.underlying23, part, Try.isAgg22, Try.sizeOf22]
theorem index_1 (a b c d : Value) (W : World) : (Instr.index 23 (.agg #[a, b, c, d]) (.int .i64 1)).run Try.prog W = .ok b W := by
  simp [Instr.index, asIntOf, run_underlying Try.underlying23, part, Try.isAgg22, Try.sizeOf22]
theorem index_2 (a b c d : Value) (W : World) : (Instr.index 23 (.agg #[a, b, c, d]) (.int .i64 2)).run Try.prog W = .ok c W := by
  simp [Instr.index, asIntOf, run_underlying Try.underlying23, part, Try.isAgg22, Try.sizeOf22]
theorem index_3 (a b c d : Value) (W : World) : (Instr.index 23 (.agg #[a, b, c, d]) (.int .i64 3)).run Try.prog W = .ok d W := by
  simp [Instr.index, asIntOf, run_underlying Try.underlying23, part, Try.isAgg22, Try.sizeOf22]

theorem heap3 (w : World) (A B C : Obj) : (((w.alloc A).alloc B).alloc C).heap[w.heap.size + 1 + 1]? = some C := by
  have h := heap_alloc_new ((w.alloc A).alloc B) C
  simp only [World.size_alloc] at h
  exact h

def JoinIs (q r s : Q4) : Prop := ∀ w, Calls Try.prog 83 #[.agg #[.int .u64 q.a, .int .u64 q.b, .int .u64 q.c, .int .u64 q.d], .agg #[.int .u64 r.a, .int .u64 r.b, .int .u64 r.c, .int .u64 r.d]] w fun e w' => e = .returned (.agg #[.int .u64 s.a, .int .u64 s.b, .int .u64 s.c, .int .u64 s.d]) ∧ Below w.heap.size w w'

set_option maxHeartbeats 1000000 in
set_option maxRecDepth 100000 in
theorem join_any (q r s : Q4) (hq : Fits q) (hr : Fits r) (hs : s = jn q r) : JoinIs q r s := by
  intro w
  have e0 := u64_or_nat q.a r.a hq.a hr.a
  have e1 := u64_or_nat q.b r.b hq.b hr.b
  have e2 := u64_or_nat q.c r.c hq.c hr.c
  have e3 := u64_or_nat q.d r.d hq.d hr.d
  have i0 := index_0
  have i1 := index_1
  have i2 := index_2
  have i3 := index_3
  subst hs
  go_enter Try.func83, Try.ntmps83
  go_wp2
  refine wp_loop_rounds 5 ?_
  rw [rounds_succ]
  go_wp2
  rw [rounds_succ]
  go_wp2
  rw [rounds_succ]
  go_wp2
  rw [rounds_succ]
  go_wp2
  rw [rounds_succ]
  go_wp2
  refine ret25 Try.results83 (w.heap.size + 1 + 1) ⟨q.a ||| r.a, q.b ||| r.b, q.c ||| r.c, q.d ||| r.d⟩ rfl (heap3 w _ _ _) rfl ?_
  exact ⟨rfl, (((Below.refl _ _).alloc (Nat.le_refl _) _).alloc (by simp) _).alloc (by simp; omega) _⟩

theorem turn_all (x : Nat) (h : x < 18446744073709551616) : bits .xor .u64 IntKind.u64.max (x : Int) = ((2 ^ 64 - (x + 1) : Nat) : Int) := by
  have h1 := u64_xor_nat 18446744073709551615 x (by decide) h
  have e : 18446744073709551615 ^^^ x = 2 ^ 64 - (x + 1) := by
    apply Nat.eq_of_testBit_eq
    intro i
    rw [Nat.testBit_xor, Nat.testBit_two_pow_sub_succ (show x < 2 ^ 64 from h), show (18446744073709551615 : Nat) = 2 ^ 64 - 1 from by decide, Nat.testBit_two_pow_sub_one]
    by_cases hi : i < 64
    · simp [hi]
    · rw [Nat.testBit_lt_two_pow (Nat.lt_of_lt_of_le (show x < 2 ^ 64 from h) (Nat.pow_le_pow_right (by omega) (by omega)))]
      simp [hi]
  rw [e] at h1
  exact h1

theorem info5 : (Try.prog.info? 5).map (fun i => (i.zero, i.size, i.bytes)) = some (some (.int .u8 0), 1, 1) := by kernel_rfl
theorem cells_one {n : Nat} (h : n < 256) : Lib.byteCells [UInt8.ofNat n] = [.int .u8 (n : Int)] := by
  simp [Lib.byteCells, Nat.mod_eq_of_lt h]
theorem owns_below {B : Nat} {e : TypeId} {k : Nat} {v : Value} {n : Nat} {xs : List Value} {w w' : World} (h : w.ownsRowF B e k v n xs) (hb : Below w.heap.size w w') : w'.ownsRowF B e k v n xs :=
  h.kept (row := none) ⟨hb.os, hb.tape, hb.output, hb.size, fun k hk _ => hb.block k hk⟩ (by cases v.ownBlock <;> simp)
theorem buf_below {B : Nat} {v : Value} {n : Nat} {xs : List Value} {W0 w w' : World} (h : Lib.OwnBuf B 5 v n xs W0 w) (hb : Below w.heap.size w w') : Lib.OwnBuf B 5 v n xs W0 w' :=
  ⟨owns_below h.1 hb, h.2.1.trans (hb.mono h.2.2), Nat.le_trans h.2.2 hb.size⟩
theorem conv_own {B : Nat} {v : Value} {acc : List UInt8} {w : World} (h : w.ownsRowF B 5 1 v acc.length (Lib.byteCells acc)) :
    Sem.run Try.prog (convert 84 9 v) w = .ok (.string ⟨acc.toArray⟩) w := by
  rcases h.2 with ⟨rfl, h0⟩ | ⟨g, cap, cur, fz, rfl, _, hg, _, hcap, _, hcs, htk⟩
  · have : acc = [] := List.length_eq_zero_iff.1 h0
    subst this
    exact run_convert_bytes_nil w 84 5 Try.underlying84 Try.underlying5 0 0 9 Try.underlying9
  · refine run_convert_bytes_back w 84 9 5 ⟨g, 0, none⟩ cap acc Try.underlying84 Try.underlying5 Try.underlying9 fun j hj => ?_
    have hplain : (⟨g, 0, none⟩ : Addr).add j = ⟨g, j, none⟩ := by unfold Addr.add; simp; omega
    have hj2 : j < cur.toList.length := by simp; omega
    have e : cur.toList[j]? = some (.int .u8 (acc[j].toNat : Int)) := by
      have h1 : (cur.toList.take (acc.length * 1))[j]? = (Lib.byteCells acc)[j]? := by rw [htk]
      rw [List.getElem?_take_of_lt (by omega)] at h1
      rw [h1]
      simp [Lib.byteCells, hj]
    rw [hplain]
    rw [Array.getElem?_toList] at e
    simp [World.cell?, hg, e]

/-- the text of a set's bytes below a number -/
def upto (q : Q4) (i : Nat) : List UInt8 := ((List.range i).filter (has q)).map UInt8.ofNat
def text (q : Q4) : ByteArray := ⟨(upto q 256).toArray⟩
theorem upto_in {q : Q4} {i : Nat} (h : has q i = true) : upto q (i + 1) = upto q i ++ [UInt8.ofNat i] := by
  unfold upto
  rw [List.range_succ, List.filter_append, List.map_append]
  simp [h]
theorem upto_out {q : Q4} {i : Nat} (h : has q i = false) : upto q (i + 1) = upto q i := by
  unfold upto
  rw [List.range_succ, List.filter_append, List.map_append]
  simp [h]
theorem upto_length (q : Q4) (i : Nat) : (upto q i).length ≤ i := by
  unfold upto
  have := List.length_filter_le (has q) (List.range i)
  simpa using this
theorem codes_text (q : Q4) : codes (text q) = mem q := by
  show ((upto q 256).map UInt8.toNat) = _
  unfold upto mem
  rw [List.map_map]
  have : ∀ l : List Nat, (∀ n ∈ l, n < 256) → l.map (UInt8.toNat ∘ UInt8.ofNat) = l := by
    intro l hl
    induction l with
    | nil => rfl
    | cons x l ih =>
      rw [List.map_cons, ih (fun n hn => hl n (by simp [hn]))]
      have := hl x (by simp)
      simp [Nat.mod_eq_of_lt this]
  exact this _ fun n hn => by simpa using (List.mem_filter.1 hn).1
theorem text_size (q : Q4) : (text q).size = cnt q := by
  have := codes_length (text q)
  rw [codes_text] at this
  exact this.symm

/-- the set of what is told by a test -/
def suchThat (p : Nat → Bool) : Q4 := ofl ((List.range 256).filter p)
theorem has_such (p : Nat → Bool) (n : Nat) (h : n < 256) : has (suchThat p) n = p n := by
  unfold suchThat
  rw [has_ofl _ _ h]
  cases hp : p n <;> simp [hp, h]
theorem fits_such (p : Nat → Bool) : Fits (suchThat p) := fits_ofl _

/-- a set that is being made, up to a byte -/
structure Upto (q : Q4) (p : Nat → Bool) (lo i : Nat) : Prop where
  fits : Fits q
  here : ∀ n, n < 256 → has q n = (decide (lo ≤ n) && decide (n < i) && p n)
theorem Upto.start (p : Nat → Bool) (lo : Nat) : Upto none4 p lo lo := ⟨fits_none, fun n _ => by
  rw [has_none]
  by_cases h : lo ≤ n
  · have : decide (n < lo) = false := by simp; omega
    simp [this]
  · simp [h]⟩
theorem Upto.out {q : Q4} {p : Nat → Bool} {lo i : Nat} (h : Upto q p lo i) (hi : p i = false) : Upto q p lo (i + 1) := ⟨h.fits, fun n hn => by
  rw [h.here n hn]
  by_cases e : n = i
  · subst e; simp [hi]
  · have : decide (n < i + 1) = decide (n < i) := by rw [decide_eq_decide]; omega
    rw [this]⟩
theorem Upto.put {q : Q4} {p : Nat → Bool} {lo i : Nat} (h : Upto q p lo i) (hi : p i = true) (hlo : lo ≤ i) : Upto (wth q i) p lo (i + 1) := ⟨fits_wth h.fits i, fun n hn => by
  rw [has_wth q i n hn, h.here n hn]
  by_cases e : n = i
  · subst e; simp [hi, hlo]
  · have : decide (n < i + 1) = decide (n < i) := by rw [decide_eq_decide]; omega
    rw [this]; simp [e]⟩
theorem Upto.done {q : Q4} {p : Nat → Bool} {lo i : Nat} (h : Upto q p lo i) (r : Q4) (hr : r = suchThat (fun n => decide (lo ≤ n) && decide (n < i) && p n)) : r = q := by
  rw [hr]
  exact ext (fits_such _) h.fits fun n hn => by rw [has_such _ n hn, h.here n hn]

def RangeIs (lo hi : Nat) (r : Q4) : Prop := ∀ w, Calls Try.prog 62 #[.int .u8 lo, .int .u8 hi] w fun e w' => e = .returned (.agg #[.int .u64 r.a, .int .u64 r.b, .int .u64 r.c, .int .u64 r.d]) ∧ Below w.heap.size w w'
def rng (lo hi : Nat) : Q4 := suchThat (fun n => decide (lo ≤ n) && decide (n ≤ hi))

set_option maxHeartbeats 1000000 in
set_option maxRecDepth 100000 in
theorem range_any (lo hi : Nat) (hlo : lo < 256) (hhi : hi < 256) (r : Q4) (hr : r = rng lo hi) : RangeIs lo hi r := by
  intro w
  have HR : Hid (r = rng lo hi) := hr
  clear hr
  go_enter Try.func62, Try.ntmps62
  go_wp2
  go_loopw [6] (fun x wr => ∃ (i : Nat) (q : Q4), x = .int .i64 i ∧ lo ≤ i ∧ (i ≤ hi + 1 ∨ i = lo) ∧ Blk wr (w.heap.size + 1) q ∧ Blk wr w.heap.size none4 ∧ Below w.heap.size w wr ∧ Hid (Upto q (fun _ => true) lo i)) (fun x _ => 257 - (intOf x).toNat)
  case atStart => exact ⟨lo, none4, rfl, by omega, by omega, heap_alloc2_new w _ _, heap_alloc2_old w _ _, ((Below.refl _ _).alloc (Nat.le_refl _) _).alloc (by simp) _, Upto.start _ _⟩
  case round =>
    obtain ⟨i, q, rfl, hli, hih, b1, b0, hB, HU⟩ := hrel
    by_cases hin : i ≤ hi
    · have hp := put_any q HU.out.fits i (by omega) _ rfl
      have HN : Hid (Upto (wth q i) (fun _ => true) lo (i + 1)) := HU.out.put rfl hli
      generalize wth q i = q2 at *
      clear HU hih
      go_wp2_with (go_at_call 79; refine (hp _ _ b1).mono ?_; rintro e w1 ⟨rfl, b2, t2⟩)
      go_roundw
      case rel => exact ⟨i + 1, q2, by go_num, by omega, .inl (by omega), b2, b0.other t2 (by omega), hB.grown t2 hB.size (by intro k hk; simp at hk; omega), HN⟩
      case measure => simp [intOf]; omega
    · have HE : Hid (r = q) := HU.out.done r (by
        rw [HR.out]
        unfold rng
        congr 1
        funext n
        by_cases h1 : lo ≤ n
        · have : decide (n ≤ hi) = decide (n < i) := by rw [decide_eq_decide]; omega
          simp [this, h1]
        · simp [h1])
      have c0 := b1.c0
      have c1 := b1.c1
      have c2 := b1.c2
      have c3 := b1.c3
      have d0 := b0.c0
      have d1 := b0.c1
      have d2 := b0.c2
      have d3 := b0.c3
      have f0 := b0.fz 0
      have f1 := b0.fz 1
      have f2 := b0.fz 2
      have f3 := b0.fz 3
      clear HU HR hih
      go_wp2
      refine ret25 Try.results62 w.heap.size q rfl (set4 b0 q) rfl ?_
      exact ⟨by rw [HE.out], Below.set4 hB (Nat.le_refl _) q⟩

theorem heap3_mid (w : World) (A B C : Obj) : (((w.alloc A).alloc B).alloc C).heap[w.heap.size + 1]? = some B := by
  rw [Lib.alloc_old _ _ _ (by simp)]
  exact heap_alloc2_new w A B
theorem heap3_old (w : World) (A B C : Obj) : (((w.alloc A).alloc B).alloc C).heap[w.heap.size]? = some A := by
  rw [Lib.alloc_old _ _ _ (by simp; omega)]
  exact heap_alloc2_old w A B

theorem codes_append (s t : ByteArray) : codes (s ++ t) = codes s ++ codes t := by
  unfold codes
  rw [ByteArray.toList_data_append, List.map_append]
theorem ofl_both {q r : Q4} (hq : Fits q) (hr : Fits r) : jn q r = ofl (codes (text q ++ text r)) := by
  refine ext (fits_jn hq hr) (fits_ofl _) fun n hn => ?_
  rw [has_jn _ _ n hn, has_ofl _ n hn, codes_append, codes_text, codes_text]
  unfold mem
  cases h1 : has q n <;> cases h2 : has r n <;> simp [h1, h2, hn]

theorem meet_by {q r : Q4} (hq : Fits q) (hr : Fits r) : mt q r = nt (jn (nt q) (nt r)) := by
  rw [rule1 (fits_nt _) (fits_nt _), rule5 hq, rule5 hr]

theorem u64_range {a : Int} (h : (Lit.int .u64 a).wf = true) : 0 ≤ a ∧ a < 18446744073709551616 := by
  have e1 : IntKind.u64.min = 0 := by decide
  have e2 : IntKind.u64.max = 18446744073709551615 := by decide
  simp [Lit.wf] at h
  rw [e1, e2] at h
  omega
theorem u8_range {a : Int} (h : (Lit.int .u8 a).wf = true) : 0 ≤ a ∧ a < 256 := by
  have e1 : IntKind.u8.min = 0 := by decide
  have e2 : IntKind.u8.max = 255 := by decide
  simp [Lit.wf] at h
  rw [e1, e2] at h
  omega
theorem i64_range {a : Int} (h : (Lit.int .i64 a).wf = true) : -9223372036854775808 ≤ a ∧ a < 9223372036854775808 := by
  have e1 : IntKind.i64.min = -9223372036854775808 := by decide
  simp [Lit.wf] at h
  rw [e1] at h
  omega

def nth (l : List Q4) (i : Nat) : Q4 := l.getD i none4

/-- a value that reads, in a world, as a list of sets -/
def Sets (w : World) (v : Value) (l : List Q4) : Prop :=
  (l = [] ∧ ∃ a cap, v = .slice a 0 cap) ∨
  (∃ b off cap, v = .slice (some ⟨b, off, none⟩) l.length cap ∧ l.length ≤ cap ∧ cap ≤ 9223372036854775807 ∧ b < w.heap.size ∧ ∀ i, i < l.length →
    w.cell? ⟨b, off + i * 4, none⟩ = some (.int .u64 (nth l i).a) ∧ w.cell? ⟨b, off + i * 4 + 1, none⟩ = some (.int .u64 (nth l i).b) ∧ w.cell? ⟨b, off + i * 4 + 2, none⟩ = some (.int .u64 (nth l i).c) ∧ w.cell? ⟨b, off + i * 4 + 3, none⟩ = some (.int .u64 (nth l i).d))

theorem Sets.below {w w' : World} {v : Value} {l : List Q4} (h : Sets w v l) (hb : Below w.heap.size w w') : Sets w' v l := by
  rcases h with h | ⟨b, off, cap, hv, hl, hm, hlt, hc⟩
  · exact .inl h
  · exact .inr ⟨b, off, cap, hv, hl, hm, Nat.lt_of_lt_of_le hlt hb.size, fun i hi => ⟨by rw [hb.cell hlt]; exact (hc i hi).1, by rw [hb.cell hlt]; exact (hc i hi).2.1, by rw [hb.cell hlt]; exact (hc i hi).2.2.1, by rw [hb.cell hlt]; exact (hc i hi).2.2.2⟩⟩

theorem nth_mem (l : List Q4) (i : Nat) (h : i < l.length) : nth l i ∈ l := by
  unfold nth
  rw [List.getD_eq_getElem?_getD, List.getElem?_eq_getElem h]
  exact List.getElem_mem h
theorem take_nth (l : List Q4) (i : Nat) (h : i < l.length) : l.take (i + 1) = l.take i ++ [nth l i] := by
  rw [List.take_succ_eq_append_getElem h]
  unfold nth
  rw [List.getD_eq_getElem?_getD, List.getElem?_eq_getElem h]
  rfl

instance : Inhabited Q4 := ⟨none4⟩

end Go.Proofs.Ytfilndgbgdnpiaa.st

namespace Go.Proofs.Ytfilndgbgdnpiaa.st
open Go.Sort Go.ChangeShapes Go.WideShapes Go.ChangeAt Go.RowKit
set_option linter.unusedVariables false
set_option maxRecDepth 10000

theorem blk_cells (W : World) (q : Q4) (o : Obj) (ho : o = .cells #[.int .u64 q.a, .int .u64 q.b, .int .u64 q.c, .int .u64 q.d] 25) : Blk (W.alloc o) W.heap.size q := by
  rw [ho]
  exact blk_new W q

/-- alike so far -/
def alikeTo (l : List Q4) (b c i : Nat) : Prop := ∀ j, j < i → has (nth l j) b = has (nth l j) c
theorem alikeTo_all (l : List Q4) (b c : Nat) : alikeTo l b c l.length ↔ sig l b = sig l c := by
  rw [sig_eq]
  constructor
  · intro h q hq
    obtain ⟨j, hj, rfl⟩ := List.getElem_of_mem hq
    have := h j hj
    unfold nth at this
    rw [List.getD_eq_getElem?_getD, List.getElem?_eq_getElem hj] at this
    exact this
  · intro h j hj
    exact h _ (nth_mem l j hj)

/-- a row of bytes that the call has made -/
def Row (w : World) (g : Nat) (xs : List Nat) : Prop := w.heap[g]? = some (.cells (xs.map fun n : Nat => Value.int .u8 (n : Int)).toArray 5 (0, 0))
theorem Row.lt {w : World} {g : Nat} {xs : List Nat} (h : Row w g xs) : g < w.heap.size := (Array.getElem?_eq_some_iff.1 h).1
theorem Row.later {w w' : World} {g : Nat} {xs : List Nat} (h : Row w g xs) (b : Below w.heap.size w w') : Row w' g xs := by unfold Row; rw [b.block g h.lt]; exact h
theorem Row.cell {w : World} {g : Nat} {xs : List Nat} (h : Row w g xs) (i : Nat) (hi : i < xs.length) : w.cell? ⟨g, i, none⟩ = some (.int .u8 (xs.getD i 0 : Nat)) := by
  rw [Lib.cell_of_heap h, List.getD_eq_getElem?_getD, List.getElem?_eq_getElem hi]
  simp [hi]
theorem Row.fz {w : World} {g : Nat} {xs : List Nat} (h : Row w g xs) (i : Nat) : w.frozen? ⟨g, i, none⟩ = false := Lib.frozen_of_heap h i
theorem Row.put {w : World} {g : Nat} {xs : List Nat} (h : Row w g xs) (i v : Nat) : Row (w.setCell ⟨g, i, none⟩ (.int .u8 v)) g (xs.set i v) := by
  unfold Row
  rw [set_heap w g _ _ i _ h]
  congr 2
  simp
theorem Row.text {w : World} {g : Nat} {xs : List Nat} (h : Row w g xs) (hx : ∀ x ∈ xs, x < 256) : Sem.run Try.prog (convert 84 9 (.slice (some ⟨g, 0, none⟩) xs.length xs.length)) w = .ok (.string ⟨(xs.map UInt8.ofNat).toArray⟩) w := by
  have h2 := run_convert_bytes_back (P := Try.prog) w 84 9 5 ⟨g, 0, none⟩ xs.length (xs.map UInt8.ofNat) Try.underlying84 Try.underlying5 Try.underlying9 (fun j hj => by
    have hj2 : j < xs.length := by simpa using hj
    have hplain : (⟨g, 0, none⟩ : Addr).add j = ⟨g, j, none⟩ := by unfold Addr.add; simp; omega
    rw [hplain, h.cell j hj2, List.getD_eq_getElem?_getD, List.getElem?_eq_getElem hj2]
    have := hx _ (List.getElem_mem hj2)
    simp [Nat.mod_eq_of_lt this])
  rw [List.length_map] at h2
  exact h2

theorem bit8_or (x m : Nat) (hx : x < 256) (hm : m < 8) : bits .or .u8 (x : Int) (2 ^ m % 256) = ((x ||| 2 ^ m : Nat) : Int) := by
  have hp : (2 : Nat) ^ m < 256 := Nat.lt_of_lt_of_le (Nat.pow_lt_pow_right (by omega) hm) (by decide)
  have h1 : (2 : Int) ^ m % 256 = ((2 ^ m : Nat) : Int) := by
    have e : ((2 : Int) ^ m) = ((2 ^ m : Nat) : Int) := by simp
    rw [e]
    generalize 2 ^ m = y at *
    omega
  rw [h1]
  exact u8_or_nat _ _ hx hp

theorem sig_at (l : List Q4) (b i : Nat) (h : i < l.length) : (sig l b).getD i false = has (nth l i) b := by
  unfold sig nth
  rw [List.getD_eq_getElem?_getD, List.getD_eq_getElem?_getD, List.getElem?_map, List.getElem?_eq_getElem h]
  rfl
theorem pack_in {l : List Q4} {b i : Nat} (hi : i < l.length) (h : has (nth l i) b = true) : packTo (sig l b) (i + 1) = (packTo (sig l b) i).set (i / 8) ((packTo (sig l b) i).getD (i / 8) 0 ||| 2 ^ (i % 8)) := by
  rw [packTo, sig_at l b i hi, h]
  rfl
theorem pack_out {l : List Q4} {b i : Nat} (hi : i < l.length) (h : has (nth l i) b = false) : packTo (sig l b) (i + 1) = packTo (sig l b) i := by
  rw [packTo, sig_at l b i hi, h]
  rfl

def WithinIs (l : List Q4) (b : Nat) (t : ByteArray) : Prop := ∀ v w, Sets w v l → Calls Try.prog 78 #[v, .int .u8 b] w fun e w' => e = .returned (.string t) ∧ Below w.heap.size w w'

theorem make46 (n : Nat) (hn : n ≤ 1000000) (W : World) : (Instr.makeSlice 84 (.int .i64 (n : Int)) (.int .i64 (n : Int))).run Try.prog W = .ok (.slice (some ⟨W.heap.size, 0, none⟩) n n) (W.alloc (.cells (madeCells #[.int .u8 0] n) 5)) :=
  run_make_row' (P := Try.prog) 84 5 (.int .u8 0) 1 Try.underlying84 info5 rfl .i64 .i64 n (by omega) (by omega) W
theorem made_row (W : World) (n : Nat) : Row (W.alloc (.cells (madeCells #[.int .u8 0] n) 5)) W.heap.size (List.replicate n 0) := by
  unfold Row
  rw [heap_alloc_new]
  congr 2
  apply Array.toList_inj.1
  rw [toList_madeCells_one]
  simp

set_option maxHeartbeats 1000000 in
set_option maxRecDepth 100000 in
theorem within_any (l : List Q4) (hf : ∀ q ∈ l, Fits q) (hlen : l.length ≤ 1000000) (b : Nat) (hb : b < 256) (t : ByteArray) (ht : t = ⟨(key l b).toArray⟩) : WithinIs l b t := by
  intro v w hv
  have HT : Hid (t = ⟨(key l b).toArray⟩) := ht
  clear ht
  rcases hv with ⟨rfl, a, cap, rfl⟩ | ⟨g, off, cap, rfl, hl, hm, hlt, hcell⟩
  · have hmk := make46 0 (by omega)
    have hr := made_row w 0
    have htx := hr.text (by simp)
    have hk : key [] b = [] := by simp [key, packTo, sig]
    have HE : Hid (t = ⟨#[]⟩) := by show _ = _; rw [HT.out, hk]
    have hrep : (List.replicate 0 0 : List Nat).length = 0 := rfl
    obtain ⟨w0, hw0⟩ : ∃ w0, w0 = w.alloc (.cells (madeCells #[.int .u8 0] 0) 5) := ⟨_, rfl⟩
    have hB : Below w.heap.size w w0 := by rw [hw0]; exact (Below.refl _ _).alloc (Nat.le_refl _) _
    have hmk2 : (Instr.makeSlice 84 (.int .i64 0) (.int .i64 0)).run Try.prog w = .ok (.slice (some ⟨w.heap.size, 0, none⟩) 0 0) w0 := by rw [hw0]; exact hmk w
    rw [← hw0] at htx
    have htx2 : Sem.run Try.prog (convert 84 9 (.slice (some ⟨w.heap.size, 0, none⟩) 0 0)) w0 = .ok (.string ⟨#[]⟩) w0 := htx
    clear hmk hr htx HT hk hw0
    go_enter Try.func78, Try.ntmps78
    go_wp2
    go_loopw [16] (fun x wr => x = .int .i64 0 ∧ wr = w0) (fun _ _ => 0)
    case atStart => exact ⟨rfl, rfl⟩
    case round =>
      obtain ⟨rfl, rfl⟩ := hrel
      go_wp2
      go_ret
      exact ⟨by rw [HE.out]; rfl, hB⟩
  · obtain ⟨n, hn⟩ : ∃ n, n = (l.length + 7) / 8 := ⟨_, rfl⟩
    have HE1 : Hid (((l.length : Int) + 8 - 1) / 8 = (n : Int)) := by show _ = _; omega
    have hr0 := made_row w n
    obtain ⟨i0, hi0, hz0, hz1, hz2⟩ := info_parts info5
    have hB0 : Below w.heap.size w (w.alloc (.cells (madeCells #[.int .u8 0] n) 5)) := (Below.refl _ _).alloc (Nat.le_refl _) _
    have hn2 : n ≤ 1000000 := by omega
    have HNN : Hid (n = (l.length + 7) / 8) := hn
    clear hn
    go_enter Try.func78, Try.ntmps78
    go_wp2_with (refine wpList_make_row _ rfl (.tmp 12) (.tmp 12) 84 rfl 5 i0 (.int .u8 0) Try.underlying84 hi0 hz0 hz1 rfl .i64 .i64 n (congrArg (Value.int .i64) HE1.out) (congrArg (Value.int .i64) HE1.out) (by rw [hz2]; omega) (by omega) ?_)
    clear HE1 hi0 hz0 hz1 hz2
    go_loopw [16] (fun x wr => ∃ i : Nat, x = .int .i64 i ∧ i ≤ l.length ∧ Row wr w.heap.size (packTo (sig l b) i) ∧ Below w.heap.size w wr) (fun x _ => l.length - (intOf x).toNat)
    case atStart => exact ⟨0, rfl, by omega, by rw [packTo, sig_length, ← HNN.out]; exact hr0, hB0⟩
    case round =>
      obtain ⟨i, rfl, hi, hR, hB⟩ := hrel
      have hpl := packTo_length (sig l b) i
      rw [sig_length, ← HNN.out] at hpl
      by_cases hend : i < l.length
      · obtain ⟨c0, c1, c2, c3⟩ := hcell i hend
        rw [← hB.cell (p := ⟨g, off + i * 4, none⟩) hlt] at c0
        rw [← hB.cell (p := ⟨g, off + i * 4 + 1, none⟩) hlt] at c1
        rw [← hB.cell (p := ⟨g, off + i * 4 + 2, none⟩) hlt] at c2
        rw [← hB.cell (p := ⟨g, off + i * 4 + 3, none⟩) hlt] at c3
        have hfx := hf _ (nth_mem l i hend)
        have hB2 : Below w.heap.size w (wr.alloc (.cells #[.int .u64 (nth l i).a, .int .u64 (nth l i).b, .int .u64 (nth l i).c, .int .u64 (nth l i).d] 25)) := hB.alloc hB.size _
        have hR2 : Row (wr.alloc (.cells #[.int .u64 (nth l i).a, .int .u64 (nth l i).b, .int .u64 (nth l i).c, .int .u64 (nth l i).d] 25)) w.heap.size (packTo (sig l b) i) := hR.later ((Below.refl _ _).alloc (Nat.le_refl _) _)
        by_cases hh : has (nth l i) b = true
        · have hp := has_any (nth l i) hfx b hb true hh.symm
          obtain ⟨k, hk⟩ : ∃ k, k = i / 8 := ⟨_, rfl⟩
          obtain ⟨m, hm8⟩ : ∃ m, m = i % 8 := ⟨_, rfl⟩
          have e2 : ((i : Int) / 8) = (k : Int) := by omega
          have e3 : ((i : Int) % 8) = (m : Int) := by omega
          obtain ⟨y, hy⟩ : ∃ y, y = (packTo (sig l b) i).getD k 0 := ⟨_, rfl⟩
          have hy2 : y < 256 := by rw [hy]; exact getD_lt_256 _ (packTo_lt _ _) _
          have e4 := bit8_or y m hy2 (by omega)
          have hkn : k < n := by have := HNN.out; omega
          have HP : Hid (packTo (sig l b) (i + 1) = (packTo (sig l b) i).set k (y ||| 2 ^ m)) := by show _ = _; rw [pack_in hend hh, hy, hk, hm8]
          have HC : Hid (∀ W, Row W w.heap.size (packTo (sig l b) i) → W.cell? ⟨w.heap.size, k, none⟩ = some (.int .u8 (y : Nat))) := fun W hW => by rw [hW.cell k (by omega), hy]
          generalize nth l i = x at *
          clear hcell hh hk hm8 hy hpl
          go_wp2_with (go_at_call 56; refine (hp _).mono ?_; rintro e w1 ⟨rfl, b1⟩; have hR3 := hR2.later b1; have hB3 := chain hB2 b1; have kc := HC.out _ hR3; have kf := hR3.fz k)
          go_region
          all_goals go_wp2
          all_goals exact ⟨⟨i + 1, by go_num, by omega, by rw [HP.out]; exact hR3.put k _, (hB3.setCell (p := ⟨w.heap.size, k, none⟩) (Nat.le_refl _) _).drew⟩, by simp [intOf]; omega⟩
        · have hfl : has (nth l i) b = false := by simpa using hh
          have hp := has_any (nth l i) hfx b hb false hfl.symm
          have HP : Hid (packTo (sig l b) (i + 1) = packTo (sig l b) i) := pack_out hend hfl
          generalize nth l i = x at *
          clear hcell hh hfl
          go_wp2_with (go_at_call 56; refine (hp _).mono ?_; rintro e w1 ⟨rfl, b1⟩; have hR3 := hR2.later b1; have hB3 := chain hB2 b1)
          go_roundw
          case rel => exact ⟨i + 1, by go_num, by omega, by rw [HP.out]; exact hR3, hB3⟩
          case measure => simp [intOf]; omega
      · have he : i = l.length := by omega
        have htx := hR.text (packTo_lt _ _)
        rw [hpl] at htx
        have HE : Hid (t = ⟨((packTo (sig l b) i).map UInt8.ofNat).toArray⟩) := by show _ = _; rw [HT.out, he]; rfl
        clear HT hcell
        go_wp2
        go_ret
        exact ⟨by rw [HE.out, he]; rfl, hB⟩
end Go.Proofs.Ytfilndgbgdnpiaa.st

namespace Go.Proofs.Ytfilndgbgdnpiaa.st
open Go.Sort Go.ChangeShapes Go.WideShapes Go.ChangeAt Go.RowKit
set_option linter.unusedVariables false
set_option maxRecDepth 10000

/-- an array of 256 bytes in a block of its own -/
def cells36 (xs : List Nat) : Array Value := (xs.map fun n : Nat => Value.int .u8 (n : Int)).toArray
def Arr (w : World) (g : Nat) (xs : List Nat) : Prop := w.heap[g]? = some (.cells (cells36 xs) 48 (0, 0)) ∧ xs.length = 256
theorem Arr.lt {w : World} {g : Nat} {xs : List Nat} (h : Arr w g xs) : g < w.heap.size := (Array.getElem?_eq_some_iff.1 h.1).1
theorem Arr.later {w w' : World} {g : Nat} {xs : List Nat} (h : Arr w g xs) {B : Nat} (b : Below B w w') (hB : g < B) : Arr w' g xs := ⟨by rw [b.block g hB]; exact h.1, h.2⟩
theorem Arr.cell {w : World} {g : Nat} {xs : List Nat} (h : Arr w g xs) (i : Nat) (hi : i < 256) : w.cell? ⟨g, i, none⟩ = some (.int .u8 (xs.getD i 0 : Nat)) := by
  have hi2 : i < xs.length := by rw [h.2]; exact hi
  rw [Lib.cell_of_heap h.1, List.getD_eq_getElem?_getD, List.getElem?_eq_getElem hi2]
  simp [cells36, hi2]
theorem Arr.fz {w : World} {g : Nat} {xs : List Nat} (h : Arr w g xs) (i : Nat) : w.frozen? ⟨g, i, none⟩ = false := Lib.frozen_of_heap h.1 i
theorem Arr.put {w : World} {g : Nat} {xs : List Nat} (h : Arr w g xs) (i v : Nat) : Arr (w.setCell ⟨g, i, none⟩ (.int .u8 v)) g (xs.set i v) := by
  refine ⟨?_, by rw [List.length_set]; exact h.2⟩
  rw [set_heap w g _ _ i _ h.1]
  congr 2
  simp [cells36]
theorem Arr.other {w : World} {g k : Nat} {xs : List Nat} (h : Arr w g xs) (hne : g ≠ k) (i : Nat) (u : Value) : Arr (w.setCell ⟨k, i, none⟩ u) g xs := ⟨by rw [Below.heap_setCell _ _ _ _ hne]; exact h.1, h.2⟩
theorem cells36_size (xs : List Nat) (h : xs.length = 256) : (cells36 xs).size = 256 := by simp [cells36, h]
theorem cells36_one (xs : List Nat) : (cells36 xs).all (·.oneCell') = true := by
  rw [Array.all_eq_true_iff_forall_mem]
  intro x hx
  simp [cells36] at hx
  obtain ⟨n, _, rfl⟩ := hx
  rfl
def noughts : List Nat := List.replicate 256 0
theorem zero36 : ∀ w, (zeroValue 48).run Try.prog w = .ok (.agg (cells36 noughts)) w :=
  (zero_of_info (P := Try.prog) (t := 48) (v := .agg (cells36 noughts)) (n := 256) (by kernel_rfl)).1
theorem info36 (xs : List Nat) (h : xs.length = 256) : (Try.prog.info? 48).map (·.size) = some (cells36 xs).size := by
  rw [cells36_size xs h]
  kernel_rfl

theorem store36 (w : World) (o : Obj) (xs ys : List Nat) (hx : xs.length = 256) (hy : ys.length = 256) : (storeCells ⟨w.heap.size + 1, 0, none⟩ (cells36 ys).toList).run Try.prog ((w.alloc o).alloc (.cells (cells36 xs) 48)) = .ok () ((w.alloc o).alloc (.cells (cells36 ys) 48)) := by
  have h := run_storeCells_new (P := Try.prog) (w.alloc o) 48 (cells36 xs) (cells36 ys) (info36 ys hy) (by rw [cells36_size xs hx, cells36_size ys hy]) (cells36_one ys)
  rw [World.size_alloc] at h
  exact h

theorem like_self (l : List Q4) (i : Nat) : like l i i = true := by simp [like]
theorem nat_bytes (L : List Nat) (h : ∀ c ∈ L, c < 256) (j : Nat) (hj : j < L.length) : (Lib.byteCells (L.map UInt8.ofNat))[j]? = some (.int .u8 (L.getD j 0 : Nat)) := by
  have hc := h _ (List.getElem_mem hj)
  simp [Lib.byteCells, hj, Nat.mod_eq_of_lt hc]

/-- a row that the call owns, with its slice written out -/
structure Own (B : Nat) (w : World) (u : Value) (g cap : Nat) (L : List Nat) : Prop where
  form : u = .slice (some ⟨g, 0, none⟩) L.length cap
  owns : w.ownsRowF B 5 1 u L.length (Lib.byteCells (L.map UInt8.ofNat))
  few : ∀ c ∈ L, c < 256
  room : L.length ≤ cap
theorem Own.cell {B : Nat} {w : World} {u : Value} {g cap : Nat} {L : List Nat} (h : Own B w u g cap L) (j : Nat) (hj : j < L.length) : w.cell? ⟨g, j, none⟩ = some (.int .u8 (L.getD j 0 : Nat)) := by
  have h1 := h.owns.cells (g := g) (by rw [h.form]; rfl) j _ (nat_bytes L h.few j hj)
  have hplain : (⟨g, 0, none⟩ : Addr).add j = ⟨g, j, none⟩ := by unfold Addr.add; split <;> simp_all
  rw [hplain] at h1
  exact h1
theorem Own.lt {B : Nat} {w : World} {u : Value} {g cap : Nat} {L : List Nat} (h : Own B w u g cap L) : B ≤ g ∧ g < w.heap.size := h.owns.lt g (by rw [h.form]; rfl)
theorem Own.later {B : Nat} {w w' : World} {u : Value} {g cap : Nat} {L : List Nat} (h : Own B w u g cap L) (b : Below w.heap.size w w') : Own B w' u g cap L := ⟨h.form, owns_below h.owns b, h.few, h.room⟩
theorem Own.set {B : Nat} {w : World} {u : Value} {g cap : Nat} {L : List Nat} (h : Own B w u g cap L) {k : Nat} (hk : k < B) (i : Nat) (x : Value) : Own B (w.setCell ⟨k, i, none⟩ x) u g cap L :=
  ⟨h.form, h.owns.kept (touch_set w k i x) (.inr (by rw [h.form]; intro e; have := h.lt; simp [Value.ownBlock] at e; omega)), h.few, h.room⟩
/-- behind an append -/
theorem own_more {B : Nat} {w : World} {v : Value} {L : List Nat} {n : Nat} (hn : n < 256) (hL : ∀ c ∈ L, c < 256) (h : w.ownsRowF B 5 1 v (L.length + 1) (Lib.byteCells (L.map UInt8.ofNat) ++ [.int .u8 (n : Int)])) : ∃ g cap, Own B w v g cap (L ++ [n]) := by
  have h' : w.ownsRowF B 5 1 v (L ++ [n]).length (Lib.byteCells ((L ++ [n]).map UInt8.ofNat)) := by
    rw [List.map_append, Lib.byteCells_append, List.length_append, List.map_cons, List.map_nil, cells_one hn]
    exact h
  have hfew : ∀ c ∈ L ++ [n], c < 256 := by
    intro c hc
    rcases List.mem_append.1 hc with hc | hc
    · exact hL c hc
    · simp at hc; omega
  rcases h'.2 with ⟨_, h0⟩ | ⟨g, cap, cur, fz, hv, hb, hg, hrest⟩
  · simp at h0
  · exact ⟨g, cap, ⟨hv, h', hfew, by first | exact hrest.1 | exact hrest.2.1⟩⟩

/-- an array of 256 bytes that is handed back through a cell, and a number beside it -/
theorem ret36 {fn : Func} {p u : Tmp} (h : fn.results = #[.cell p 48, .tmp u]) {a : Act} {W : World} {R : Ending → World → Prop} (g : Nat) (xs : List Nat) (n : Nat) (hp : a.tmps.getD p undef = .pointer (some ⟨g, 0, none⟩)) (hA : Arr W g xs) (hu : a.tmps.getD u undef = .int .i64 n) (hd : a.defers = [])
    (hR : R (.returned (.tuple #[.agg (cells36 xs), .int .i64 n])) W) : bodyPost Try.prog fn R .ret a W :=
  bodyPost_ret (by rw [results_cell_tmp h, hp, hu]; simp [asAddr, Result.andThen, run_loadVar_row W g 48 48 _ (0, 0) _ hA.1 Try.underlying48 rfl (info36 xs hA.2)]) hd hR
theorem Arr.row {w : World} {g : Nat} {xs ys : List Nat} (h : Arr w g xs) (hy : ys.length = 256) : Arr (w.setRow g (cells36 ys)) g ys := ⟨setRow_heap w g _ _ _ _ h.1, hy⟩

/-- where the search for a class stands -/
def KState (p : Nat → Bool) (L : List Nat) (j : Nat) (k : Value) : Prop :=
  (k = .int .i64 (-1) ∧ ∀ m, m < j → p (L.getD m 0) = false) ∨ (∃ f : Nat, k = .int .i64 f ∧ f = L.findIdx p ∧ f < j)
theorem getD_at (L : List Nat) (m : Nat) (h : m < L.length) : L.getD m 0 = L[m] := by
  rw [List.getD_eq_getElem?_getD, List.getElem?_eq_getElem h]; rfl
theorem found_at {p : Nat → Bool} {L : List Nat} {j : Nat} (hj : j < L.length) (h : ∀ m, m < j → p (L.getD m 0) = false) (hp : p (L.getD j 0) = true) : L.findIdx p = j := by
  rw [List.findIdx_eq hj]
  refine ⟨by rw [← getD_at L j hj]; exact hp, fun m hm => ?_⟩
  have := h m hm
  rw [getD_at L m (by omega)] at this
  exact this
theorem none_all {p : Nat → Bool} {L : List Nat} (h : ∀ m, m < L.length → p (L.getD m 0) = false) : L.any p = false := by
  rw [List.any_eq_false]
  intro x hx
  obtain ⟨m, hm, rfl⟩ := List.getElem_of_mem hx
  have := h m hm
  rw [getD_at L m hm] at this
  rw [this]
  simp
theorem some_any {p : Nat → Bool} {L : List Nat} (h : L.findIdx p < L.length) : L.any p = true := by
  rw [List.any_eq_true]
  exact List.findIdx_lt_length.1 h

end Go.Proofs.Ytfilndgbgdnpiaa.st

namespace Go.Proofs.Ytfilndgbgdnpiaa.st
open Go.Sort Go.ChangeShapes Go.WideShapes Go.ChangeAt Go.RowKit Go.Maps
set_option linter.unusedVariables false
set_option maxRecDepth 10000

theorem laidOut : laidOutB Try.prog = true := by kernel_rfl
theorem wide23 : (match Try.prog.underlying 23 with | some (.array _ _) | some (.struct _) => true | _ => false) = true := by rw [Try.underlying23]
theorem law23 : Keyed Try.prog 23 := Keyed.of_law (deep_law_laid laidOut (m := 2) (by omega) (of_decide_eq_true (by kernel_rfl)) (by kernel_rfl) wide23)

def V4 (q : Q4) : Value := .agg #[.int .u64 q.a, .int .u64 q.b, .int .u64 q.c, .int .u64 q.d]
def kl (q : Q4) : Lit := (DataW.agg (H := Unit) [.lit (.int .u64 q.a), .lit (.int .u64 q.b), .lit (.int .u64 q.c), .lit (.int .u64 q.d)]).asKey

theorem wf_u64 (n : Nat) (h : n < 18446744073709551616) : (Lit.int .u64 (n : Int)).wf = true := by
  have e1 : IntKind.u64.min = 0 := by decide
  have e2 : IntKind.u64.max = 18446744073709551615 := by decide
  simp [Lit.wf, e1, e2]
  omega
theorem key23 (q : Q4) (hq : Fits q) : keyOf Try.prog 23 (.agg #[.int .u64 q.a, .int .u64 q.b, .int .u64 q.c, .int .u64 q.d]) = some (kl q) := by
  have hf : (V4 q).formed Try.prog 23 = true := by
    have : Try.prog.cellsOf 23 = 4 := by kernel_rfl
    simp [V4, Value.formed, Try.underlying23, this]
  have hd : DataW.Trod (H := Unit) (fun _ => ()) Try.prog (default : World) 0 (fun _ => true) true 23 (V4 q) (.agg [.lit (.int .u64 q.a), .lit (.int .u64 q.b), .lit (.int .u64 q.c), .lit (.int .u64 q.d)]) [] := by
    refine ⟨2, ?_⟩
    have c23 : Try.prog.cellsOf 23 = 4 := by kernel_rfl
    have c22 : Try.prog.cellsOf 22 = 1 := by kernel_rfl
    have r4 : List.range 4 = [0, 1, 2, 3] := rfl
    simp [V4, Value.cells, DataW.trod, Try.underlying23, Try.underlying22, c23, c22, r4, wf_u64 q.a hq.a, wf_u64 q.b hq.b, wf_u64 q.c hq.c, wf_u64 q.d hq.d]
  obtain ⟨h, _⟩ := keyOf_asKey (by kernel_rfl) wide23 hf hd
  exact h
theorem kl_inj {q r : Q4} (hq : Fits q) (hr : Fits r) (h : kl q = kl r) : q = r := by
  have h1 := key23 q hq
  have h2 := key23 r hr
  rw [h] at h1
  have := law23.inj h1 h2
  cases q; cases r
  simp at this
  simp only [Q4.mk.injEq]
  omega

/-- the set of what was seen -/
def seen (acc : List Q4) : DataW Unit := setOf (.agg []) (acc.map kl)
theorem seen_key {acc : List Q4} (hf : ∀ q ∈ acc, Fits q) : ∀ x ∈ acc.map kl, WideAt.IsKeyLit x := by
  intro x hx
  obtain ⟨q, hq, rfl⟩ := List.mem_map.1 hx
  exact law23.key (key23 q (hf q hq))
theorem has_seen {acc : List Q4} (hf : ∀ q ∈ acc, Fits q) {q : Q4} (hq : Fits q) : Maps.has (seen acc) (kl q) = decide (q ∈ acc) := by
  unfold seen
  rw [has_setOf _ _ _ (seen_key hf), Bool.eq_iff_iff, List.any_eq_true, decide_eq_true_iff]
  constructor
  · rintro ⟨x, hx, hs⟩
    obtain ⟨r, hr, rfl⟩ := List.mem_map.1 hx
    have := kl_inj (hf r hr) hq (WideAt.sameKey_eq hs)
    rw [← this]
    exact hr
  · intro h
    exact ⟨kl q, List.mem_map.2 ⟨q, h, rfl⟩, WideAt.sameKey_self (law23.key (key23 q hq))⟩
theorem seen_more (acc : List Q4) (q : Q4) : seen (acc ++ [q]) = (seen acc).put (kl q) (.agg []) := by
  unfold seen
  rw [List.map_append, List.map_cons, List.map_nil, setOf_snoc]

def cells4 : List Q4 → List Value
  | [] => []
  | q :: l => .int .u64 q.a :: .int .u64 q.b :: .int .u64 q.c :: .int .u64 q.d :: cells4 l
theorem cells4_append (a b : List Q4) : cells4 (a ++ b) = cells4 a ++ cells4 b := by
  induction a with
  | nil => rfl
  | cons x a ih => rw [List.cons_append, cells4, cells4, ih]; rfl
theorem nth_cons (x : Q4) (l : List Q4) (i : Nat) : nth (x :: l) (i + 1) = nth l i := by simp [nth]
theorem cells4_at (l : List Q4) (i : Nat) (h : i < l.length) : (cells4 l)[i * 4]? = some (.int .u64 (nth l i).a) ∧ (cells4 l)[i * 4 + 1]? = some (.int .u64 (nth l i).b) ∧ (cells4 l)[i * 4 + 2]? = some (.int .u64 (nth l i).c) ∧ (cells4 l)[i * 4 + 3]? = some (.int .u64 (nth l i).d) := by
  induction l generalizing i with
  | nil => simp at h
  | cons x l ih =>
    cases i with
    | zero => exact ⟨rfl, rfl, rfl, rfl⟩
    | succ i =>
      have h2 := ih i (by simpa using h)
      have e : (i + 1) * 4 = i * 4 + 1 + 1 + 1 + 1 := by omega
      rw [e, cells4, nth_cons]
      exact h2
def OwnSets (B : Nat) (w : World) (v : Value) (l : List Q4) : Prop := w.ownsRow B 25 4 v l.length (cells4 l)
theorem OwnSets.sets {B : Nat} {w : World} {v : Value} {l : List Q4} (h : OwnSets B w v l) : Sets w v l := by
  rcases h.2 with ⟨rfl, h0⟩ | ⟨g, cap, cur, rfl, hb, hg, hcap, hm, hsz, htk⟩
  · exact .inl ⟨List.eq_nil_of_length_eq_zero h0, _, _, rfl⟩
  · refine .inr ⟨g, 0, cap, rfl, hcap, by unfold maxLen at hm; omega, (Array.getElem?_eq_some_iff.1 hg).1, fun i hi => ?_⟩
    have hc := World.ownsRow.cells h (g := g) rfl
    have hat := cells4_at l i hi
    have hadd : ∀ j, (⟨g, 0, none⟩ : Addr).add j = ⟨g, 0 + j, none⟩ := fun j => by unfold Addr.add; split <;> simp_all
    have h1 := hc _ _ hat.1
    have h2 := hc _ _ hat.2.1
    have h3 := hc _ _ hat.2.2.1
    have h4 := hc _ _ hat.2.2.2
    rw [hadd] at h1 h2 h3 h4
    exact ⟨h1, by rw [Nat.add_assoc]; exact h2, by rw [Nat.add_assoc]; exact h3, by rw [Nat.add_assoc]; exact h4⟩
theorem info25 : (Try.prog.info? 25).map (fun i => (i.zero, i.size, i.bytes)) = some (some (.agg #[.int .u64 0, .int .u64 0, .int .u64 0, .int .u64 0]), 4, 32) := by kernel_rfl
theorem zero55 (w : World) : (zeroValue 149).run Try.prog w = .ok (.agg #[]) w := by kernel_rfl
theorem four_cells (W : World) (q : Q4) : ∀ j u, [Value.int .u64 q.a, .int .u64 q.b, .int .u64 q.c, .int .u64 q.d][j]? = some u → (W.alloc (.cells #[.int .u64 q.a, .int .u64 q.b, .int .u64 q.c, .int .u64 q.d] 25)).cell? ((⟨W.heap.size, 0, none⟩ : Addr).add j) = some u := by
  intro j u hu
  match j, hu with
  | 0, hu => simp at hu; subst hu; simp [Addr.add]
  | 1, hu => simp at hu; subst hu; simp [Addr.add]
  | 2, hu => simp at hu; subst hu; simp [Addr.add]
  | 3, hu => simp at hu; subst hu; simp [Addr.add]
  | j + 4, hu => simp at hu

theorem four_one (q : Q4) : ∀ u ∈ [Value.int .u64 q.a, .int .u64 q.b, .int .u64 q.c, .int .u64 q.d], u.oneCell' = true := by
  intro u hu
  simp at hu
  rcases hu with rfl | rfl | rfl | rfl <;> rfl
theorem OwnSets.kept {B : Nat} {w w' : World} {v : Value} {l : List Q4} (h : OwnSets B w v l) {k : Nat} (t : w.grownBy w' (some k)) (hk : k < B) : OwnSets B w' v l :=
  World.ownsRow.kept h t (.inr (fun e => by have := (World.ownsRow.lt h k e).1; omega))
theorem OwnSets.alloc {B : Nat} {w : World} {v : Value} {l : List Q4} (h : OwnSets B w v l) (o : Obj) : OwnSets B (w.alloc o) v l := World.ownsRow.alloc h o

theorem blk_kept (W : World) (q : Q4) (o : Obj) {w' : World} {k : Nat} (t : ((W.alloc (.cells #[.int .u64 q.a, .int .u64 q.b, .int .u64 q.c, .int .u64 q.d] 25)).alloc o).grownBy w' (some k)) (hk : k < W.heap.size) : Blk w' W.heap.size q := by
  unfold Blk
  rw [t.block _ (by simp; omega) (by intro e; cases e; omega)]
  exact heap_alloc2_old W _ _

def DiffIs (l m : List Q4) : Prop := ∀ v w, Sets w v l → Calls Try.prog 77 #[v] w fun e w' => ∃ u, e = .returned u ∧ Sets w' u m ∧ Below w.heap.size w w'

set_option maxHeartbeats 2000000 in
set_option maxRecDepth 100000 in
theorem diff_any (l : List Q4) (hf : ∀ q ∈ l, Fits q) (hlen : l.length ≤ 1000000) : DiffIs l (diff [] l) := by
  intro v w hv
  have hmm := @run_makeMap Try.prog
  rcases hv with ⟨rfl, a, cap, rfl⟩ | ⟨g, off, cap, rfl, hl, hm, hlt, hcell⟩
  · go_enter Try.func77, Try.ntmps77
    go_wp2
    go_loopw [3, 12] (fun u x wr => u = .slice none 0 0 ∧ x = .int .i64 0 ∧ Below w.heap.size w wr) (fun _ _ _ => 0)
    case atStart => exact ⟨rfl, rfl, (Below.refl _ _).alloc (Nat.le_refl _) _⟩
    case round =>
      obtain ⟨rfl, rfl, hB⟩ := hrel
      go_wp2
      go_ret
      exact ⟨_, rfl, .inl ⟨rfl, _, _, rfl⟩, hB⟩
  · obtain ⟨i0, hi0, hz0, hz1, hz2⟩ := info_parts info25
    go_enter Try.func77, Try.ntmps77
    go_wp2
    go_loopw [3, 12] (fun u x wr => ∃ (k : Nat) (acc : List Q4), x = .int .i64 k ∧ k ≤ l.length ∧ wr.ownsMap Try.prog 23 (unitElem (H := Unit)) w.heap.size k (seen acc) ∧ OwnSets (w.heap.size + 1) wr u acc ∧ Below w.heap.size w wr ∧ w.heap.size + 1 ≤ wr.heap.size ∧ acc.length ≤ k ∧ (∀ q ∈ acc, Fits q) ∧ Hid (acc = diff [] (l.take k))) (fun _ x _ => l.length - (intOf x).toNat)
    case atStart => exact ⟨0, [], rfl, by omega, World.ownsMap_made _ _ _ _, World.ownsRow_nil _ _ _ _, (Below.refl _ _).alloc (Nat.le_refl _) _, by simp, by simp, by simp, rfl⟩
    case round =>
      obtain ⟨k, acc, rfl, hk, hown, hrow, hB, hws, hal, hfa, HA⟩ := hrel
      by_cases hend : k < l.length
      · obtain ⟨c0, c1, c2, c3⟩ := hcell k hend
        rw [← hB.cell (p := ⟨g, off + k * 4, none⟩) hlt] at c0
        rw [← hB.cell (p := ⟨g, off + k * 4 + 1, none⟩) hlt] at c1
        rw [← hB.cell (p := ⟨g, off + k * 4 + 2, none⟩) hlt] at c2
        rw [← hB.cell (p := ⟨g, off + k * 4 + 3, none⟩) hlt] at c3
        have hfx := hf _ (nth_mem l k hend)
        have hkey := key23 _ hfx
        have hhas := has_seen hfa hfx
        have HS : Hid (diff [] (l.take (k + 1)) = if nth l k ∈ acc then acc else acc ++ [nth l k]) := by show _ = _; rw [take_nth l k hend, diff_take, ← HA.out]
        generalize nth l k = x at *
        clear hcell HA
        by_cases hx : x ∈ acc
        · rw [show decide (x ∈ acc) = true from by simp [hx]] at hhas
          have HS2 : Hid (acc = diff [] (l.take (k + 1))) := by show _ = _; rw [HS.out, if_pos hx]
          clear HS hx
          go_wp2_with (first | (at_lookup; refine wpList_lookup_own_unit _ rfl _ _ 148 rfl 23 149 law23 Try.underlying148 (zero55 _) w.heap.size k _ rfl (hown.alloc _) _ _ rfl hkey ?_; rw [hhas]))
          go_roundw
          case rel => exact ⟨k + 1, acc, by go_num, by omega, ((hown.alloc _).alloc _).mono (Nat.le_succ _), World.ownsRow.alloc (World.ownsRow.alloc hrow _) _, (hB.alloc hB.size _).alloc (by simp; omega) _, by simp; omega, by omega, hfa, HS2⟩
          case measure => simp [intOf]; omega
        · rw [show decide (x ∈ acc) = false from by simp [hx]] at hhas
          have HS2 : Hid (acc ++ [x] = diff [] (l.take (k + 1))) := by show _ = _; rw [HS.out, if_neg hx]
          have hfa2 : ∀ q ∈ acc ++ [x], Fits q := by
            intro q hq
            rcases List.mem_append.1 hq with hq | hq
            · exact hfa q hq
            · rw [List.mem_singleton.1 hq]; exact hfx
          clear HS hx
          go_wp2_with (first | (at_lookup; refine wpList_lookup_own_unit _ rfl _ _ 148 rfl 23 149 law23 Try.underlying148 (zero55 _) w.heap.size k _ rfl (hown.alloc _) _ _ rfl hkey ?_; rw [hhas]) | (at_mapUpdate; refine wpList_mapUpdate_own _ rfl _ _ _ 148 rfl 23 149 law23 Try.underlying148 (unitElem (H := Unit)) w.heap.size k _ rfl ((hown.alloc _).alloc _) (by unfold maxLen; omega) _ _ _ rfl rfl hkey _ [] unitElem_mk ?_; intro w1 hown1 hgrow1; have hrow1 := ((hrow.alloc _).alloc _).kept hgrow1 (Nat.lt_succ_self _); have kb := blk_kept wr x _ hgrow1 (by omega); have q0 := kb.c0; have q1 := kb.c1; have q2 := kb.c2; have q3 := kb.c3) | (at_builtin; refine wpList_append_own _ rfl _ _ 112 rfl (w.heap.size + 1) 25 i0 _ 4 32 Try.underlying112 hi0 hz0 hz1 hz2 rfl (by decide) _ acc.length (cells4 acc) rfl (hrow1.alloc _) ⟨w1.heap.size, 0, none⟩ 1 1 [.int .u64 x.a, .int .u64 x.b, .int .u64 x.c, .int .u64 x.d] rfl rfl (four_cells w1 x) (four_one x) (by unfold maxLen; omega) (by omega) (by have := hgrow1.size; simp at this ⊢; omega) ?_; intro v' w2 hown' hgrow2 hnil2))
          have s1 := hgrow1.size
          have s2 := hgrow2.size
          simp at s1 s2
          have hrl : ∀ j, Value.ownBlock u3 = some j → w.heap.size + 1 ≤ j := fun j hj => (World.ownsRow.lt hrow j hj).1
          refine ⟨⟨k + 1, acc ++ [x], by go_num, by omega, ?_, ?_, ?_, by omega, by simp; omega, hfa2, HS2⟩, by simp [intOf]; omega⟩
          · rw [seen_more]
            exact (hown1.alloc _).kept hgrow2 (fun e => by have := hrl _ e.symm; omega)
          · unfold OwnSets
            rw [cells4_append, List.length_append]
            exact hown'
          · exact ((((hB.alloc hB.size _).alloc (by simp; omega) _).grown hgrow1 (by simp; omega) (fun j hj => by cases hj; exact Nat.le_refl _)).alloc (by omega) _).grown hgrow2 (by simp; omega) (fun j hj => Nat.le_trans (Nat.le_succ _) (hrl j hj))
      · have he : k = l.length := by omega
        have HE : Hid (acc = diff [] l) := by show _ = _; rw [HA.out, he, List.take_length]
        clear HA hcell
        go_wp2
        go_ret
        exact ⟨_, rfl, by rw [← HE.out]; exact hrow.sets, hB⟩
end Go.Proofs.Ytfilndgbgdnpiaa.st

namespace Go.Proofs.Ytfilndgbgdnpiaa.st
open Go.Sort Go.ChangeShapes Go.WideShapes Go.ChangeAt Go.RowKit Go.Maps
set_option linter.unusedVariables false
set_option maxRecDepth 10000

theorem Sets.kept {w w' : World} {v : Value} {l : List Q4} {k : Nat} (h : Sets w v l) (t : w.grownBy w' (some k)) (hk : ∀ i x, w.cell? ⟨k, i, none⟩ ≠ some (.int .u64 x)) : Sets w' v l := by
  rcases h with h | ⟨b, off, cap, hv, hl, hm, hlt, hc⟩
  · exact .inl h
  · by_cases e : b = k
    · subst e
      refine .inr ⟨b, off, cap, hv, hl, hm, Nat.lt_of_lt_of_le hlt t.size, fun i hi => ?_⟩
      exact absurd (hc i hi).1 (hk _ _)
    · have hb : w'.heap[b]? = w.heap[b]? := t.block b hlt (fun e2 => e (Option.some.inj e2))
      refine .inr ⟨b, off, cap, hv, hl, hm, Nat.lt_of_lt_of_le hlt t.size, fun i hi => ?_⟩
      have h1 := hc i hi
      refine ⟨?_, ?_, ?_, ?_⟩
      · rw [World.cell?_of_block (w := w) (a := ⟨b, off + i * 4, none⟩) hb]; exact h1.1
      · rw [World.cell?_of_block (w := w) (a := ⟨b, off + i * 4 + 1, none⟩) hb]; exact h1.2.1
      · rw [World.cell?_of_block (w := w) (a := ⟨b, off + i * 4 + 2, none⟩) hb]; exact h1.2.2.1
      · rw [World.cell?_of_block (w := w) (a := ⟨b, off + i * 4 + 3, none⟩) hb]; exact h1.2.2.2
theorem Arr.not64 {w : World} {g : Nat} {xs : List Nat} (h : Arr w g xs) : ∀ i x, w.cell? ⟨g, i, none⟩ ≠ some (.int .u64 x) := by
  intro i x e
  rw [Lib.cell_of_heap h.1] at e
  simp [cells36] at e
theorem map_not64 {w : World} {b n : Nat} {D : DataW Unit} (h : w.ownsMap Try.prog 9 (plainElem Try.prog 3) b n D) : ∀ i x, w.cell? ⟨b, i, none⟩ ≠ some (.int .u64 x) := by
  intro i x e
  obtain ⟨es, clock, hb, _⟩ := h
  simp [World.cell?, hb] at e
theorem Arr.grown {w w' : World} {g k : Nat} {xs : List Nat} (h : Arr w g xs) (t : w.grownBy w' (some k)) (hne : g ≠ k) : Arr w' g xs := ⟨by rw [t.block g h.lt (fun e => hne (Option.some.inj e))]; exact h.1, h.2⟩

theorem law9 : Keyed Try.prog 9 := string_keyed Try.underlying9
theorem zero3 (w : World) : (zeroValue 3).run Try.prog w = .ok (.int .i64 0) w := by kernel_rfl

theorem key_like (m : List Q4) (b c : Nat) : (key m b = key m c) ↔ like m b c = true := by
  rw [key_eq]
  simp [like]
structure MInv (m : List Q4) (D : DataW Unit) (L : List Nat) : Prop where
  size : Maps.size D = L.length
  has : ∀ b, Maps.has D (.string (key m b)) = L.any (fun c => like m b c)
  at' : ∀ b, L.any (fun c => like m b c) = true → D.atKey (.string (key m b)) (.lit (.int .i64 0)) = .lit (.int .i64 (L.findIdx (fun c => like m b c) : Nat))
theorem minv_start (m : List Q4) : MInv m (.map []) [] := ⟨rfl, fun b => rfl, fun b h => by simp at h⟩
theorem minv_put {m : List Q4} {D : DataW Unit} {L : List Nat} {i : Nat} (h : MInv m D L) (hT : Tidy D) (hi : L.any (fun c => like m i c) = false) : MInv m (D.put (.string (key m i)) (.lit (.int .i64 (L.length : Nat)))) (L ++ [i]) := by
  have hno : Maps.has D (.string (key m i)) = false := by rw [h.has i]; exact hi
  refine ⟨?_, ?_, ?_⟩
  · rw [size_put hT, hno, h.size]
    simp
  · intro b
    rw [List.any_append]
    by_cases e : key m b = key m i
    · rw [e, has_put_same hT.isMap (show WideAt.IsKeyLit (.string _) from trivial)]
      have := (key_like m b i).1 e
      simp [this]
    · rw [has_put_other (fun e2 => e (Lit.string.inj e2)), h.has b]
      have : like m b i = false := by
        cases hb : like m b i
        · rfl
        · exact absurd ((key_like m b i).2 hb) e
      simp [this]
  · intro b hany
    by_cases e : key m b = key m i
    · rw [e, atKey_put_same hT.isMap (show WideAt.IsKeyLit (.string _) from trivial)]
      have hs := (key_eq m b i).1 e
      have hfn : L.findIdx (fun c => like m b c) = L.length := by
        have : ¬ L.findIdx (fun c => like m b c) < L.length := by
          rw [List.findIdx_lt_length]
          rintro ⟨x, hx, hpx⟩
          have h2 := List.any_eq_false.1 hi x hx
          apply h2
          unfold like at hpx ⊢
          rw [← hs]
          exact hpx
        have h3 : L.findIdx (fun c => like m b c) ≤ L.length := List.findIdx_le_length
        omega
      rw [List.findIdx_append, hfn, if_neg (by omega)]
      have h1 := (key_like m b i).1 e
      simp [List.findIdx_cons, h1]
    · have hl : like m b i = false := by
        cases hb : like m b i
        · rfl
        · exact absurd ((key_like m b i).2 hb) e
      rw [List.any_append] at hany
      simp [hl] at hany
      have hany2 : L.any (fun c => like m b c) = true := by
        rw [List.any_eq_true]
        exact hany
      rw [atKey_put_other (fun e2 => e (Lit.string.inj e2)), h.at' b hany2, List.findIdx_append, if_pos (List.findIdx_lt_length.2 (List.any_eq_true.1 hany2))]

theorem at_same {d : DataW Unit} {f : Nat} {c : Int} (h : d = .lit (.int .i64 (f : Nat))) (h2 : d = .lit (.int .i64 c)) : c = (f : Int) := by
  rw [h] at h2
  simp at h2
  exact h2.symm

def ClassesIs (l : List Q4) (xs : List Nat) (n : Nat) : Prop := ∀ v w, Sets w v l → Calls Try.prog 61 #[v] w fun e w' => e = .returned (.tuple #[.agg (cells36 xs), .int .i64 n]) ∧ Below w.heap.size w w'

set_option maxHeartbeats 2000000 in
set_option maxRecDepth 100000 in
theorem classes_any (l : List Q4) (hf : ∀ q ∈ l, Fits q) (hlen : l.length ≤ 1000000) : ClassesIs l (tbl (like l) 256) (repsBy (like l) 256).length := by
  intro v w hv
  have hz := zero36
  have hcs := cells36_size noughts rfl
  have hst := store36 w (.cells (cells36 noughts) 48) noughts noughts rfl rfl
  have hmm := @run_makeMap Try.prog
  have hd := diff_any l hf hlen
  have hmf : ∀ q ∈ diff [] l, Fits q := fun q hq => by
    rcases (mem_diff l [] q).1 hq with h | h
    · simp at h
    · exact hf q h
  have hml : (diff [] l).length ≤ 1000000 := by have := diff_length l []; simp at this; omega
  have HLK : Hid (like (diff [] l) = like l) := by show _ = _; funext b c; exact like_diff l b c
  rw [← HLK.out]
  generalize diff [] l = m at *
  obtain ⟨p, HPp⟩ : ∃ p, Hid (p = like m) := ⟨_, rfl⟩
  rw [← HPp.out]
  have hB0 : Below w.heap.size w ((w.alloc (.cells (cells36 noughts) 48)).alloc (.cells (cells36 noughts) 48)) := ((Below.refl _ _).alloc (Nat.le_refl _) _).alloc (by simp) _
  have ha0 : Arr ((w.alloc (.cells (cells36 noughts) 48)).alloc (.cells (cells36 noughts) 48)) (w.heap.size + 1) noughts := ⟨heap_alloc2_new w _ _, rfl⟩
  have hr0 : Arr ((w.alloc (.cells (cells36 noughts) 48)).alloc (.cells (cells36 noughts) 48)) w.heap.size noughts := ⟨heap_alloc2_old w _ _, rfl⟩
  have hv0 := hv.below hB0
  obtain ⟨a0, len0, cap0, rfl⟩ : ∃ a len cap, v = .slice a len cap := by
    rcases hv with ⟨_, a, cap, h⟩ | ⟨b, off, cap, h, _⟩
    · exact ⟨_, _, _, h⟩
    · exact ⟨_, _, _, h⟩
  go_enter Try.func61, Try.ntmps61
  go_wp2_with (go_at_call 77; refine (hd _ _ hv0).mono ?_; rintro e w1 ⟨u, rfl, hu, b1⟩; have ha1 := ha0.later b1 ha0.lt; have hr1 := hr0.later b1 hr0.lt; have hB1 := chain hB0 b1)
  clear hz hcs hst hmm hd hv hv0 ha0 hr0 hB0 b1
  have hbm : w.heap.size + 1 < w1.heap.size := ha1.lt
  obtain ⟨B, hBe⟩ : ∃ B, B = w1.heap.size := ⟨_, rfl⟩
  have hmade : (w1.alloc (.map #[] 0)).ownsMap Try.prog 9 (plainElem (H := Unit) Try.prog 3) B 0 (.map []) := by rw [hBe]; exact World.ownsMap_made _ _ _ _
  have hu1 := hu.below ((Below.refl _ _).alloc (Nat.le_refl _) (.map #[] 0))
  have ha2 := ha1.later ((Below.refl _ _).alloc (Nat.le_refl _) (.map #[] 0)) ha1.lt
  have hr2 := hr1.later ((Below.refl _ _).alloc (Nat.le_refl _) (.map #[] 0)) hr1.lt
  have hB2 := hB1.alloc hB1.size (.map #[] 0)
  rw [← hBe] at hbm
  rw [← hBe]
  generalize w1.alloc (.map #[] 0) = w2 at *
  clear hu ha1 hr1 hB1 hBe
  go_loopw [13] (fun x wr => ∃ (i : Nat) (D : DataW Unit), x = .int .i64 i ∧ i ≤ 256 ∧ wr.ownsMap Try.prog 9 (plainElem (H := Unit) Try.prog 3) B i D ∧ Hid (MInv m D (repsBy p i)) ∧ Sets wr u m ∧ Arr wr (w.heap.size + 1) (tbl p i) ∧ Arr wr w.heap.size noughts ∧ Below w.heap.size w wr) (fun x _ => 256 - (intOf x).toNat)
  case atStart => exact ⟨0, _, rfl, by omega, hmade, minv_start m, hu1, ha2, hr2, hB2⟩
  case round =>
    obtain ⟨i, D, rfl, hi, hown, HM, hS, harr, hres, hB⟩ := hrel
    by_cases hin : i < 256
    · have hW := within_any m hmf hml i hin _ rfl
      have hkl : (⟨(key m i).toArray⟩ : ByteArray).data.toList = key m i := by simp
      have hksz : (⟨(key m i).toArray⟩ : ByteArray).size ≤ maxLen := by
        have := key_length m i
        show (key m i).toArray.size ≤ _
        unfold maxLen
        simp
        omega
      have hkey : keyOf Try.prog 9 (.string ⟨(key m i).toArray⟩) = some (.string (key m i)) := by
        have := Go.WideMaps.keyOf_string_mk (P := Try.prog) Try.underlying9 hksz
        rw [hkl] at this
        exact this
      generalize (⟨(key m i).toArray⟩ : ByteArray) = t at *
      have hhas := HM.out.has i
      have hsz := HM.out.size
      rw [← HPp.out] at hhas
      have hLl := repsBy_length p i
      have hpii : p i i = true := by rw [HPp.out]; exact like_self m i
      have HAT := HM.out.at' i
      rw [← HPp.out] at HAT
      cases hany : (repsBy p i).any (fun c => p i c)
      · rw [hany] at hhas
        have HN1 : Hid (repsBy p i ++ [i] = repsBy p (i + 1)) := (repsBy_out hany).symm
        have HN2 : Hid ((tbl p i).set i (repsBy p i).length = tbl p (i + 1)) := by show _ = _; rw [← tbl_step p i hin, clsBy_out hpii hany]
        have HMP : Hid (Tidy D → MInv m (D.put (.string (key m i)) (.lit (.int .i64 ((repsBy p i).length : Nat)))) (repsBy p i ++ [i])) := fun hT => minv_put HM.out hT (by rw [← HPp.out]; exact hany)
        have hT := hown.tidy law9
        generalize repsBy p i = L at *
        have hn1 : L.length < 256 := by omega
        clear HAT HM hany
        go_wp2_with (first | (go_at_call 78; refine (hW _ _ hS).mono ?_; rintro e w3 ⟨rfl, b3⟩; have hown3 := hown.kept (row := none) ⟨b3.os, b3.tape, b3.output, b3.size, fun k hk _ => b3.block k hk⟩ (by simp); have hS3 := hS.below b3; have harr3 := harr.later b3 harr.lt; have hres3 := hres.later b3 hres.lt; have hB3 := chain hB b3) | (at_lookup; refine wpList_lookup_own_ok_int _ rfl _ _ 85 rfl 9 3 .i64 law9 Try.underlying85 Try.underlying3 (zero3 _) B i D rfl hown3 _ _ rfl hkey ?_; intro c hat hwc; rw [hhas]) | (at_len; refine wpList_len_own _ rfl _ 85 rfl 9 3 Try.underlying85 _ B i D rfl hown3 ?_; rw [hsz]) | (at_mapUpdate; refine wpList_mapUpdate_own _ rfl _ _ _ 85 rfl 9 3 law9 Try.underlying85 _ B i D rfl hown3 (by unfold maxLen; omega) _ _ _ rfl rfl hkey _ [] (plainElem_int Try.underlying3 (WalkArith.wf_i64 (by omega))) ?_; intro w4 hown4 hgrow4; have hS4 := hS3.kept hgrow4 (map_not64 hown3); have harr4 := harr3.grown hgrow4 (by omega); have hres4 := hres3.grown hgrow4 (by omega); have hB4 := hB3.grown hgrow4 hB3.size (by intro k hk; cases hk; omega); have kc := harr4.cell i hin; have kf := harr4.fz i))
        refine ⟨⟨i + 1, _, by go_num, by omega, hown4.kept (touch_set w4 (w.heap.size + 1) i _) (by intro e; cases e; omega), by rw [← HN1.out]; exact HMP.out hT, hS4.kept (touch_set _ _ _ _) harr4.not64, by rw [← HN2.out]; exact harr4.put i _, hres4.other (by omega) i _, hB4.setCell (p := ⟨w.heap.size + 1, i, none⟩) (by show w.heap.size ≤ w.heap.size + 1; omega) _⟩, by simp [intOf]; omega⟩
      · rw [hany] at hhas
        have HN1 : Hid (repsBy p (i + 1) = repsBy p i) := repsBy_in hany
        have HN2 : Hid ((tbl p i).set i ((repsBy p i).findIdx (fun c => p i c)) = tbl p (i + 1)) := by show _ = _; rw [← tbl_step p i hin, (clsBy_in hany).1]
        have hat0 := HAT hany
        have hn1 : (repsBy p i).findIdx (fun c => p i c) < 256 := by have := (clsBy_in hany).2; have := (clsBy_in hany).1; omega
        generalize (repsBy p i).findIdx (fun c => p i c) = f at *
        clear HAT hany hsz
        go_wp2_with (first | (go_at_call 78; refine (hW _ _ hS).mono ?_; rintro e w3 ⟨rfl, b3⟩; have hown3 := hown.kept (row := none) ⟨b3.os, b3.tape, b3.output, b3.size, fun k hk _ => b3.block k hk⟩ (by simp); have hS3 := hS.below b3; have harr3 := harr.later b3 harr.lt; have hres3 := hres.later b3 hres.lt; have hB3 := chain hB b3; have kc := harr3.cell i hin; have kf := harr3.fz i) | (at_lookup; refine wpList_lookup_own_ok_int _ rfl _ _ 85 rfl 9 3 .i64 law9 Try.underlying85 Try.underlying3 (zero3 _) B i D rfl hown3 _ _ rfl hkey ?_; intro c hat hwc; rw [hhas, at_same hat0 hat]; clear hat hwc))
        refine ⟨⟨i + 1, _, by go_num, by omega, (hown3.kept (touch_set w3 (w.heap.size + 1) i _) (by intro e; cases e; omega)).mono (Nat.le_succ _), by rw [HN1.out]; exact HM.out, hS3.kept (touch_set _ _ _ _) harr3.not64, by rw [← HN2.out]; exact harr3.put i _, hres3.other (by omega) i _, hB3.setCell (p := ⟨w.heap.size + 1, i, none⟩) (by show w.heap.size ≤ w.heap.size + 1; omega) _⟩, by simp [intOf]; omega⟩
    · have he : i = 256 := by omega
      subst he
      have HN : Hid (Maps.size D = (repsBy p 256).length) := HM.out.size
      clear HM
      go_wp2_with (first | (refine wpList_load_row rfl 48 (.tmp 4) rfl (w.heap.size + 1) rfl 48 (cells36 (tbl p 256)) (0, 0) _ harr.1 Try.underlying48 rfl (info36 _ harr.2) ?_) | (at_len; refine wpList_len_own _ rfl _ 85 rfl 9 3 Try.underlying85 _ B 256 D rfl hown ?_) | (refine wpList_store_row rfl 48 (.tmp 2) (.tmp 38) rfl w.heap.size (cells36 (tbl p 256)) rfl rfl 48 _ hres.1 (info36 _ harr.2) (by rw [cells36_size _ hres.2, cells36_size _ harr.2]) (cells36_one _) ?_))
      refine ret36 Try.results61 w.heap.size (tbl p 256) (Maps.size D) rfl (hres.row harr.2) rfl rfl ?_
      exact ⟨by rw [HN.out], below_setRow hB (Nat.le_refl _) _⟩
end Go.Proofs.Ytfilndgbgdnpiaa.st
