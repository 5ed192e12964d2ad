/-
  Contracts over this program: Least.
-/
import Derived.Test.YtkdkibnjfgcppaaKMv
namespace Go.Proofs.Ytkdkibnjfgcppaa.mi
open Go.ChangeShapes Go.WideShapes Go.ChangeAt Go.RowKit Go.Shelf Go.Maps
set_option linter.unusedVariables false

theorem dat_one {P : Nat → Prop} {w : World} {d : df.Dfa} {cs : Array Value} {o ao : Option Addr} {cap acap : Nat} (h : df.DAt P w d cs o cap ao acap) : cs.all (·.oneCell') = true := by
  rw [Array.all_eq_true]
  intro i hi
  have hs := h.size
  rcases Nat.lt_or_ge i 256 with h1 | h1
  · have e := h.cl i h1
    rw [Array.getElem?_eq_getElem hi] at e
    rw [Option.some.inj e]; rfl
  · rcases Nat.lt_or_ge i 257 with h2 | h2
    · obtain rfl : i = 256 := by omega
      have e := h.nx
      rw [Array.getElem?_eq_getElem hi] at e
      rw [Option.some.inj e]; rfl
    · obtain rfl : i = 257 := by omega
      have e := h.ac
      rw [Array.getElem?_eq_getElem hi] at e
      rw [Option.some.inj e]; rfl
theorem z26_one : z26.all (·.oneCell') = true := by
  unfold z26
  rw [List.all_toArray, List.all_append, List.all_replicate, List.all_replicate]
  rfl
theorem run26_0 (w : World) : (Instr.build 26 #[]).run Try.prog w = .ok (.agg z26) w := run_build (P := Try.prog) w 26 #[] z26 (by kernel_rfl)
/-- what Least answers -/
def Least8 (d : df.Dfa) (w : World) (e : Ending) (w' : World) : Prop :=
  (df.right d = false ∧ e = .returned (.tuple #[.agg z26, .int .i64 81]) ∧ Below w.heap.size w w') ∨
  (df.right d = true ∧ ∃ (d' : df.Dfa) (cs' : Array Value) (o' ao' : Option Addr) (cap' acap' : Nat), e = .returned (.tuple #[.agg cs', .int .i64 0]) ∧ df.DAt (fun b => w.heap.size ≤ b ∧ b < w'.heap.size) w' d' cs' o' cap' ao' acap' ∧ Least ((dm d).lang (some 0)) ((List.range 256).map d'.cls) d'.next d'.acc ∧ Below w.heap.size w w' ∧ d'.next.length ≤ d.next.length)
set_option maxHeartbeats 2000000 in
set_option maxRecDepth 100000 in
theorem least8_any (d : df.Dfa) (cs : Array Value) (o ao : Option Addr) (cap acap : Nat) (w : World) (hD : df.DAt (df.In w) w d cs o cap ao acap) :
    Calls Try.prog 8 #[.agg cs] w (Least8 d w) := by
  have hz := zero26
  have hw8 := hD.size
  obtain ⟨wA, hwA⟩ : ∃ wA, wA = (w.alloc (.cells cs 26)).alloc (.cells z26 26) := ⟨_, rfl⟩
  have B0 : Below w.heap.size w wA := by rw [hwA]; exact ((Below.refl _ _).alloc (Nat.le_refl _) _).alloc (by simp) _
  have hsA : wA.heap.size = w.heap.size + 1 + 1 := by rw [hwA]; simp
  have xA : df.DBox wA w.heap.size cs := by rw [hwA]; exact (Below.heap_alloc _ _ _ (by simp)).trans (df.dbox_new w cs)
  have xR : df.DBox wA (w.heap.size + 1) z26 := by rw [hwA]; have := heap_alloc_new (w.alloc (.cells cs 26)) (.cells z26 26); rw [World.size_alloc] at this; exact this
  have c23 := df.right_any d _ rfl cs o cap ao acap wA (hD.later B0)
  have HD := (show Hid _ from hD)
  clear hD
  go_enter Try.func8, Try.ntmps8
  go_wp2_with (fail)
  rw [← hwA]
  refine wp_load_row 26 (.tmp 1) rfl w.heap.size rfl 26 cs (0, 0) _ xA Try.underlying26 rfl (df.info26 cs hw8) ?_
  clear hwA
  go_wp2_with (fail)
  go_at_call 23
  refine c23.mono ?_
  rintro e w1 ⟨rfl, b1⟩
  have hb : Below w.heap.size w w1 := df.chain B0 b1
  have x1 : df.DBox w1 w.heap.size cs := xA.later b1
  have x2 : df.DBox w1 (w.heap.size + 1) z26 := xR.later b1
  have hs1 := b1.size
  cases hr : df.right d with
  | false =>
    have hbd := run26_0
    have hi26 := df.info26 z26 z26_size
    clear hz
    go_wp2_with (first | (refine wpList_store_row rfl 26 (.tmp 2) (.tmp 7) rfl (w.heap.size + 1) z26 rfl rfl 26 _ x2 hi26 rfl z26_one ?_))
    refine bodyPost_ret (by rw [results_cell_tmp Try.results8]; simp [asAddr, Result.andThen, run_loadVar_row (P := Try.prog) (w1.setRow (w.heap.size + 1) z26) (w.heap.size + 1) 26 26 z26 (0, 0) _ (setRow_heap w1 _ _ z26 _ _ x2) Try.underlying26 rfl hi26]; rfl) rfl ?_
    exact .inl ⟨hr, rfl, below_setRow hb (by omega) _⟩
  | true =>
    have c24 := least_any d hr cs o ao cap acap w1 (HD.out.later hb)
    go_wp2_with (fail)
    refine wp_load_row 26 (.tmp 1) rfl w.heap.size rfl 26 cs (0, 0) _ x1 Try.underlying26 rfl (df.info26 cs hw8) ?_
    go_wp2_with (fail)
    go_at_call 24
    refine c24.mono ?_
    rintro e w4 ⟨d', cs', o', ao', cap', acap', rfl, hD', hL, b4, hle⟩
    have x3 : df.DBox w4 (w.heap.size + 1) z26 := x2.later b4
    have hi26 := df.info26 cs' hD'.size
    have hcs := hD'.size
    have hon := dat_one hD'
    go_wp2_with (first | (refine wpList_store_row rfl 26 (.tmp 2) (.tmp 9) rfl (w.heap.size + 1) cs' rfl rfl 26 _ x3 hi26 (by rw [z26_size, hcs]) hon ?_))
    refine bodyPost_ret (by rw [results_cell_tmp Try.results8]; simp [asAddr, Result.andThen, run_loadVar_row (P := Try.prog) (w4.setRow (w.heap.size + 1) cs') (w.heap.size + 1) 26 26 cs' (0, 0) _ (setRow_heap w4 _ _ cs' _ _ x3) Try.underlying26 rfl hi26]; rfl) rfl ?_
    exact .inr ⟨hr, d', cs', o', ao', cap', acap', rfl, hD'.carry (fun k hk => setRow_other _ _ _ _ (by omega)) (fun k hk => ⟨by omega, by rw [setRow_size]; exact hk.2⟩), hL, below_setRow (df.chain hb b4) (by omega) _, hle⟩
end Go.Proofs.Ytkdkibnjfgcppaa.mi
