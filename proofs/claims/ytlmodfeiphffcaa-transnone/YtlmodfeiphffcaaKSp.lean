/-
  Contracts over this program: trans.Build.
-/
import Derived.Test.YtlmodfeiphffcaaKSn
import Derived.Test.YtlmodfeiphffcaaKSo
import Derived.Test.YtlmodfeiphffcaaKRq
namespace Go.Proofs.Ytlmodfeiphffcaa.ms
open Go.ChangeShapes Go.WideShapes Go.ChangeAt Go.RowKit Go.Shelf Go.Maps
open tr
open ru (Ru Rus)
set_option linter.unusedVariables false

/-- what Build answers -/
def BOut (l : List Ru) (w : World) (e : Ending) (w' : World) : Prop :=
  (∃ m p, e = .returned (.tuple #[.agg (mv m p), .int .i64 0]) ∧ ru.rightE l = 0 ∧ MAt (In w') w' m p ∧ Right m ∧ (∀ x, tr.total m 0 x = ru.ap l x) ∧ (∃ d, m = mcOf d ∧ Pl l d d.sts.length) ∧ Below w.heap.size w w') ∨
  (∃ n : Nat, e = .returned (.tuple #[.agg nil4, .int .i64 (n : Int)]) ∧ ((ru.rightE l ≠ 0 ∧ n = ru.rightE l) ∨ (ru.rightE l = 0 ∧ n = 80 ∧ 100 < ru.rw.total l)) ∧ Below w.heap.size w w')
set_option maxHeartbeats 4000000 in
set_option maxRecDepth 100000 in
theorem build_bad (l : List Ru) (x : Nat) (hx : x = ru.rightE l) (h0 : x ≠ 0) (hxl : x ≤ 1000) (lv : Value) (w : World) (hR : Rus w lv l) : Calls Try.prog 13 #[lv] w (BOut l w) := by
  have B1 := below_alloc w (.cells nil4 26)
  have c34 := ru.right_any l x hx lv _ (hR.below B1)
  have h26 : (w.alloc (.cells nil4 26)).heap[w.heap.size]? = some (.cells nil4 26 (0, 0)) := World.alloc_heap_new w _
  have H26 := (show Hid ((w.alloc (.cells nil4 26)).heap[w.heap.size]? = some (.cells nil4 26 (0, 0))) from h26)
  have d0 : ((x : Int) != 0) = true := by rw [bne_iff_ne]; omega
  have HX := (show Hid (x = ru.rightE l ∧ x ≠ 0) from ⟨hx, h0⟩)
  clear hR hx h0 h26
  go_enter Try.func13, Try.ntmps13
  go_wp2_with (fail)
  go_at_call 32
  refine c34.mono ?_
  rintro e w2 ⟨rfl, b2⟩
  have k26 := (b2.block _ (Array.getElem?_eq_some_iff.1 H26.out).1).trans H26.out
  have HEND : Hid (BOut l w (.returned (.tuple #[.agg nil4, .int .i64 (x : Int)])) (w2.setRow w.heap.size nil4)) := .inr ⟨x, rfl, .inl ⟨by rw [← HX.out.1]; exact HX.out.2, HX.out.1⟩, below_setRow (chain B1 b2) (Nat.le_refl _) _⟩
  clear c34 b2 H26 HX
  go_wp2_with (refine wpList_store_row (by rfl) 26 (.tmp 2) (.tmp 10) (by rfl) w.heap.size nil4 (by rfl) (by rfl) 26 nil4 k26 info26 rfl (by simp [Value.oneCell']) ?_)
  exact ret26 rfl w.heap.size _ _ _ _ (x : Int) rfl (setRow_heap _ _ _ _ _ _ k26) rfl rfl HEND.out
set_option maxHeartbeats 4000000 in
set_option maxRecDepth 100000 in
theorem build_good (l : List Ru) (hg : ru.Good l) (lv : Value) (w : World) (hR : Rus w lv l) : Calls Try.prog 13 #[lv] w (BOut l w) := by
  have B1 := below_alloc w (.cells nil4 26)
  have hR1 := hR.below B1
  have hx := ru.rightE_ok hg
  have c34 := ru.right_any l 0 hx.symm lv _ hR1
  have h26 : (w.alloc (.cells nil4 26)).heap[w.heap.size]? = some (.cells nil4 26 (0, 0)) := World.alloc_heap_new w _
  have H26 := (show Hid ((w.alloc (.cells nil4 26)).heap[w.heap.size]? = some (.cells nil4 26 (0, 0))) from h26)
  have HR := (show Hid (∀ W, Below (w.alloc (.cells nil4 26)).heap.size (w.alloc (.cells nil4 26)) W → Rus W lv l) from fun W b => hR1.below b)
  have HX := (show Hid (ru.rightE l = 0) from hx)
  have HG := (show Hid (ru.Good l) from hg)
  have c34' : Calls Try.prog 32 #[lv] (w.alloc (.cells nil4 26)) fun e w' => e = .returned (.int .i64 0) ∧ Below (w.alloc (.cells nil4 26)).heap.size (w.alloc (.cells nil4 26)) w' := c34
  clear hR hx hR1 h26 hg c34
  go_enter Try.func13, Try.ntmps13
  go_wp2_with (fail)
  go_at_call 32
  refine c34'.mono ?_
  rintro e w2 ⟨rfl, b2⟩
  have c35 := wr.newrw_any l HG.out lv w2 (HR.out w2 b2)
  clear c34'
  go_wp2_with (fail)
  go_at_call 33
  refine c35.mono ?_
  rintro e w3 ⟨rb, sm, fm, rfl, rw3, b3⟩
  have c36 := machine_any HG.out rw3 b3.size
  have HL : Hid (w.heap.size < w2.heap.size) := Nat.lt_of_lt_of_le (Array.getElem?_eq_some_iff.1 H26.out).1 b2.size
  have k2 := (b2.block _ (Array.getElem?_eq_some_iff.1 H26.out).1).trans H26.out
  have HK3 := (show Hid (w3.heap[w.heap.size]? = some (.cells nil4 26 (0, 0))) from (b3.block _ HL.out).trans k2)
  have HB3 := (show Hid (Below w.heap.size w w3) from chain (chain B1 b2) b3)
  clear c35 rw3 k2 HR
  go_wp2_with (fail)
  go_at_call 34
  refine c36.mono ?_
  intro e w4 hM
  clear c36
  rcases hM with ⟨d, p, rfl, hmat, hpl, h1, h2, h3, b4, _⟩ | ⟨d, i, rfl, hpl, hle, hfull, b4, _⟩
  · have k4 := (b4.block _ HL.out).trans HK3.out
    have HEND : Hid (BOut l w (.returned (.tuple #[.agg (mv (mcOf d) p), .int .i64 0])) (w4.setRow w.heap.size (mv (mcOf d) p))) := by
      refine .inl ⟨mcOf d, p, rfl, HX.out, hmat.carry (fun g hgg => setRow_other _ _ _ _ (by have := HL.out; omega)) (fun g hgg => by show g < _; simpa using hgg.2), hpl.right h1 h2 h3, hpl.total HG.out, ⟨d, rfl, hpl⟩, ?_⟩
      exact below_setRow (HB3.out.trans (b4.mono (Nat.le_of_lt HL.out))) (Nat.le_refl _) _
    clear hmat hpl h1 h2 h3 b4 HL HK3 HB3
    go_wp2_with (refine wpList_store_row (by rfl) 26 (.tmp 2) (.tmp 20) (by rfl) w.heap.size (mv (mcOf d) p) (by rfl) (by rfl) 26 nil4 k4 info26 rfl (by simp [Value.oneCell', mv]) ?_)
    exact ret26 rfl w.heap.size _ _ _ _ 0 rfl (setRow_heap _ _ _ _ _ _ k4) rfl rfl HEND.out
  · have k4 := (b4.block _ HL.out).trans HK3.out
    have HEND : Hid (BOut l w (.returned (.tuple #[.agg nil4, .int .i64 80])) (w4.setRow w.heap.size nil4)) := by
      refine .inr ⟨80, rfl, .inr ⟨HX.out, rfl, ?_⟩, below_setRow (HB3.out.trans (b4.mono (Nat.le_of_lt HL.out))) (Nat.le_refl _) _⟩
      refine Nat.lt_of_not_le fun hc => ?_
      obtain ⟨q1, q2, q3⟩ := hpl.few HG.out hc
      rcases hfull with h | h | ⟨t, ht, h⟩
      · omega
      · omega
      · have := q3 t ht; omega
    clear hpl hle hfull b4 HL HK3 HB3
    go_wp2_with (refine wpList_store_row (by rfl) 26 (.tmp 2) (.tmp 20) (by rfl) w.heap.size nil4 (by rfl) (by rfl) 26 nil4 k4 info26 rfl (by simp [Value.oneCell']) ?_)
    exact ret26 rfl w.heap.size _ _ _ _ 80 rfl (setRow_heap _ _ _ _ _ _ k4) rfl rfl HEND.out
theorem build_any (l : List Ru) (lv : Value) (w : World) (hR : Rus w lv l) : Calls Try.prog 13 #[lv] w (BOut l w) := by
  by_cases hg : ru.Good l
  · exact build_good l hg lv w hR
  · refine build_bad l _ rfl ?_ ?_ lv w hR
    · unfold ru.rightE; split
      · omega
      · omega
    · unfold ru.rightE; split
      · omega
      · omega
end Go.Proofs.Ytlmodfeiphffcaa.ms
