/-
  For every list of sets the law SetClasses of package fretsawlaw05 returns true (set.Classes tells the document's classes, in its order), and the argument reads as before. No condition.
-/
import Derived.Test.YtfpihoghpogblaaRows
import Derived.Test.YtfpihoghpogblaaKls
import Derived.Test.YtfpihoghpogblaaEq
import Derived.WalkKit
import Derived.ProofKit
import Derived.OpenShut
import Derived.ChangeOld
import Derived.SizedLaws
import Derived.ShutString
import Derived.Below
namespace Go.Proofs.Ytfpihoghpogblaa.setClasses
open Go.ChangeShapes Go.WideShapes Go.ChangeAt Go.RowKit
open Go.ChangeMaps (open_string shut_string)
set_option linter.unusedVariables false

theorem own : ownKnob Try.prog.godebug = none := by kernel_rfl
theorem laidOut : laidOutB Try.prog = true := by kernel_rfl

theorem eq36 (xs : List Nat) (h : xs.length = 256) (W : World) : (Op.equalIn 10000 36 (.agg (st.cells36 xs)) (.agg (st.cells36 xs))).run Try.prog W = .ok true W := by
  obtain ⟨i, hi, _, _, _⟩ := info_parts st.info5
  have c5 : Try.prog.cellsOf 5 = 1 := by kernel_rfl
  have he : ∀ x : Int, (Op.equalIn 9999 5 (.int .u8 x) (.int .u8 x)).run Try.prog W = .ok true W := fun x => by
    rw [run_equalIn_int W 9998 5 .u8 .u8 x x Try.underlying5]
    simp
  have hp : ∀ j, j < 256 → ∃ x : Int, (part 5 (st.cells36 xs) j).run Try.prog W = .ok (.int .u8 x) W := fun j hj => by
    refine ⟨(xs.getD j 0 : Nat), ?_⟩
    have hj2 : j < xs.length := by omega
    simp [part, Try.isAgg5, st.cells36, hj2]
  rw [run_equalIn_array W 9999 _ _ Try.underlying36 hi, c5]
  have key : ∀ is : List Nat, (∀ j ∈ is, j < 256) → (Op.eqItems 9999 5 1 (st.cells36 xs) (st.cells36 xs) is).run Try.prog W = .ok true W := by
    intro is
    induction is with
    | nil => intro _; simp [Op.eqItems]
    | cons j is ih =>
      intro hj
      obtain ⟨x, hx⟩ := hp j (hj j (by simp))
      simp [Op.eqItems, hx, he x, ih (fun k hk => hj k (by simp [hk]))]
  exact key _ (fun j hj => by simpa using hj)

theorem noughts_len : st.noughts.length = 256 := List.length_replicate
theorem store_last (w : World) (xs : List Nat) (hx : xs.length = 256) : (storeCells ⟨w.heap.size, 0, none⟩ (st.cells36 xs).toList).run Try.prog (w.alloc (.cells (st.cells36 st.noughts) 36)) = .ok () (w.alloc (.cells (st.cells36 xs) 36)) :=
  run_storeCells_new (P := Try.prog) w 36 (st.cells36 st.noughts) (st.cells36 xs) (st.info36 xs hx) (by rw [st.cells36_size _ noughts_len, st.cells36_size xs hx]) (st.cells36_one xs)

set_option maxHeartbeats 2000000 in
set_option maxRecDepth 100000 in
theorem walk (l : List st.Q4) (hf : ∀ q ∈ l, st.Fits q) (v : Value) (w : World) (hS : st.Sets w v l) :
    Calls Try.prog 5 #[v] w fun e w' => e = .returned (.bool true) ∧ Below w.heap.size w w' := by
  obtain ⟨a0, cap0, rfl⟩ : ∃ a cap, v = .slice a l.length cap := by
    rcases hS with ⟨h0, a, cap, h⟩ | ⟨b, off, cap, h, _⟩
    · exact ⟨_, _, by rw [h, h0]; rfl⟩
    · exact ⟨_, _, h⟩
  by_cases hlen : 60 < l.length
  · go_enter Try.func5, Try.ntmps5
    go_wp2
    go_ret
    exact ⟨rfl, Below.refl _ _⟩
  · have h23 := st.classes_any l hf (by omega)
    have h24 := st.rclasses_any l hf
    have hx := st.tbl_length (st.like l) 256 (by omega)
    have hst := fun W => store_last W _ hx
    have hcs := st.cells36_size _ hx
    have heq := eq36 _ hx
    have hz := st.zero36
    generalize st.tbl (st.like l) 256 = xs at *
    generalize (st.repsBy (st.like l) 256).length = n at *
    go_enter Try.func5, Try.ntmps5
    go_wp2_with (first | (go_at_call 23; refine (h23 _ _ hS).mono ?_; rintro e w1 ⟨rfl, b1⟩; have hS1 := hS.below (b1.alloc b1.size (.cells (st.cells36 xs) 36))) | (go_at_call 24; refine (h24 _ _ hS1).mono ?_; rintro e w2 ⟨rfl, b2⟩; have ha : st.Arr w2 w1.heap.size xs := st.Arr.later (w := w1.alloc (.cells (st.cells36 xs) 36)) ⟨heap_alloc_new w1 _, hx⟩ b2 (by simp); have ha3 : st.Arr (w2.alloc (.cells (st.cells36 xs) 36)) w1.heap.size xs := ha.later ((Below.refl _ _).alloc (Nat.le_refl _) _) ha.lt; have hb3 : st.Arr (w2.alloc (.cells (st.cells36 xs) 36)) w2.heap.size xs := ⟨heap_alloc_new w2 _, hx⟩) | (refine wpList_load_row rfl 36 (.tmp 3) rfl w1.heap.size rfl 36 (st.cells36 xs) (0, 0) _ ha3.1 Try.underlying36 rfl (st.info36 _ hx) ?_) | (refine wpList_load_row rfl 36 (.tmp 5) rfl w2.heap.size rfl 36 (st.cells36 xs) (0, 0) _ hb3.1 Try.underlying36 rfl (st.info36 _ hx) ?_))
    go_ret
    exact ⟨rfl, ((b1.alloc b1.size _).trans (b2.mono (by simp; have := b1.size; omega))).alloc (Nat.le_trans b1.size (Nat.le_trans (by simp) b2.size)) _⟩

set_option maxRecDepth 100000 in
theorem lifted (os : Os) (started : os.Started) (H : Type) (enc : TypeId × Value → H) :
    ReturnsInHanded {} Try.checked os 5 .any (Rows.setClassesSpec.pre6 enc Try.prog Try.f5 Rows.setClassesRow.domain false) (Rows.setClassesSpec.post enc Try.prog Try.f5 false true false false) := by
  refine returnsInHanded_of_change_sized (C := Try.checked) own started (by kernel_rfl) Try.func5
    (ChangeSpec.witness6 (enc := enc) (C := Try.checked) false ⟨#[], #[.slice none 0 0], []⟩ 8 (by kernel_rfl) (by kernel_rfl) (by kernel_rfl) (by kernel_rfl)) ?_
  intro W base args ds gs before hval0 hW hcnd hsz0 _
  have hsz : (DataW.weightsEach Try.prog (Try.f5.params.toList ++ Rows.setClassesSpec.plain.varTypes Try.prog) (ds ++ gs)).all (· ≤ reachBytes) = true := hsz0
  have hval : ∀ (j : Nat) t v, Try.f5.params[j]? = some t → args[j]? = some v → Value.okWide Try.prog W .any base t v := hval0
  have hW' := hW
  obtain ⟨p, q, hA0, hV, rfl, hfz, hnd⟩ := hW
  have hA : DataW.TrodAll enc Try.prog W 0 (fun _ => true) true Try.f5.params.toList args.toList ds p := hA0
  rw [Try.params5] at hA hval hsz
  obtain ⟨v0, vs0, d0, ds0, p0, q0, hargs, rfl, rfl, h0, r0⟩ := trodAll_cons hA
  obtain ⟨rfl, rfl, rfl⟩ := trodAll_nil r0
  obtain rfl : args = #[v0] := by cases args; simp_all
  obtain ⟨rfl, rfl⟩ := trodVars_none hV
  obtain ⟨x0, len0, cap0, rfl⟩ := okWide_slice Try.underlying35 (hval 0 35 v0 rfl rfl)
  have k0 := h0
  have lt0 : ∀ x ∈ p0, x.block < W.heap.size := by obtain ⟨m, hm⟩ := k0; exact DataW.trod_lt m _ _ _ hm
  obtain ⟨l0, hS0, hl0, f0⟩ := st.sets_of h0
  clear hA0 hval0
  refine (walk l0 f0 _ W hS0).mono fun e W' ⟨he, bel⟩ => ?_
  subst he
  exact ⟨_, rfl, _, _, _, [], _, [], hW', trodAll_mk1 (shut_bool Try.underlying4 _), (trodAll_cons_mk (Below.trod laidOut (by kernel_rfl) (of_decide_eq_true (by kernel_rfl)) k0 bel lt0) trodAll_mk0), rfl, bel.frame _, fun h => by cases h⟩

theorem over : Rows.setClassesRow.holds Try.pinned (OpenSpec.ofChange Rows.setClassesSpec) :=
  OpenClaim.holds_of_wide 5 Try.f5 rfl rfl rfl rfl rfl rfl rfl ⟨rfl, rfl, rfl, rfl, rfl⟩ rfl rfl rfl rfl rfl (by kernel_rfl) Try.func5 (by kernel_rfl)
    (of_decide_eq_true (by kernel_rfl)) (by unfold Func.isWrapper; first | (rw [if_pos (by decide +kernel)]; kernel_rfl) | (rw [if_neg (by decide +kernel)]; exact ⟨rfl, rfl⟩))
    (fun os started H enc _ => lifted os started H enc)

theorem proved : Rows.SetClassesSaid :=
  over
#print axioms proved
end Go.Proofs.Ytfpihoghpogblaa.setClasses
