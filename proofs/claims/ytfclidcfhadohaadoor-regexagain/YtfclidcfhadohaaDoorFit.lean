/-
  Contracts over this program: whether a tree has at most so many levels and nodes (regex.fits).
-/
import Derived.Test.YtfclidcfhadohaaDoorMem
namespace Go.Proofs.YtfclidcfhadohaaDoor.st
open Go.ChangeShapes Go.WideShapes Go.ChangeAt Go.RowKit
set_option linter.unusedVariables false

def FitsIs (t : Tr) (lv n : Nat) (r : Bool) (m : Nat) : Prop := ∀ g v w, Is w (· ≠ g) t v → One w g n → Calls Tryd.prog 19 #[.agg #[.int .i64 t.kind, .int .u64 t.set.a, .int .u64 t.set.b, .int .u64 t.set.c, .int .u64 t.set.d, .int .i64 t.min, .int .i64 t.max, v], .int .i64 lv, .pointer (some ⟨g, 0, none⟩)] w fun e w' =>
  e = .returned (.bool r) ∧ (r = true → One w' g (m : Int)) ∧ w.grownBy w' (some g)

theorem below_alloc (w : World) (o : Obj) : Below w.heap.size w (w.alloc o) := (Below.refl _ _).alloc (Nat.le_refl _) o

theorem fits_none_left (t : Tr) (n m : Nat) : FitsIs t 0 n false m := by
  intro g v w hi ho
  clear hi
  generalize t.kind = k at *
  generalize t.set = q at *
  generalize t.min = mn at *
  generalize t.max = mx at *
  go_enter Tryd.func19, Tryd.ntmps19
  go_wp2
  go_ret
  exact ⟨rfl, fun h => (by cases h), touch_alloc (touch_refl _ _) _⟩
theorem fits_no_nodes (t : Tr) (lv m : Nat) (hlv : lv ≠ 0) : FitsIs t lv 0 false m := by
  intro g v w hi ho
  have hne : ((lv : Int) == 0) = false := by rw [beq_eq_false_iff_ne]; omega
  clear hi
  generalize t.kind = k at *
  generalize t.set = q at *
  generalize t.min = mn at *
  generalize t.max = mx at *
  have c0 := ho.c
  have c1 : ∀ o, (w.alloc o).cell? ⟨g, 0, none⟩ = some (.int .i64 0) := fun o => (cell_same ((below_alloc w o).block g ho.lt) 0).trans (by simpa using c0)
  clear c0 ho
  go_enter Tryd.func19, Tryd.ntmps19
  go_wp2
  go_ret
  exact ⟨rfl, fun h => (by cases h), touch_alloc (touch_refl _ _) _⟩

set_option maxHeartbeats 1000000 in
set_option maxRecDepth 100000 in
theorem fits_step (d : Nat) (ih : ∀ (t : Tr) (lv n : Nat) (r : Bool) (m : Nat), t.depth ≤ d → lv ≤ 9223372036854775807 → n ≤ 9223372036854775807 → r = (decide (t.depth ≤ lv) && decide (t.nodes ≤ n)) → m = n - t.nodes → FitsIs t lv n r m)
    (t : Tr) (L N lv n : Nat) (r : Bool) (M : Nat) (hd : t.depth ≤ d + 1) (hL : L ≤ 9223372036854775807) (hN : N ≤ 9223372036854775807) (eL : L = lv + 1) (eN : N = n + 1) (hr : r = (decide (t.depth ≤ L) && decide (t.nodes ≤ N))) (hM : M = N - t.nodes) : FitsIs t L N r M := by
  intro g v w hi ho
  obtain ⟨o, cap, b, off, vs, rfl, hcap, hk⟩ := hi.form
  have hDe := t.depth_eq
  have hNe := t.nodes_eq
  have HK : Hid (∀ i, i < t.kids.length → (nthT t.kids i).depth ≤ d) := fun i hi => by have := depth_nth t.kids i hi; omega
  have c0 := ho.c
  have hlt := ho.lt
  have f0 := ho.fz
  have c1 : ∀ o, (w.alloc o).cell? ⟨g, 0, none⟩ = some (.int .i64 N) := fun o => (cell_same ((below_alloc w o).block g hlt) 0).trans c0
  have f1 : ∀ o, (w.alloc o).frozen? ⟨g, 0, none⟩ = false := fun o => (ho.below (below_alloc w o)).fz
  have HR : Hid (r = (decide (depths t.kids ≤ lv) && decide (nodesOf t.kids ≤ n)) ∧ M = n - nodesOf t.kids) := by
    refine ⟨?_, by omega⟩
    rw [hr, hDe, hNe, eL, eN]; simp only [Nat.add_le_add_iff_right]
  have hne1 : ((L : Int) == 0) = false := by rw [beq_eq_false_iff_ne]; omega
  have hne2 : ((N : Int) == 0) = false := by rw [beq_eq_false_iff_ne]; omega
  have hs1 : (N : Int) - 1 = (n : Int) := by omega
  have hs2 : (L : Int) - 1 = (lv : Int) := by omega
  have hlv : lv ≤ 9223372036854775807 := by omega
  have hn : n ≤ 9223372036854775807 := by omega
  have hll : t.kids.length ≤ 9223372036854775807 := by
    by_cases h0 : 0 < t.kids.length
    · have := (hk 0 h0).2.1; omega
    · omega
  clear hDe hNe hd hi eL eN hr hM
  generalize t.kind = k at *
  generalize t.set = q at *
  generalize t.min = mn at *
  generalize t.max = mx at *
  generalize t.kids = l at *
  go_enter Tryd.func19, Tryd.ntmps19
  go_wp2
  go_loopw [25] (fun x wr => ∃ (i m : Nat), x = .int .i64 i ∧ i ≤ l.length ∧ One wr g (m : Int) ∧ w.grownBy wr (some g) ∧ w.heap.size + 1 ≤ wr.heap.size ∧ Hid (depths (l.take i) ≤ lv ∧ m + nodesOf (l.take i) = n)) (fun x _ => l.length - (intOf x).toNat)
  case atStart => exact ⟨0, n, rfl, by omega, (ho.set n).below (below_alloc _ _), touch_alloc (touch_cell _ _ _ _) _, by simp, by show _ ∧ _; simp [depths, nodesOf]⟩
  case round =>
    obtain ⟨i, m, rfl, hil, hone, hT, hsz, HI⟩ := hrel
    by_cases hend : i < l.length
    · obtain ⟨rfl, hcm, hb, hne, hcells, hkid⟩ := hk i hend
      have hcells2 := hcells.same (hT.block b hb (fun e => hne (Option.some.inj e)))
      have hkid2 := hkid.grown hT
      obtain ⟨k0, k1, k2, k3, k4, k5, k6, k7⟩ := hcells2
      obtain ⟨o2, n2, cap2, hv2⟩ := hkid2.shape
      rw [hv2] at k7 hkid2
      clear hcells hkid hk hv2
      by_cases hyes : (nthT l i).depth ≤ lv ∧ (nthT l i).nodes ≤ m
      · have hcall := ih (nthT l i) lv m true (m - (nthT l i).nodes) (HK.out i hend) hlv (by have := HI.out.2; omega) (by simp [hyes]) rfl
        have HJ : Hid (depths (l.take (i + 1)) ≤ lv ∧ m - (nthT l i).nodes + nodesOf (l.take (i + 1)) = n) := by
          refine ⟨?_, ?_⟩
          · rw [depths_take l i hend]; have := HI.out.1; omega
          · rw [nodesOf_take l i hend]; have := HI.out.2; omega
        clear hyes
        generalize nthT l i = x at *
        go_wp2_with (go_at_call 19; refine (hcall _ _ _ (hkid2.later (below_alloc _ _)) (hone.below (below_alloc _ _))).mono ?_; rintro e w1 ⟨rfl, h1, t1⟩)
        go_roundw
        case rel => exact ⟨i + 1, _, by go_num, by omega, h1 trivial, touch_trans (touch_alloc hT _) t1, by have := t1.size; simp at this; omega, HJ⟩
        case measure => simp [intOf]; omega
      · have hcall := ih (nthT l i) lv m false (m - (nthT l i).nodes) (HK.out i hend) hlv (by have := HI.out.2; omega) (by symm; simp; omega) rfl
        have HF : Hid (r = false) := by
          have h1 := depth_nth l i hend
          have h2 := nodes_nth l i hend
          have h3 := HI.out.2
          show _ = _
          rw [HR.out.1]; simp; omega
        clear hyes
        generalize nthT l i = x at *
        go_wp2_with (go_at_call 19; refine (hcall _ _ _ (hkid2.later (below_alloc _ _)) (hone.below (below_alloc _ _))).mono ?_; rintro e w1 ⟨rfl, h1, t1⟩)
        go_ret
        exact ⟨by rw [HF.out]; rfl, fun h => absurd h (by rw [HF.out]; decide), touch_trans (touch_alloc hT _) t1⟩
    · have HF : Hid (r = true ∧ M = m) := by
        have h := HI.out
        rw [List.take_of_length_le (by omega)] at h
        refine ⟨?_, ?_⟩
        · rw [HR.out.1]; simp; omega
        · rw [HR.out.2]; omega
      go_wp2
      go_ret
      exact ⟨by rw [HF.out.1]; rfl, fun _ => by rw [HF.out.2]; exact hone, hT⟩

theorem fits_any (d : Nat) : ∀ (t : Tr) (lv n : Nat) (r : Bool) (m : Nat), t.depth ≤ d → lv ≤ 9223372036854775807 → n ≤ 9223372036854775807 → r = (decide (t.depth ≤ lv) && decide (t.nodes ≤ n)) → m = n - t.nodes → FitsIs t lv n r m := by
  induction d with
  | zero => intro t lv n r m hd; have := t.depth_eq; omega
  | succ d ih =>
    intro t lv n r m hd hlv hn hr hm
    have hDe := t.depth_eq
    have hNe := t.nodes_eq
    match lv, n, hr with
    | 0, n, hr =>
      have e : r = false := by rw [hr]; simp; omega
      rw [e]; exact fits_none_left t n m
    | lv + 1, 0, hr =>
      have e : r = false := by rw [hr]; simp; omega
      rw [e]; exact fits_no_nodes t (lv + 1) m (by omega)
    | lv + 1, n + 1, hr => exact fits_step d ih t _ _ lv n r m hd hlv hn rfl rfl hr hm
end Go.Proofs.YtfclidcfhadohaaDoor.st
