/-
  Contracts over this program: whether one node may be (the document's one): one of them.
-/
import Derived.Test.YtfclidcfhadohaaDoorNd5
namespace Go.Proofs.YtfclidcfhadohaaDoor.st
open Go.ChangeShapes Go.WideShapes Go.ChangeAt Go.RowKit
set_option linter.unusedVariables false

set_option maxHeartbeats 2000000 in
set_option maxRecDepth 100000 in
theorem one3 (w : World) (q : Q4) (mn mx : Int) (o : Option Addr) (l : List Tr) (cap : Nat) (P : Nat → Prop) (ns r : Bool) (heq : EqS q ns) (hi : KidsIs w P l (.slice o l.length cap)) (hr : r = (ns && decide (mn = 0) && decide (mx = 0) && decide (2 ≤ l.length) && !anyKind 3 l)) : OneAt w 3 q mn mx o l.length cap r := by
  have HR : Hid (r = (ns && decide (mn = 0) && decide (mx = 0) && decide (2 ≤ l.length) && !anyKind 3 l)) := hr
  obtain ⟨o', cap', b, off, vs, hv, hcap, hk⟩ := hi.form
  simp only [Value.slice.injEq] at hv
  obtain ⟨rfl, hx, rfl⟩ := hv
  clear hx
  simp only [Tr.kids] at hcap hk
  have hll : l.length ≤ 9223372036854775807 := by
    by_cases h0 : 0 < l.length
    · have := (hk 0 h0).2.1; omega
    · omega
  unfold EqS at heq
  unfold OneAt
  clear hr hi
  generalize hn : l.length = n at *
  have HN : Hid (l.length = n) := hn
  clear hn
  cases ns
  · have HX : Hid (r = false) := by show _ = _; rw [HR.out]; rfl
    clear hk
    go_enter Tryd.func41, Tryd.ntmps41
    go_wp2_with (fail)
    go_ret
    exact ⟨by rw [HX.out]; rfl, below_alloc _ _⟩
  by_cases hmn : mn = 0
  case neg =>
    have hc := bnet hmn
    have HX : Hid (r = false) := by show _ = _; rw [HR.out]; simp [hmn]
    clear hmn hk
    go_enter Tryd.func41, Tryd.ntmps41
    go_wp2_with (fail)
    go_ret
    exact ⟨by rw [HX.out]; rfl, below_alloc _ _⟩
  subst hmn
  by_cases hmx : mx = 0
  case neg =>
    have hc := bnet hmx
    have HX : Hid (r = false) := by show _ = _; rw [HR.out]; simp [hmx]
    clear hmx hk
    go_enter Tryd.func41, Tryd.ntmps41
    go_wp2_with (fail)
    go_ret
    exact ⟨by rw [HX.out]; rfl, below_alloc _ _⟩
  subst hmx
  by_cases h1 : n = 1
  · have HX : Hid (r = false) := by show _ = _; rw [HR.out]; simp [h1]
    rw [h1]
    clear hk h1
    go_enter Tryd.func41, Tryd.ntmps41
    go_wp2_with (fail)
    go_ret
    exact ⟨by rw [HX.out]; rfl, below_alloc _ _⟩
  have hc : ((n : Int) == 1) = false := by rw [beq_eq_false_iff_ne]; omega
  by_cases h0 : n = 0
  · have HX : Hid (r = false) := by show _ = _; rw [HR.out]; simp [h0]
    rw [h0]
    clear hk h1 h0 hc
    go_enter Tryd.func41, Tryd.ntmps41
    go_wp2_with (fail)
    go_ret
    exact ⟨by rw [HX.out]; rfl, below_alloc _ _⟩
  have hc0 : ((n : Int) == 0) = false := by rw [beq_eq_false_iff_ne]; omega
  have HS : Hid (r = !anyKind 3 l) := by show _ = _; rw [HR.out]; simp; intro _; omega
  clear HR h1
  go_enter Tryd.func41, Tryd.ntmps41
  go_wp2_with (fail)
  go_loopw [60] (fun x wr => ∃ (i : Nat), x = .int .i64 i ∧ i ≤ n ∧ Below w.heap.size w wr ∧ wr.cell? ⟨w.heap.size, 0, none⟩ = some (.int .i64 3) ∧ w.heap.size < wr.heap.size ∧ Hid (anyKind 3 (l.take i) = false)) (fun x _ => n - (intOf x).toNat)
  case atStart => exact ⟨0, rfl, by omega, below_alloc _ _, by simp [go_sem], by simp, rfl⟩
  case round =>
    obtain ⟨i, rfl, hil, hB, hck, hsz, HI⟩ := hrel
    by_cases hend : i < n
    · obtain ⟨rfl, hcm, hb, hne, hcells, hkid⟩ := hk i hend
      have hcells2 := hcells.same (hB.block b hb)
      obtain ⟨o2, n2, cap2, hv2⟩ := hkid.shape
      rw [hv2] at hcells2
      obtain ⟨k0, k1, k2, k3, k4, k5, k6, k7⟩ := hcells2
      have hck2 : ∀ o, (wr.alloc o).cell? ⟨w.heap.size, 0, none⟩ = some (.int .i64 3) := fun o => (cell_same ((below_alloc wr o).block _ hsz) 0).trans hck
      clear hcells hkid hk hv2
      by_cases hyes : (nthT l i).kind = 3
      · have HF : Hid (r = false) := by show _ = _; rw [HS.out, any_true 3 l i (by rw [HN.out]; exact hend) hyes]; rfl
        generalize nthT l i = x at *
        go_wp2_with (fail)
        go_ret
        exact ⟨by rw [HF.out]; rfl, hB.alloc hB.size _⟩
      · have HJ : Hid (anyKind 3 (l.take (i + 1)) = false) := by
          show _ = _
          rw [any_take 3 l i (by rw [HN.out]; exact hend), HI.out, decide_eq_false hyes]; rfl
        generalize nthT l i = x at *
        go_wp2_with (fail)
        go_roundw
        case rel => exact ⟨i + 1, by go_num, by omega, hB.alloc hB.size _, hck2 _, by simp; omega, HJ⟩
        case measure => simp [intOf]; omega
    · have HF : Hid (r = true) := by
        show _ = _
        rw [HS.out, ← any_take_le 3 l i (by rw [HN.out]; omega), HI.out]; rfl
      go_wp2_with (fail)
      go_ret
      exact ⟨by rw [HF.out]; rfl, hB⟩
end Go.Proofs.YtfclidcfhadohaaDoor.st
