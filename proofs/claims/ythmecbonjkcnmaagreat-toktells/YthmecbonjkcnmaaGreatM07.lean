/-
  Texts put together: Contracts over this program: whether one node may be (regex.rightNode): again and again. Contracts over this program: whether one node may be (the document's one): a set, again and again. Contracts over this program: whether one node may be (the document's one): one behind the other. Contracts over this program: whether one node may be (the document's one): one of them.
-/
import Derived.Test.YthmecbonjkcnmaaGreatM06
namespace Go.Proofs.YthmecbonjkcnmaaGreat.st
open Go.ChangeShapes Go.WideShapes Go.ChangeAt Go.RowKit
set_option linter.unusedVariables false

set_option maxHeartbeats 2000000 in
set_option maxRecDepth 100000 in
theorem node4 (w : World) (q : Q4) (mn mx : Int) (o : Option Addr) (n cap : Nat) (ns tm r : Bool) (hn : n ≤ 9223372036854775807) (heq : EqS q ns) (hh : TimesIs mn mx tm) (hr : r = (ns && tm && decide (n = 1))) : NodeAt w 4 q mn mx o n cap r := by
  have HR : Hid (r = (ns && tm && decide (n = 1))) := hr
  unfold EqS at heq
  unfold NodeAt
  clear hr
  have h3 : (mn == 0) = false ∨ (mn = 0 ∧ mx = 0) ∨ (mn = 0 ∧ (mx == 0) = false) := by
    by_cases h : mn = 0
    · by_cases h' : mx = 0
      · exact .inr (.inl ⟨h, h'⟩)
      · exact .inr (.inr ⟨h, beqf h'⟩)
    · exact .inl (beqf h)
  cases ns
  · have HX : Hid (r = false) := by show _ = _; rw [HR.out]; rfl
    rcases h3 with h3 | ⟨rfl, rfl⟩ | ⟨rfl, h3⟩
    all_goals
      go_enter Tryz.func109, Tryz.ntmps109
      go_wp2_with (fail)
      go_ret
      exact ⟨by rw [HX.out]; rfl, below_alloc _ _⟩
  · cases tm
    · have HX : Hid (r = false) := by show _ = _; rw [HR.out]; rfl
      rcases h3 with h3 | ⟨rfl, rfl⟩ | ⟨rfl, h3⟩
      all_goals
        go_enter Tryz.func109, Tryz.ntmps109
        go_wp2_with (go_at_call 131; refine (hh _).mono ?_; rintro e w1 ⟨rfl, h⟩; obtain rfl := h.symm)
        go_ret
        exact ⟨by rw [HX.out]; rfl, below_alloc _ _⟩
    · have HX : Hid (r = ((n : Int) == 1)) := by show _ = _; rw [HR.out, beq1]; rfl
      rcases h3 with h3 | ⟨rfl, rfl⟩ | ⟨rfl, h3⟩
      all_goals
        go_enter Tryz.func109, Tryz.ntmps109
        go_wp2_with (go_at_call 131; refine (hh _).mono ?_; rintro e w1 ⟨rfl, h⟩; obtain rfl := h.symm)
        go_ret
        exact ⟨by rw [HX.out]; rfl, below_alloc _ _⟩
end Go.Proofs.YthmecbonjkcnmaaGreat.st

namespace Go.Proofs.YthmecbonjkcnmaaGreat.st
open Go.ChangeShapes Go.WideShapes Go.ChangeAt Go.RowKit
set_option linter.unusedVariables false

def OneAt (w : World) (k : Int) (q : Q4) (mn mx : Int) (o : Option Addr) (n cap : Nat) (r : Bool) : Prop :=
  Calls Tryz.prog 76 #[.agg #[.int .i64 k, .int .u64 q.a, .int .u64 q.b, .int .u64 q.c, .int .u64 q.d, .int .i64 mn, .int .i64 mx, .slice o n cap]] w fun e w' => e = .returned (.bool r) ∧ Below w.heap.size w w'
theorem bnet {a b : Int} (h : ¬ a = b) : (a != b) = true := by rw [bne_iff_ne]; exact h

set_option maxHeartbeats 2000000 in
set_option maxRecDepth 100000 in
theorem one1 (w : World) (q : Q4) (mn mx : Int) (o : Option Addr) (n cap : Nat) (r : Bool) (hn : n ≤ 9223372036854775807) (hr : r = (decide (mn = 0) && decide (mx = 0) && decide (n = 0))) : OneAt w 1 q mn mx o n cap r := by
  have HR : Hid (r = (decide (mn = 0) && decide (mx = 0) && decide (n = 0))) := hr
  unfold OneAt
  clear hr
  by_cases hmn : mn = 0
  · subst hmn
    by_cases hmx : mx = 0
    · subst hmx
      have HX : Hid (r = ((n : Int) == 0)) := by show _ = _; rw [HR.out, ← beq0]; rfl
      go_enter Tryz.func76, Tryz.ntmps76
      go_wp2_with (fail)
      go_ret
      exact ⟨by rw [HX.out]; rfl, below_alloc _ _⟩
    · have hmx2 := beqf hmx
      have HX : Hid (r = false) := by show _ = _; rw [HR.out]; simp [hmx]
      clear hmx
      go_enter Tryz.func76, Tryz.ntmps76
      go_wp2_with (fail)
      go_ret
      exact ⟨by rw [HX.out]; rfl, below_alloc _ _⟩
  · have hmn2 := beqf hmn
    have HX : Hid (r = false) := by show _ = _; rw [HR.out]; simp [hmn]
    clear hmn
    go_enter Tryz.func76, Tryz.ntmps76
    go_wp2_with (fail)
    go_ret
    exact ⟨by rw [HX.out]; rfl, below_alloc _ _⟩

set_option maxHeartbeats 2000000 in
set_option maxRecDepth 100000 in
theorem one5 (w : World) (k : Int) (q : Q4) (mn mx : Int) (o : Option Addr) (n cap : Nat) (k1 : (k == 1) = false) (k2 : (k == 2) = false) (k3 : (k == 3) = false) (k4 : (k == 4) = false) : OneAt w k q mn mx o n cap false := by
  unfold OneAt
  go_enter Tryz.func76, Tryz.ntmps76
  go_wp2_with (fail)
  go_ret
  exact ⟨rfl, below_alloc _ _⟩

set_option maxHeartbeats 2000000 in
set_option maxRecDepth 100000 in
theorem one4 (w : World) (q : Q4) (mn mx : Int) (o : Option Addr) (n cap : Nat) (ns r : Bool) (hn : n ≤ 9223372036854775807) (heq : EqS q ns) (hr : r = (ns && timesOk mn mx && decide (n = 1))) : OneAt w 4 q mn mx o n cap r := by
  have HR : Hid (r = (ns && timesOk mn mx && decide (n = 1))) := hr
  unfold EqS at heq
  unfold OneAt
  clear hr
  cases ns
  · have HX : Hid (r = false) := by show _ = _; rw [HR.out]; rfl
    go_enter Tryz.func76, Tryz.ntmps76
    go_wp2_with (fail)
    go_ret
    exact ⟨by rw [HX.out]; rfl, below_alloc _ _⟩
  by_cases h1 : n = 1
  case neg =>
    have hc : ((n : Int) != 1) = true := by rw [bne_iff_ne]; omega
    have HX : Hid (r = false) := by show _ = _; rw [HR.out]; simp [h1]
    clear h1
    go_enter Tryz.func76, Tryz.ntmps76
    go_wp2_with (fail)
    go_ret
    exact ⟨by rw [HX.out]; rfl, below_alloc _ _⟩
  subst h1
  by_cases h2 : mn < 0
  · have HX : Hid (r = false) := by show _ = _; rw [HR.out]; unfold timesOk; rw [decide_eq_false (by omega : ¬ 0 ≤ mn)]; rfl
    go_enter Tryz.func76, Tryz.ntmps76
    go_wp2_with (fail)
    go_ret
    exact ⟨by rw [HX.out]; rfl, below_alloc _ _⟩
  by_cases h3 : 20 < mn
  · have HX : Hid (r = false) := by show _ = _; rw [HR.out]; unfold timesOk; rw [decide_eq_false (by omega : ¬ mn ≤ 20)]; simp
    go_enter Tryz.func76, Tryz.ntmps76
    go_wp2_with (fail)
    go_ret
    exact ⟨by rw [HX.out]; rfl, below_alloc _ _⟩
  have HS : Hid (r = (decide (mx = -1) || (decide (mn ≤ mx) && decide (mx ≤ 20) && !(decide (mn = 1) && decide (mx = 1))))) := by
    show _ = _
    rw [HR.out]; unfold timesOk; rw [decide_eq_true (by omega : mn ≤ 20), decide_eq_true (by omega : 0 ≤ mn)]; simp
  clear HR
  by_cases h4 : mx = -1
  · subst h4
    have HX : Hid (r = true) := by show _ = _; rw [HS.out]; rfl
    go_enter Tryz.func76, Tryz.ntmps76
    go_wp2_with (fail)
    go_ret
    exact ⟨by rw [HX.out]; rfl, below_alloc _ _⟩
  have h4b := beqf h4
  by_cases h5 : mn ≤ mx
  case neg =>
    have HX : Hid (r = false) := by show _ = _; rw [HS.out, decide_eq_false h4, decide_eq_false h5]; rfl
    clear h4
    go_enter Tryz.func76, Tryz.ntmps76
    go_wp2_with (fail)
    go_ret
    exact ⟨by rw [HX.out]; rfl, below_alloc _ _⟩
  by_cases h6 : mx ≤ 20
  case neg =>
    have HX : Hid (r = false) := by show _ = _; rw [HS.out, decide_eq_false h4, decide_eq_false h6]; simp
    clear h4
    go_enter Tryz.func76, Tryz.ntmps76
    go_wp2_with (fail)
    go_ret
    exact ⟨by rw [HX.out]; rfl, below_alloc _ _⟩
  by_cases h7 : mn = 1
  · subst h7
    by_cases h8 : mx = 1
    · subst h8
      have HX : Hid (r = false) := by show _ = _; rw [HS.out]; rfl
      clear h4
      go_enter Tryz.func76, Tryz.ntmps76
      go_wp2_with (fail)
      go_ret
      exact ⟨by rw [HX.out]; rfl, below_alloc _ _⟩
    · have h8b := bnet h8
      have HX : Hid (r = true) := by show _ = _; rw [HS.out, decide_eq_true h5, decide_eq_true h6, decide_eq_false h8]; simp
      clear h4 h8
      go_enter Tryz.func76, Tryz.ntmps76
      go_wp2_with (fail)
      go_ret
      exact ⟨by rw [HX.out]; rfl, below_alloc _ _⟩
  · have h7b := bnet h7
    have HX : Hid (r = true) := by show _ = _; rw [HS.out, decide_eq_true h5, decide_eq_true h6, decide_eq_false h7]; simp
    clear h4 h7
    go_enter Tryz.func76, Tryz.ntmps76
    go_wp2_with (fail)
    go_ret
    exact ⟨by rw [HX.out]; rfl, below_alloc _ _⟩
end Go.Proofs.YthmecbonjkcnmaaGreat.st

namespace Go.Proofs.YthmecbonjkcnmaaGreat.st
open Go.ChangeShapes Go.WideShapes Go.ChangeAt Go.RowKit
set_option linter.unusedVariables false

set_option maxHeartbeats 2000000 in
set_option maxRecDepth 100000 in
theorem one2 (w : World) (q : Q4) (mn mx : Int) (o : Option Addr) (l : List Tr) (cap : Nat) (P : Nat → Prop) (ns r : Bool) (heq : EqS q ns) (hi : KidsIs w P l (.slice o l.length cap)) (hr : r = (ns && decide (mn = 0) && decide (mx = 0) && !decide (l.length = 1) && !anyKind 2 l)) : OneAt w 2 q mn mx o l.length cap r := by
  have HR : Hid (r = (ns && decide (mn = 0) && decide (mx = 0) && !decide (l.length = 1) && !anyKind 2 l)) := hr
  obtain ⟨o', cap', b, off, vs, hv, hcap, hk⟩ := hi.form
  simp only [Value.slice.injEq] at hv
  obtain ⟨rfl, hx, rfl⟩ := hv
  clear hx
  simp only [Tr.kids] at hcap hk
  have hll : l.length ≤ 9223372036854775807 := by
    by_cases h0 : 0 < l.length
    · have := (hk 0 h0).2.1; omega
    · omega
  unfold EqS at heq
  unfold OneAt
  clear hr hi
  generalize hn : l.length = n at *
  have HN : Hid (l.length = n) := hn
  clear hn
  cases ns
  · have HX : Hid (r = false) := by show _ = _; rw [HR.out]; rfl
    clear hk
    go_enter Tryz.func76, Tryz.ntmps76
    go_wp2_with (fail)
    go_ret
    exact ⟨by rw [HX.out]; rfl, below_alloc _ _⟩
  by_cases hmn : mn = 0
  case neg =>
    have hc := bnet hmn
    have HX : Hid (r = false) := by show _ = _; rw [HR.out]; simp [hmn]
    clear hmn hk
    go_enter Tryz.func76, Tryz.ntmps76
    go_wp2_with (fail)
    go_ret
    exact ⟨by rw [HX.out]; rfl, below_alloc _ _⟩
  subst hmn
  by_cases hmx : mx = 0
  case neg =>
    have hc := bnet hmx
    have HX : Hid (r = false) := by show _ = _; rw [HR.out]; simp [hmx]
    clear hmx hk
    go_enter Tryz.func76, Tryz.ntmps76
    go_wp2_with (fail)
    go_ret
    exact ⟨by rw [HX.out]; rfl, below_alloc _ _⟩
  subst hmx
  by_cases h1 : n = 1
  · have HX : Hid (r = false) := by show _ = _; rw [HR.out]; simp [h1]
    rw [h1]
    clear hk h1
    go_enter Tryz.func76, Tryz.ntmps76
    go_wp2_with (fail)
    go_ret
    exact ⟨by rw [HX.out]; rfl, below_alloc _ _⟩
  have hc : ((n : Int) == 1) = false := by rw [beq_eq_false_iff_ne]; omega
  by_cases h0 : n = 0
  · have HX : Hid (r = true) := by show _ = _; rw [HR.out, List.eq_nil_of_length_eq_zero (HN.out.trans h0), h0]; rfl
    rw [h0]
    clear hk h1 h0 hc
    go_enter Tryz.func76, Tryz.ntmps76
    go_wp2_with (fail)
    go_loopw [60] (fun x wr => x = .int .i64 0 ∧ Below w.heap.size w wr) (fun _ _ => 0)
    case atStart => exact ⟨rfl, below_alloc _ _⟩
    case round =>
      obtain ⟨rfl, hB⟩ := hrel
      go_wp2_with (fail)
      go_ret
      exact ⟨by rw [HX.out]; rfl, hB⟩
  have hc0 : ((n : Int) == 0) = false := by rw [beq_eq_false_iff_ne]; omega
  have HS : Hid (r = !anyKind 2 l) := by show _ = _; rw [HR.out]; simp; intro _; omega
  clear HR h1
  go_enter Tryz.func76, Tryz.ntmps76
  go_wp2_with (fail)
  go_loopw [60] (fun x wr => ∃ (i : Nat), x = .int .i64 i ∧ i ≤ n ∧ Below w.heap.size w wr ∧ wr.cell? ⟨w.heap.size, 0, none⟩ = some (.int .i64 2) ∧ w.heap.size < wr.heap.size ∧ Hid (anyKind 2 (l.take i) = false)) (fun x _ => n - (intOf x).toNat)
  case atStart => exact ⟨0, rfl, by omega, below_alloc _ _, by simp [go_sem], by simp, rfl⟩
  case round =>
    obtain ⟨i, rfl, hil, hB, hck, hsz, HI⟩ := hrel
    by_cases hend : i < n
    · obtain ⟨rfl, hcm, hb, hne, hcells, hkid⟩ := hk i hend
      have hcells2 := hcells.same (hB.block b hb)
      obtain ⟨o2, n2, cap2, hv2⟩ := hkid.shape
      rw [hv2] at hcells2
      obtain ⟨k0, k1, k2, k3, k4, k5, k6, k7⟩ := hcells2
      have hck2 : ∀ o, (wr.alloc o).cell? ⟨w.heap.size, 0, none⟩ = some (.int .i64 2) := fun o => (cell_same ((below_alloc wr o).block _ hsz) 0).trans hck
      clear hcells hkid hk hv2
      by_cases hyes : (nthT l i).kind = 2
      · have HF : Hid (r = false) := by show _ = _; rw [HS.out, any_true 2 l i (by rw [HN.out]; exact hend) hyes]; rfl
        generalize nthT l i = x at *
        go_wp2_with (fail)
        go_ret
        exact ⟨by rw [HF.out]; rfl, hB.alloc hB.size _⟩
      · have HJ : Hid (anyKind 2 (l.take (i + 1)) = false) := by
          show _ = _
          rw [any_take 2 l i (by rw [HN.out]; exact hend), HI.out, decide_eq_false hyes]; rfl
        generalize nthT l i = x at *
        go_wp2_with (fail)
        go_roundw
        case rel => exact ⟨i + 1, by go_num, by omega, hB.alloc hB.size _, hck2 _, by simp; omega, HJ⟩
        case measure => simp [intOf]; omega
    · have HF : Hid (r = true) := by
        show _ = _
        rw [HS.out, ← any_take_le 2 l i (by rw [HN.out]; omega), HI.out]; rfl
      go_wp2_with (fail)
      go_ret
      exact ⟨by rw [HF.out]; rfl, hB⟩
end Go.Proofs.YthmecbonjkcnmaaGreat.st

namespace Go.Proofs.YthmecbonjkcnmaaGreat.st
open Go.ChangeShapes Go.WideShapes Go.ChangeAt Go.RowKit
set_option linter.unusedVariables false

set_option maxHeartbeats 2000000 in
set_option maxRecDepth 100000 in
theorem one3 (w : World) (q : Q4) (mn mx : Int) (o : Option Addr) (l : List Tr) (cap : Nat) (P : Nat → Prop) (ns r : Bool) (heq : EqS q ns) (hi : KidsIs w P l (.slice o l.length cap)) (hr : r = (ns && decide (mn = 0) && decide (mx = 0) && decide (2 ≤ l.length) && !anyKind 3 l)) : OneAt w 3 q mn mx o l.length cap r := by
  have HR : Hid (r = (ns && decide (mn = 0) && decide (mx = 0) && decide (2 ≤ l.length) && !anyKind 3 l)) := hr
  obtain ⟨o', cap', b, off, vs, hv, hcap, hk⟩ := hi.form
  simp only [Value.slice.injEq] at hv
  obtain ⟨rfl, hx, rfl⟩ := hv
  clear hx
  simp only [Tr.kids] at hcap hk
  have hll : l.length ≤ 9223372036854775807 := by
    by_cases h0 : 0 < l.length
    · have := (hk 0 h0).2.1; omega
    · omega
  unfold EqS at heq
  unfold OneAt
  clear hr hi
  generalize hn : l.length = n at *
  have HN : Hid (l.length = n) := hn
  clear hn
  cases ns
  · have HX : Hid (r = false) := by show _ = _; rw [HR.out]; rfl
    clear hk
    go_enter Tryz.func76, Tryz.ntmps76
    go_wp2_with (fail)
    go_ret
    exact ⟨by rw [HX.out]; rfl, below_alloc _ _⟩
  by_cases hmn : mn = 0
  case neg =>
    have hc := bnet hmn
    have HX : Hid (r = false) := by show _ = _; rw [HR.out]; simp [hmn]
    clear hmn hk
    go_enter Tryz.func76, Tryz.ntmps76
    go_wp2_with (fail)
    go_ret
    exact ⟨by rw [HX.out]; rfl, below_alloc _ _⟩
  subst hmn
  by_cases hmx : mx = 0
  case neg =>
    have hc := bnet hmx
    have HX : Hid (r = false) := by show _ = _; rw [HR.out]; simp [hmx]
    clear hmx hk
    go_enter Tryz.func76, Tryz.ntmps76
    go_wp2_with (fail)
    go_ret
    exact ⟨by rw [HX.out]; rfl, below_alloc _ _⟩
  subst hmx
  by_cases h1 : n = 1
  · have HX : Hid (r = false) := by show _ = _; rw [HR.out]; simp [h1]
    rw [h1]
    clear hk h1
    go_enter Tryz.func76, Tryz.ntmps76
    go_wp2_with (fail)
    go_ret
    exact ⟨by rw [HX.out]; rfl, below_alloc _ _⟩
  have hc : ((n : Int) == 1) = false := by rw [beq_eq_false_iff_ne]; omega
  by_cases h0 : n = 0
  · have HX : Hid (r = false) := by show _ = _; rw [HR.out]; simp [h0]
    rw [h0]
    clear hk h1 h0 hc
    go_enter Tryz.func76, Tryz.ntmps76
    go_wp2_with (fail)
    go_ret
    exact ⟨by rw [HX.out]; rfl, below_alloc _ _⟩
  have hc0 : ((n : Int) == 0) = false := by rw [beq_eq_false_iff_ne]; omega
  have HS : Hid (r = !anyKind 3 l) := by show _ = _; rw [HR.out]; simp; intro _; omega
  clear HR h1
  go_enter Tryz.func76, Tryz.ntmps76
  go_wp2_with (fail)
  go_loopw [60] (fun x wr => ∃ (i : Nat), x = .int .i64 i ∧ i ≤ n ∧ Below w.heap.size w wr ∧ wr.cell? ⟨w.heap.size, 0, none⟩ = some (.int .i64 3) ∧ w.heap.size < wr.heap.size ∧ Hid (anyKind 3 (l.take i) = false)) (fun x _ => n - (intOf x).toNat)
  case atStart => exact ⟨0, rfl, by omega, below_alloc _ _, by simp [go_sem], by simp, rfl⟩
  case round =>
    obtain ⟨i, rfl, hil, hB, hck, hsz, HI⟩ := hrel
    by_cases hend : i < n
    · obtain ⟨rfl, hcm, hb, hne, hcells, hkid⟩ := hk i hend
      have hcells2 := hcells.same (hB.block b hb)
      obtain ⟨o2, n2, cap2, hv2⟩ := hkid.shape
      rw [hv2] at hcells2
      obtain ⟨k0, k1, k2, k3, k4, k5, k6, k7⟩ := hcells2
      have hck2 : ∀ o, (wr.alloc o).cell? ⟨w.heap.size, 0, none⟩ = some (.int .i64 3) := fun o => (cell_same ((below_alloc wr o).block _ hsz) 0).trans hck
      clear hcells hkid hk hv2
      by_cases hyes : (nthT l i).kind = 3
      · have HF : Hid (r = false) := by show _ = _; rw [HS.out, any_true 3 l i (by rw [HN.out]; exact hend) hyes]; rfl
        generalize nthT l i = x at *
        go_wp2_with (fail)
        go_ret
        exact ⟨by rw [HF.out]; rfl, hB.alloc hB.size _⟩
      · have HJ : Hid (anyKind 3 (l.take (i + 1)) = false) := by
          show _ = _
          rw [any_take 3 l i (by rw [HN.out]; exact hend), HI.out, decide_eq_false hyes]; rfl
        generalize nthT l i = x at *
        go_wp2_with (fail)
        go_roundw
        case rel => exact ⟨i + 1, by go_num, by omega, hB.alloc hB.size _, hck2 _, by simp; omega, HJ⟩
        case measure => simp [intOf]; omega
    · have HF : Hid (r = true) := by
        show _ = _
        rw [HS.out, ← any_take_le 3 l i (by rw [HN.out]; omega), HI.out]; rfl
      go_wp2_with (fail)
      go_ret
      exact ⟨by rw [HF.out]; rfl, hB⟩
end Go.Proofs.YthmecbonjkcnmaaGreat.st
