/-
  Contracts over this program: whether kinds rise (pack.rise), whether two lists of sections are the same (fretsawref04's Like).
-/
import Derived.Test.YtjnjjbacfodacaaSecs
namespace Go.Proofs.Ytjnjjbacfodacaa.pk
open Go.ChangeShapes Go.WideShapes Go.ChangeAt Go.RowKit
set_option linter.unusedVariables false

theorem take_nth (l : List Sec) (i : Nat) (h : i < l.length) : l.take (i + 1) = l.take i ++ [nth l i] := by
  rw [List.take_add_one, List.getElem?_eq_getElem h]
  unfold nth
  rw [List.getD_eq_getElem?_getD, List.getElem?_eq_getElem h]
  rfl
theorem nth_take (l : List Sec) (i j : Nat) (h : j < i) : nth (l.take i) j = nth l j := by
  unfold nth
  rw [List.getD_eq_getElem?_getD, List.getD_eq_getElem?_getD, List.getElem?_take_of_lt h]
theorem Secs.take {w : World} {l : List Sec} {b off cap : Nat} (hl : l.length ≤ cap) (hm : cap ≤ 9223372036854775807) (hlt : b < w.heap.size)
    (hc : ∀ i, i < l.length → w.cell? ⟨b, off + i * 2, none⟩ = some (.int .u64 (nth l i).kind) ∧ w.cell? ⟨b, off + i * 2 + 1, none⟩ = some (.string (nth l i).body))
    (i : Nat) (hi : i ≤ l.length) : Secs w (.slice (some ⟨b, off, none⟩) i cap) (l.take i) := by
  have e : (l.take i).length = i := by rw [List.length_take]; omega
  refine .inr ⟨b, off, cap, by rw [e], by omega, hm, hlt, fun j hj => ?_⟩
  rw [nth_take l i j (by omega)]
  exact hc j (by omega)

def RiseIs (l : List Sec) (r : Bool) : Prop := ∀ v w, Secs w v l → Calls Try.prog 19 #[v] w fun e w' => e = .returned (.bool r) ∧ Below w.heap.size w w'

set_option maxHeartbeats 1000000 in
set_option maxRecDepth 100000 in
theorem rise_any (l : List Sec) (r : Bool) (hr : r = rises none l) : RiseIs l r := by
  intro v w hv
  have HR : Hid (r = rises none l) := hr
  clear hr
  rcases hv with ⟨rfl, a, cap, rfl⟩ | ⟨b, off, cap, rfl, hl, hm, hlt, hc⟩
  · have h0 : r = true := HR.out
    subst h0
    go_enter Try.func19, Try.ntmps19
    go_wp2
    go_loopw [7] (fun x wr => x = .int .i64 0 ∧ wr = w) (fun _ _ => 0)
    case atStart => exact ⟨rfl, rfl⟩
    case round =>
      obtain ⟨rfl, rfl⟩ := hrel
      go_wp2
      go_ret
      exact ⟨rfl, Below.refl _ _⟩
  · go_enter Try.func19, Try.ntmps19
    go_wp2
    go_loopw [7] (fun x wr => ∃ (i : Nat), x = .int .i64 i ∧ i ≤ l.length ∧ Below w.heap.size w wr ∧ Hid (rises (lastKind (l.take i)) (l.drop i) = r)) (fun x _ => l.length - (intOf x).toNat)
    case atStart => exact ⟨0, rfl, by omega, Below.refl _ _, by rw [List.drop_zero]; exact HR.out.symm⟩
    case round =>
      obtain ⟨i, rfl, hi, hB, HT⟩ := hrel
      by_cases hend : i < l.length
      · obtain ⟨hc1, hc2⟩ := hc i hend
        rw [← hB.cell (p := ⟨b, off + i * 2, none⟩) hlt] at hc1
        rw [← hB.cell (p := ⟨b, off + i * 2 + 1, none⟩) hlt] at hc2
        have hab := above_any (l.take i) (nth l i).kind _ rfl
        have hsec := Secs.take hl hm hlt hc i hi
        have hsec2 : ∀ W, Below w.heap.size w W → Secs W (.slice (some ⟨b, off, none⟩) i cap) (l.take i) := fun W hW => hsec.below hW
        have hBa : ∀ o, Below w.heap.size w (wr.alloc o) := fun o => hB.alloc hB.size o
        by_cases hov : over (lastKind (l.take i)) (nth l i).kind = true
        · have HN : Hid (rises (lastKind (l.take (i + 1))) (l.drop (i + 1)) = r) := by
            show _ = _
            rw [← HT.out, drop_nth l i hend, rises, hov, Bool.true_and, take_nth l i hend, last_append]
          rw [hov] at hab
          generalize nth l i = x at *
          clear hc HT hov
          have hi1 : (0 : Int) ≤ (i : Int) := by omega
          have hi2 : (i : Int) ≤ (cap : Int) := by omega
          go_wp2
          go_region_held3 (fun W => W.cell? ⟨wr.heap.size, 0, none⟩ = some (.int .u64 x.kind) ∧ Below w.heap.size w W) (first | assumption | (refine ⟨?_, (hBa _).drew⟩; go_keep)) (first | (go_at_call 33; refine (hab _ _ (hsec2 _ (by first | assumption | exact (And.right (by assumption))))).mono ?_; rintro e w1 ⟨rfl, rfl⟩))
          go_wp2
          go_roundw
          case rel => exact ⟨i + 1, by go_num, by omega, (hBa _).drew, HN⟩
          case measure => simp [intOf]; omega
        · have hov2 : over (lastKind (l.take i)) (nth l i).kind = false := by simpa using hov
          have HN : Hid (r = false) := by
            show _ = _
            rw [← HT.out, drop_nth l i hend, rises, hov2, Bool.false_and]
          rw [hov2] at hab
          generalize nth l i = x at *
          clear hc HT hov hov2
          have hi1 : (0 : Int) ≤ (i : Int) := by omega
          have hi2 : (i : Int) ≤ (cap : Int) := by omega
          go_wp2
          go_region_held3 (fun W => W.cell? ⟨wr.heap.size, 0, none⟩ = some (.int .u64 x.kind) ∧ Below w.heap.size w W) (first | assumption | (refine ⟨?_, (hBa _).drew⟩; go_keep)) (first | (go_at_call 33; refine (hab _ _ (hsec2 _ (by first | assumption | exact (And.right (by assumption))))).mono ?_; rintro e w1 ⟨rfl, rfl⟩))
          go_wp2
          go_ret
          exact ⟨by rw [HN.out]; rfl, (hBa _).drew⟩
      · have HE : Hid (r = true) := by
          show _ = _
          rw [← HT.out, List.drop_eq_nil_of_le (by omega)]
          rfl
        go_wp2
        go_ret
        exact ⟨by rw [HE.out]; rfl, hB⟩

theorem Secs.nil {w : World} {v : Value} (h : Secs w v []) : ∃ a cap, v = .slice a 0 cap := by
  rcases h with ⟨_, h⟩ | ⟨b, off, cap, hv, _⟩
  · exact h
  · exact ⟨_, _, hv⟩
theorem Secs.row {w : World} {v : Value} {l : List Sec} (h : Secs w v l) (hne : l ≠ []) : ∃ b off cap, v = .slice (some ⟨b, off, none⟩) l.length cap ∧ l.length ≤ cap ∧ cap ≤ 9223372036854775807 ∧ b < w.heap.size ∧ ∀ i, i < l.length → w.cell? ⟨b, off + i * 2, none⟩ = some (.int .u64 (nth l i).kind) ∧ w.cell? ⟨b, off + i * 2 + 1, none⟩ = some (.string (nth l i).body) := by
  rcases h with ⟨h, _⟩ | h
  · exact absurd h hne
  · exact h
theorem drewN_below {B : Nat} {a w : World} (h : Below B a w) (n : Nat) : Below B a (w.drewN n) := h.trans ⟨rfl, rfl, rfl, Nat.le_refl _, fun _ _ => rfl⟩

def LikeIs (l : List Sec) : Prop := ∀ v u w, Secs w v l → Secs w u l → Calls Try.prog 14 #[v, u] w fun e w' => e = .returned (.bool true) ∧ Below w.heap.size w w'

set_option maxHeartbeats 2000000 in
set_option maxRecDepth 100000 in
theorem like_any (l : List Sec) : LikeIs l := by
  intro v u w hv hu
  by_cases hne : l = []
  · subst hne
    obtain ⟨a, cap, rfl⟩ := hv.nil
    obtain ⟨a', cap', rfl⟩ := hu.nil
    go_enter Try.func14, Try.ntmps14
    go_wp2
    go_loop [13] (fun x => x = .int .i64 0) (fun _ => 0)
    case atStart => rfl
    case round =>
      obtain rfl := hrel
      go_wp2
      go_ret
      exact ⟨rfl, Below.refl _ _⟩
  · obtain ⟨b, off, cap, rfl, hl, hm, hlt, hc⟩ := hv.row hne
    obtain ⟨b', off', cap', rfl, hl', hm', hlt', hc'⟩ := hu.row hne
    clear hne hv hu
    have heq : ((l.length : Int) != (l.length : Int)) = false := by simp
    go_enter Try.func14, Try.ntmps14
    go_wp2
    go_loopw [13] (fun x wr => ∃ i : Nat, x = .int .i64 i ∧ i ≤ l.length ∧ Below w.heap.size w wr) (fun x _ => l.length - (intOf x).toNat)
    case atStart => exact ⟨0, rfl, by omega, Below.refl _ _⟩
    case round =>
      obtain ⟨i, rfl, hi, hB⟩ := hrel
      by_cases hend : i < l.length
      · obtain ⟨hc1, hc2⟩ := hc i hend
        rw [← hB.cell (p := ⟨b, off + i * 2, none⟩) hlt] at hc1
        rw [← hB.cell (p := ⟨b, off + i * 2 + 1, none⟩) hlt] at hc2
        obtain ⟨hd1, hd2⟩ := hc' i hend
        rw [← hB.cell (p := ⟨b', off' + i * 2, none⟩) hlt'] at hd1
        rw [← hB.cell (p := ⟨b', off' + i * 2 + 1, none⟩) hlt'] at hd2
        generalize nth l i = x at *
        clear hc hc'
        go_wp2
        go_quiet (fail)
        go_wp2
        go_roundw
        case rel => exact ⟨i + 1, by go_num, by omega, drewN_below hB _⟩
        case measure => simp [intOf]; omega
      · go_wp2
        go_ret
        exact ⟨rfl, hB⟩
end Go.Proofs.Ytjnjjbacfodacaa.pk
