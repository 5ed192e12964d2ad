/-
  Contracts over this program: a list of sections that is read; how long its bodies are (the law's size, pack.heavy).
-/
import Derived.Test.YtjnjjbacfodacaaPg
import Derived.Deep.QuietTactic
import Derived.Deep.RegionHeld3
import Derived.WalkSmall
import Derived.BigQuiet
namespace Go.Proofs.Ytjnjjbacfodacaa.pk
open Go.ChangeShapes Go.WideShapes Go.ChangeAt Go.RowKit
set_option linter.unusedVariables false

def nth (l : List Sec) (i : Nat) : Sec := l.getD i ⟨0, ⟨#[]⟩⟩

/-- a value that reads, in a world, as a list of sections -/
def Secs (w : World) (v : Value) (l : List Sec) : Prop :=
  (l = [] ∧ ∃ a cap, v = .slice a 0 cap) ∨
  (∃ b off cap, v = .slice (some ⟨b, off, none⟩) l.length cap ∧ l.length ≤ cap ∧ cap ≤ 9223372036854775807 ∧ b < w.heap.size ∧ ∀ i, i < l.length → w.cell? ⟨b, off + i * 2, none⟩ = some (.int .u64 (nth l i).kind) ∧ w.cell? ⟨b, off + i * 2 + 1, none⟩ = some (.string (nth l i).body))

theorem Secs.below {w w' : World} {v : Value} {l : List Sec} (h : Secs w v l) (hb : Below w.heap.size w w') : Secs w' v l := by
  rcases h with h | ⟨b, off, cap, hv, hl, hm, hlt, hc⟩
  · exact .inl h
  · exact .inr ⟨b, off, cap, hv, hl, hm, Nat.lt_of_lt_of_le hlt hb.size, fun i hi => ⟨by rw [hb.cell hlt]; exact (hc i hi).1, by rw [hb.cell hlt]; exact (hc i hi).2⟩⟩

theorem drop_nth (l : List Sec) (i : Nat) (h : i < l.length) : l.drop i = nth l i :: l.drop (i + 1) := by
  rw [List.drop_eq_getElem_cons h]
  congr 1
  unfold nth
  rw [List.getD_eq_getElem?_getD, List.getElem?_eq_getElem h]
  rfl
theorem nth_mem (l : List Sec) (i : Nat) (h : i < l.length) : nth l i ∈ l := by
  unfold nth
  rw [List.getD_eq_getElem?_getD, List.getElem?_eq_getElem h]
  exact List.getElem_mem h

def SizeIs (l : List Sec) (z : Int) : Prop := ∀ v w, Secs w v l → Calls Try.prog 9 #[v] w fun e w' => e = .returned (.int .i64 z) ∧ Below w.heap.size w w'

set_option maxHeartbeats 1000000 in
set_option maxRecDepth 100000 in
theorem size_small (l : List Sec) (z : Nat) (hz : z = total l) (hb : z ≤ 9223372036854775807) : SizeIs l z := by
  intro v w hv
  have HZ : Hid (z = total l) := hz
  clear hz
  rcases hv with ⟨rfl, a, cap, rfl⟩ | ⟨b, off, cap, rfl, hl, hm, hlt, hc⟩
  · have h0 : z = 0 := HZ.out
    subst h0
    go_enter Try.func9, Try.ntmps9
    go_wp2
    go_loopw [3, 8] (fun u x wr => u = .int .i64 0 ∧ x = .int .i64 0 ∧ wr = w) (fun _ _ _ => 0)
    case atStart => exact ⟨rfl, rfl, rfl⟩
    case round =>
      obtain ⟨rfl, rfl, rfl⟩ := hrel
      go_wp2
      go_ret
      exact ⟨rfl, Below.refl _ _⟩
  · go_enter Try.func9, Try.ntmps9
    go_wp2
    go_loopw [3, 8] (fun u x wr => ∃ (i t : Nat), u = .int .i64 t ∧ x = .int .i64 i ∧ i ≤ l.length ∧ Below w.heap.size w wr ∧ Hid (t + total (l.drop i) = z)) (fun _ x _ => l.length - (intOf x).toNat)
    case atStart => exact ⟨0, 0, rfl, rfl, by omega, Below.refl _ _, by rw [List.drop_zero, Nat.zero_add]; exact HZ.out.symm⟩
    case round =>
      obtain ⟨i, t, rfl, rfl, hi, hB, HT⟩ := hrel
      by_cases hend : i < l.length
      · obtain ⟨hc1, hc2⟩ := hc i hend
        rw [← hB.cell (p := ⟨b, off + i * 2, none⟩) hlt] at hc1
        rw [← hB.cell (p := ⟨b, off + i * 2 + 1, none⟩) hlt] at hc2
        have HN : Hid (t + (nth l i).body.size + total (l.drop (i + 1)) = z) := by
          show _ = _
          rw [← HT.out, drop_nth l i hend, total, Nat.add_assoc]
        have hle : t + (nth l i).body.size ≤ 9223372036854775807 := by have := HN.out; omega
        generalize nth l i = x at *
        clear hc HT
        go_wp2
        go_roundw
        case rel => exact ⟨i + 1, t + x.body.size, by go_num, by go_num, by omega, hB.alloc hB.size _, HN⟩
        case measure => simp [intOf]; omega
      · have HE : Hid (t = z) := by
          show _ = _
          rw [← HT.out, List.drop_eq_nil_of_le (by omega)]
          rfl
        go_wp2
        go_ret
        exact ⟨by rw [HE.out]; rfl, hB⟩

/-- the sum of the bodies' sizes, as a number of 64 bits has room for it -/
def tw (t : Int) : List Sec → Int
  | [] => t
  | x :: l => tw (wrap64 (t + x.body.size)) l

set_option maxHeartbeats 1000000 in
set_option maxRecDepth 100000 in
theorem size_any (l : List Sec) (z : Int) (hz : z = tw 0 l) : SizeIs l z := by
  intro v w hv
  have HZ : Hid (z = tw 0 l) := hz
  clear hz
  rcases hv with ⟨rfl, a, cap, rfl⟩ | ⟨b, off, cap, rfl, hl, hm, hlt, hc⟩
  · have h0 : z = 0 := HZ.out
    subst h0
    go_enter Try.func9, Try.ntmps9
    go_wp2
    go_loopw [3, 8] (fun u x wr => u = .int .i64 0 ∧ x = .int .i64 0 ∧ wr = w) (fun _ _ _ => 0)
    case atStart => exact ⟨rfl, rfl, rfl⟩
    case round =>
      obtain ⟨rfl, rfl, rfl⟩ := hrel
      go_wp2
      go_ret
      exact ⟨rfl, Below.refl _ _⟩
  · go_enter Try.func9, Try.ntmps9
    go_wp2
    go_loopw [3, 8] (fun u x wr => ∃ (i : Nat) (t : Int), u = .int .i64 t ∧ x = .int .i64 i ∧ i ≤ l.length ∧ Below w.heap.size w wr ∧ Hid (tw t (l.drop i) = z)) (fun _ x _ => l.length - (intOf x).toNat)
    case atStart => exact ⟨0, 0, rfl, rfl, by omega, Below.refl _ _, by rw [List.drop_zero]; exact HZ.out.symm⟩
    case round =>
      obtain ⟨i, t, rfl, rfl, hi, hB, HT⟩ := hrel
      by_cases hend : i < l.length
      · obtain ⟨hc1, hc2⟩ := hc i hend
        rw [← hB.cell (p := ⟨b, off + i * 2, none⟩) hlt] at hc1
        rw [← hB.cell (p := ⟨b, off + i * 2 + 1, none⟩) hlt] at hc2
        have HN : Hid (tw (wrap64 (t + (nth l i).body.size)) (l.drop (i + 1)) = z) := by
          show _ = _
          rw [← HT.out, drop_nth l i hend, tw]
        generalize nth l i = x at *
        clear hc HT
        go_wp2
        go_roundw
        case rel => exact ⟨i + 1, wrap64 (t + x.body.size), rfl, by go_num, by omega, hB.alloc hB.size _, HN⟩
        case measure => simp [intOf]; omega
      · have HE : Hid (t = z) := by
          show _ = _
          rw [← HT.out, List.drop_eq_nil_of_le (by omega)]
          rfl
        go_wp2
        go_ret
        exact ⟨by rw [HE.out]; rfl, hB⟩

def HeavyIs (l : List Sec) (r : Bool) : Prop := ∀ v w, Secs w v l → Calls Try.prog 18 #[v] w fun e w' => e = .returned (.bool r) ∧ Below w.heap.size w w'

set_option maxHeartbeats 1000000 in
set_option maxRecDepth 100000 in
theorem heavy_any (l : List Sec) (r : Bool) (hr : r = decide (8388608 < total l)) (hl47 : ∀ x ∈ l, Fits x) : HeavyIs l r := by
  intro v w hv
  have HR : Hid (r = decide (8388608 < total l)) := hr
  clear hr
  rcases hv with ⟨rfl, a, cap, rfl⟩ | ⟨b, off, cap, rfl, hl, hm, hlt, hc⟩
  · have h0 : r = false := HR.out
    subst h0
    go_enter Try.func18, Try.ntmps18
    go_wp2
    go_loopw [3, 8] (fun u x wr => u = .int .i64 8388608 ∧ x = .int .i64 0 ∧ wr = w) (fun _ _ _ => 0)
    case atStart => exact ⟨rfl, rfl, rfl⟩
    case round =>
      obtain ⟨rfl, rfl, rfl⟩ := hrel
      go_wp2
      go_ret
      exact ⟨rfl, Below.refl _ _⟩
  · go_enter Try.func18, Try.ntmps18
    go_wp2
    go_loopw [3, 8] (fun u x wr => ∃ (i q : Nat), u = .int .i64 q ∧ x = .int .i64 i ∧ i ≤ l.length ∧ q ≤ 8388608 ∧ Below w.heap.size w wr ∧ Hid (decide (q < total (l.drop i)) = r)) (fun _ x _ => l.length - (intOf x).toNat)
    case atStart => exact ⟨0, 8388608, rfl, rfl, by omega, by omega, Below.refl _ _, by rw [List.drop_zero]; exact HR.out.symm⟩
    case round =>
      obtain ⟨i, q, rfl, rfl, hi, hq, hB, HT⟩ := hrel
      by_cases hend : i < l.length
      · obtain ⟨hc1, hc2⟩ := hc i hend
        rw [← hB.cell (p := ⟨b, off + i * 2, none⟩) hlt] at hc1
        rw [← hB.cell (p := ⟨b, off + i * 2 + 1, none⟩) hlt] at hc2
        have hf := (hl47 _ (nth_mem l i hend)).2
        by_cases hbig : q < (nth l i).body.size
        · have HN : Hid (r = true) := by
            show _ = _
            rw [← HT.out, drop_nth l i hend, total, decide_eq_true_iff]
            omega
          generalize nth l i = x at *
          clear hc HT
          go_wp2
          go_ret
          exact ⟨by rw [HN.out]; rfl, hB.alloc hB.size _⟩
        · have HN : Hid (decide (q - (nth l i).body.size < total (l.drop (i + 1))) = r) := by
            show _ = _
            rw [← HT.out, drop_nth l i hend, total, decide_eq_decide]
            omega
          have hle : (nth l i).body.size ≤ q := by omega
          generalize nth l i = x at *
          clear hc HT
          go_wp2
          go_roundw
          case rel => exact ⟨i + 1, q - x.body.size, by go_num, by go_num, by omega, by omega, hB.alloc hB.size _, HN⟩
          case measure => simp [intOf]; omega
      · have HE : Hid (r = false) := by
          show _ = _
          rw [← HT.out, List.drop_eq_nil_of_le (by omega)]
          rfl
        go_wp2
        go_ret
        exact ⟨by rw [HE.out]; rfl, hB⟩

def AboveIs (l : List Sec) (n : Nat) (r : Bool) : Prop := ∀ v w, Secs w v l → Calls Try.prog 33 #[v, .int .u64 n] w fun e w' => e = .returned (.bool r) ∧ w' = w

theorem last_nth (l : List Sec) (h : 0 < l.length) : lastKind l = some (nth l (l.length - 1)).kind := by
  unfold lastKind nth
  rw [List.getLast?_eq_getElem?, List.getD_eq_getElem?_getD, List.getElem?_eq_getElem (by omega)]
  rfl

set_option maxRecDepth 100000 in
theorem above_any (l : List Sec) (n : Nat) (r : Bool) (hr : r = over (lastKind l) n) : AboveIs l n r := by
  intro v w hv
  by_cases h0 : l.length = 0
  · have hnil : l = [] := List.eq_nil_of_length_eq_zero h0
    subst hnil
    have h1 : r = true := hr
    subst h1
    obtain ⟨a, cap, rfl⟩ : ∃ a cap, v = .slice a 0 cap := by
      rcases hv with ⟨_, h⟩ | ⟨b, off, cap, h, _⟩
      · exact h
      · exact ⟨_, _, h⟩
    clear hv hr h0
    go_enter Try.func33, Try.ntmps33
    go_wp2
    go_ret
    exact ⟨rfl, rfl⟩
  · rcases hv with ⟨h, _⟩ | ⟨b, off, cap, rfl, hl, hm, hlt, hc⟩
    · subst h; simp at h0
    · obtain ⟨k, hk⟩ : ∃ k, l.length = k + 1 := ⟨l.length - 1, by omega⟩
      have hc1 := (hc k (by omega)).1
      rw [last_nth l (by omega), hk, Nat.add_sub_cancel] at hr
      have HR : Hid (r = decide ((nth l k).kind < n)) := hr
      rw [hk] at hl ⊢
      generalize (nth l k).kind = j at *
      clear hc hr h0 hk
      go_enter Try.func33, Try.ntmps33
      go_wp2
      go_ret
      exact ⟨by rw [HR.out]; simp; omega, rfl⟩
end Go.Proofs.Ytjnjjbacfodacaa.pk
