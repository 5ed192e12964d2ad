/-
  Contracts over this program: the document's Longest of a trie.
-/
import Derived.Test.YtbappfbojehkeaaYg
namespace Go.Proofs.Ytbappfbojehkeaa.ti
open Go.ChangeShapes Go.WideShapes Go.ChangeAt Go.RowKit Go.Sort
set_option linter.unusedVariables false

def lngOf (t : Tr) (s : ByteArray) (at' : Int) : Int × Int := if right t = true ∧ 0 ≤ at' ∧ at' ≤ (s.size : Int) then lng t (byte (s.extract at'.toNat s.size)) at'.toNat (s.size - at'.toNat + 1) else (-1, -1)
theorem num_extract (t : Tr) (s : ByteArray) (a k : Nat) (h : a + k ≤ s.size) : num t (byte (s.extract a (a + k))) (s.extract a (a + k)).size 0 0 = num t (byte (s.extract a s.size)) k 0 0 := by
  have e : (s.extract a (a + k)).size = k := by rw [ByteArray.size_extract]; omega
  rw [e]
  refine num_ext t _ _ k 0 0 fun i _ hi => ?_
  rw [byte_extract s a (a + k) i (by omega) (by omega), byte_extract s a s.size i (by omega) (Nat.le_refl _)]
set_option maxHeartbeats 2000000 in
theorem rlongest_no (t : Tr) (s : ByteArray) (hs : s.size ≤ 1000000) (at' : Int) (hbad : ¬ (right t = true ∧ 0 ≤ at' ∧ at' ≤ (s.size : Int))) (p : Tp) (w : World) (hA : TAt (In w) w t p) :
    Calls Try.prog 10 #[.agg (tv t p), .string s, .int .i64 at'] w fun e w' => e = .returned (.tuple #[.int .i64 (-1), .int .i64 (-1)]) ∧ Below w.heap.size w w' := by
  have B0 := below_alloc w (.cells (tv t p) 24)
  have b0 := box_new w t p
  have hc := rright_any t p _ (hA.later B0)
  cases hr : right t with
  | false =>
    rw [hr] at hc
    clear hbad
    go_enter Try.func10, Try.ntmps10
    go_wp2_with (go_at_call 7; refine hc.mono ?_; rintro e w1 ⟨rfl, b1⟩)
    go_ret2
    exact ⟨rfl, chain B0 b1⟩
  | true =>
    rw [hr] at hc
    by_cases h1 : at' < 0
    · clear hbad
      go_enter Try.func10, Try.ntmps10
      go_wp2_with (go_at_call 7; refine hc.mono ?_; rintro e w1 ⟨rfl, b1⟩)
      go_ret2
      exact ⟨rfl, chain B0 b1⟩
    · have h2 : (s.size : Int) < at' := by
        rcases Int.lt_or_le (s.size : Int) at' with h | h
        · exact h
        · exact absurd ⟨hr, by omega, h⟩ hbad
      clear hbad
      go_enter Try.func10, Try.ntmps10
      go_wp2_with (go_at_call 7; refine hc.mono ?_; rintro e w1 ⟨rfl, b1⟩)
      go_ret2
      exact ⟨rfl, chain B0 b1⟩
set_option maxRecDepth 100000 in
set_option maxHeartbeats 4000000 in
theorem rlongest_yes (t : Tr) (hr : right t = true) (s : ByteArray) (hs : s.size ≤ 1000000) (at' : Nat) (hat : at' ≤ s.size) (r : Int × Int) (hrr : lng t (byte (s.extract at' s.size)) at' (s.size - at' + 1) = r) (p : Tp) (w : World) (hA : TAt (In w) w t p) :
    Calls Try.prog 10 #[.agg (tv t p), .string s, .int .i64 (at' : Int)] w fun e w' => e = .returned (.tuple #[.int .i64 r.1, .int .i64 r.2]) ∧ Below w.heap.size w w' := by
  have B0 := below_alloc w (.cells (tv t p) 24)
  have b0 := box_new w t p
  have hc := rright_any t p _ (hA.later B0)
  rw [hr] at hc
  have HAX : Hid (∀ W, Below (w.alloc (.cells (tv t p) 24)).heap.size (w.alloc (.cells (tv t p) 24)) W → Box W w.heap.size t p ∧ TAt (In W) W t p ∧ Below w.heap.size w W) := fun W b => ⟨b0.later b, (hA.later B0).later b, chain B0 b⟩
  obtain ⟨wA, hwA⟩ : ∃ wA, wA = w.alloc (.cells (tv t p) 24) := ⟨_, rfl⟩
  rw [← hwA] at B0 b0 hc HAX
  have HC : Hid (∀ k, at' + k ≤ s.size → ∀ n, num t (byte (s.extract at' s.size)) k 0 0 = n → ∀ w, TAt (In w) w t p → Calls Try.prog 12 #[.agg (tv t p), .string (s.extract at' (at' + k))] w fun e w' => e = .returned (.int .i64 n) ∧ Below w.heap.size w w') := fun k hk n hn w hw =>
    number_any t hr _ (by rw [ByteArray.size_extract]; omega) n (by rw [num_extract t s at' k hk]; exact hn) p w hw
  have HRR : Hid (lng t (byte (s.extract at' s.size)) at' (s.size - at' + 1) = r) := hrr
  clear hA hrr
  go_enter Try.func10, Try.ntmps10
  go_wp2_with (go_at_call 7; rw [← hwA]; refine hc.mono ?_; rintro e w1 ⟨rfl, b1⟩)
  clear hwA
  go_loopw [8] (fun y wr => ∃ j : Nat, y = .int .i64 ((at' : Int) + j - 1) ∧ at' + j ≤ s.size + 1 ∧ Hid (lng t (byte (s.extract at' s.size)) at' j = r) ∧ Below wA.heap.size wA wr) (fun y _ => (intOf y + 1).toNat)
  case atStart => exact ⟨s.size - at' + 1, by congr 1; omega, by omega, HRR, b1⟩
  case round =>
    obtain ⟨j, rfl, hj, HE, hB⟩ := hrel
    cases j with
    | zero =>
      have e1 : r = (-1, -1) := HE.out.symm
      subst e1
      clear HE HC
      go_wp2_with (fail)
      go_ret2
      exact ⟨rfl, (HAX.out _ hB).2.2⟩
    | succ k =>
      obtain ⟨n, hn⟩ : ∃ n, num t (byte (s.extract at' s.size)) k 0 0 = n := ⟨_, rfl⟩
      have HE2 : Hid (r = if 0 ≤ n then (n, ((at' + k : Nat) : Int)) else lng t (byte (s.extract at' s.size)) at' k) := by show _ = _; rw [← HE.out, lng, hn]
      obtain ⟨X1, A1, _⟩ := HAX.out _ hB
      have c12 := HC.out k (by omega) n hn
      have z0 := cell_regrown X1.c0
      have z1 := cell_regrown X1.c1
      have z2 := cell_regrown X1.c2
      have g12 : ∀ d os, Calls Try.prog 12 #[.agg (tv t p), .string (s.extract at' (at' + k))] (grow (redrawn wr d) os) fun e w'' => e = .returned (.int .i64 n) ∧ ∃ p : Regrown, w'' = grow (redrawn wr p.d) p.os := fun d os => Calls.regrown_of (c12 _ (A1.later (below_regrown wr d os)))
      have HN : Hid (num t (byte (s.extract at' s.size)) k 0 0 = n) := hn
      clear HE hn c12 X1 A1
      have e3 : ((at' : Int) + ((k + 1 : Nat) : Int) - 1) = ((at' + k : Nat) : Int) := by omega
      rw [e3]
      clear e3
      obtain ⟨q2, hq2⟩ : ∃ q2, q2 = at' + k := ⟨_, rfl⟩
      have hqa : at' ≤ q2 := by omega
      have hqb : q2 ≤ s.size := by omega
      rw [← hq2] at g12 HE2 ⊢
      have HQ2 : Hid (q2 = at' + k) := hq2
      clear hq2
      go_wp2_with (fail)
      refine wp_region_quiet_below (by kernel_rfl) (by kernel_rfl) ?_
      repeat (go_big_quiet_step (with_reducible exact g12 _ _))
      refine wpQuiet_nil ?_
      intro _ hw'
      obtain ⟨⟨dq, osq⟩, hw''⟩ := hw'
      subst hw''
      have b3 := below_regrown wr dq osq
      clear z0 z1 z2 g12
      generalize grow (redrawn wr dq) osq = w5 at *
      have hB5 := chain hB b3
      by_cases hn0 : 0 ≤ n
      · have e1 : r = (n, (q2 : Int)) := by rw [HE2.out, if_pos hn0]
        subst e1
        clear HE2
        go_wp2_with (fail)
        go_ret2
        exact ⟨rfl, (HAX.out _ hB5).2.2⟩
      · have HE3 : Hid (lng t (byte (s.extract at' s.size)) at' k = r) := by show _ = _; rw [HE2.out, if_neg hn0]
        clear HE2
        go_wp2_with (fail)
        go_roundw
        case rel => exact ⟨k, by have := HQ2.out; congr 1; omega, by omega, HE3, hB5⟩
        case measure => have := HQ2.out; simp [intOf] <;> omega
theorem rlongest_any (t : Tr) (s : ByteArray) (hs : s.size ≤ 1000000) (at' : Int) (r : Int × Int) (hrr : r = lngOf t s at') (p : Tp) (w : World) (hA : TAt (In w) w t p) :
    Calls Try.prog 10 #[.agg (tv t p), .string s, .int .i64 at'] w fun e w' => e = .returned (.tuple #[.int .i64 r.1, .int .i64 r.2]) ∧ Below w.heap.size w w' := by
  unfold lngOf at hrr
  by_cases h : right t = true ∧ 0 ≤ at' ∧ at' ≤ (s.size : Int)
  · rw [if_pos h] at hrr
    obtain ⟨k, rfl⟩ : ∃ k : Nat, at' = (k : Int) := ⟨at'.toNat, by omega⟩
    exact rlongest_yes t h.1 s hs k (by omega) r (by rw [hrr, Int.toNat_natCast]) p w hA
  · rw [if_neg h] at hrr
    subst hrr
    exact rlongest_no t s hs at' h p w hA
end Go.Proofs.Ytbappfbojehkeaa.ti
