/-
  For every list of rules and any two texts the law RuleBehind of package fretsawlaw11 returns true (a text whose last bytes begin no From is rewritten by itself, and what follows as if it stood alone), and the arguments read as before. No condition.
-/
import Derived.Test.YtiphhgihdpeanaaRows
import Derived.Test.YtiphhgihdpeanaaKUk
import Derived.WalkKit
import Derived.ProofKit
import Derived.OpenShut
import Derived.ChangeOld
import Derived.SizedLaws
import Derived.ShutString
import Derived.Below
namespace Go.Proofs.Ytiphhgihdpeanaa.ruleBehind
open Go.ChangeShapes Go.WideShapes Go.ChangeAt Go.RowKit
open Go.ChangeMaps (open_string shut_string)
open ru (Ru Rus)
set_option linter.unusedVariables false

theorem own : ownKnob Try.prog.godebug = none := by kernel_rfl
theorem laidOut : laidOutB Try.prog = true := by kernel_rfl

open ru in
theorem apT_size {l : List Ru} (hg : ru.Good l) {a : ByteArray} (ha : a.size ≤ 1000) : (apT l a).size ≤ 40000 := by
  have h1 : (apT l a).size = (ap l a.data.toList).length := by unfold apT; rw [if_pos ⟨hg, by omega⟩]; simp [txt, ByteArray.size]
  have h2 := ap_grow hg a.data.toList
  rw [list_len] at h2
  have h3 := growN_le l hg.2.1 1 (by omega)
  have h4 : growN 1 l * a.size ≤ 32 * 1000 := Nat.mul_le_mul h3 ha
  omega
open ru in
set_option maxHeartbeats 2000000 in
set_option maxRecDepth 100000 in
/-- nothing is said of rules that may not be, and of long texts -/
theorem walk_out {l : List Ru} {v : Value} {w : World} (hS : Rus w v l) {a b : ByteArray} (ha : a.size ≤ 140737488351232) (hb : b.size ≤ 140737488351232) (h : ¬ (ru.Good l ∧ a.size ≤ 1000 ∧ b.size ≤ 1000)) :
    Calls Try.prog 6 #[v, .string a, .string b] w fun e w' => e = .returned (.bool true) ∧ Below w.heap.size w w' := by
  have c13 := alive_any w
  have c10 := right_any l _ rfl
  obtain ⟨av, cap, rfl, _, _⟩ := hS.form
  by_cases hg : ru.Good l
  · rw [rightE_ok hg] at c10
    by_cases h1 : a.size ≤ 1000
    · have h2 : ¬ b.size ≤ 1000 := fun h2 => h ⟨hg, h1, h2⟩
      have f1 : decide ((1000 : Int) < (a.size : Int)) = false := decide_eq_false (by omega)
      have f2 : (1000 : Int) < (b.size : Int) := by omega
      clear h h1 h2
      go_enter Try.func6, Try.ntmps6
      go_wp2_with (first | (go_at_call 13; refine c13.mono ?_; rintro e w1 ⟨rfl, b1⟩; have c10' := c10 _ _ (hS.below b1)) | (go_at_call 10; refine c10'.mono ?_; rintro e w2 ⟨rfl, b2⟩))
      go_ret
      exact ⟨rfl, chain b1 b2⟩
    · have f1 : decide ((1000 : Int) < (a.size : Int)) = true := decide_eq_true (by omega)
      have f1' : (1000 : Int) < (a.size : Int) := by omega
      clear h h1
      go_enter Try.func6, Try.ntmps6
      go_wp2_with (first | (go_at_call 13; refine c13.mono ?_; rintro e w1 ⟨rfl, b1⟩; have c10' := c10 _ _ (hS.below b1)) | (go_at_call 10; refine c10'.mono ?_; rintro e w2 ⟨rfl, b2⟩))
      go_ret
      exact ⟨rfl, chain b1 b2⟩
  · have hne : rightE l ≠ 0 := fun h => hg (rightE_zero h)
    have hq2 : ((rightE l : Int) != 0) = true := bne_iff_ne.2 (by omega)
    clear h hg
    generalize rightE l = r at *
    go_enter Try.func6, Try.ntmps6
    go_wp2_with (first | (go_at_call 13; refine c13.mono ?_; rintro e w1 ⟨rfl, b1⟩; have c10' := c10 _ _ (hS.below b1)) | (go_at_call 10; refine c10'.mono ?_; rintro e w2 ⟨rfl, b2⟩))
    go_ret
    exact ⟨rfl, chain b1 b2⟩
open ru in
set_option maxHeartbeats 4000000 in
set_option maxRecDepth 100000 in
theorem walk_in {l : List Ru} {v : Value} {w : World} (hS : Rus w v l) {a b : ByteArray} (hg : ru.Good l) (ha : a.size ≤ 1000) (hb : b.size ≤ 1000) :
    Calls Try.prog 6 #[v, .string a, .string b] w fun e w' => e = .returned (.bool true) ∧ Below w.heap.size w w' := by
  have c13 := alive_any w
  have c10 := right_any l _ rfl
  rw [rightE_ok hg] at c10
  have HEND := (show Hid (∀ n, ru.Clean l a n → (a.size < n ∨ 16 < n) → ∀ w3, Below w.heap.size w w3 → ru.Rus w3 v l ∧ ApIs l a (apT l a) 0 ∧ ApIs l b (apT l b) 0 ∧ ApIs l (a ++ b) (apT l a ++ apT l b) 0) from fun n hn hn2 w3 b3 => by
    have hab : (a ++ b).size = a.size + b.size := by rw [ByteArray.size_append]
    have e0 : ∀ s : ByteArray, s.size ≤ 2000 → apE l s = 0 := fun s hs => by unfold apE; rw [if_pos hg, if_pos (by omega)]
    refine ⟨hS.below b3, ?_, ?_, ?_⟩
    · have := ap_any l a (by omega) _ _ rfl rfl; rw [e0 a (by omega)] at this; exact this
    · have := ap_any l b (by omega) _ _ rfl rfl; rw [e0 b (by omega)] at this; exact this
    · have := ap_any l (a ++ b) (by omega) _ _ rfl rfl; rw [e0 _ (by omega), apT_append hg ha hb (clean_all hg hn hn2)] at this; exact this)
  have f1 : decide ((1000 : Int) < (a.size : Int)) = false := decide_eq_false (by omega)
  have f2 : ¬ (1000 : Int) < (b.size : Int) := by omega
  have h64 := hg.1
  obtain ⟨av, cap, rfl, hvl, hvc⟩ := hS.form
  go_enter Try.func6, Try.ntmps6
  go_wp2_with (first | (go_at_call 13; refine c13.mono ?_; rintro e w1 ⟨rfl, b1⟩; have c10' := c10 _ _ (hS.below b1)) | (go_at_call 10; refine c10'.mono ?_; rintro e w2 ⟨rfl, b2⟩; have k2 : Below w.heap.size w w2 := chain b1 b2))
  clear c13 c10
  go_loopw [7] (fun x wr => ∃ (n : Nat), x = .int .i64 n ∧ 1 ≤ n ∧ n ≤ 17 ∧ Below w.heap.size w wr ∧ Hid (ru.Clean l a n)) (fun x _ => 18 - (intOf x).toNat)
  case atStart => exact ⟨1, rfl, by omega, by omega, k2, fun k h1 h2 => by omega⟩
  case round =>
    obtain ⟨n, rfl, hn1, hn17, hB, HC⟩ := hrel
    clear c10'
    have hn0 : (n : Int) = ((n : Nat) : Int) := rfl
    by_cases hin : n ≤ a.size ∧ n ≤ 16
    · have f3 : (n : Int) ≤ min (a.size : Int) 16 := by omega
      have hwr : IntKind.i64.wrap ((a.size : Int) - (n : Int)) = ((a.size - n : Nat) : Int) := by
        rw [show ((a.size : Int) - (n : Int)) = ((a.size - n : Nat) : Int) by omega, IntKind.wrap_i64]
        omega
      have HWR := (show Hid _ from hwr)
      clear hwr hn0
      obtain ⟨wo, HWO⟩ : ∃ wo : World, Hid (wo = wr) := ⟨_, rfl⟩
      go_wp2
      go_loopw [40] (fun x wr => ∃ (i : Nat), x = .int .i64 i ∧ i ≤ l.length ∧ Below w.heap.size w wr ∧ Hid (∀ r ∈ l.take i, pre r.fr (a.extract (a.size - n) a.size) = false)) (fun x _ => l.length - (intOf x).toNat)
      case atStart => exact ⟨0, rfl, by omega, hB, fun r hr => absurd hr (by simp)⟩
      case round =>
        obtain ⟨i, rfl, hi, hB2, HI⟩ := hrel
        by_cases hend : i < l.length
        · obtain ⟨rb, roff, rcap', hre, hrl, hrm, hrlt, hr1, hr2⟩ := hS.at hend
          obtain ⟨rfl, rfl⟩ : av = some ⟨rb, roff, none⟩ ∧ cap = rcap' := by simpa using hre
          rw [← hB2.cell (p := ⟨rb, roff + i * 2, none⟩) hrlt] at hr1
          rw [← hB2.cell (p := ⟨rb, roff + i * 2 + 1, none⟩) hrlt] at hr2
          have HMEM := (show Hid (nth l i ∈ l) from nth_mem l i hend)
          have hfr := (bad_no.1 (hg.2.1 _ HMEM.out)).2.1
          have HTK := (show Hid (pre (nth l i).fr (a.extract (a.size - n) a.size) = false → ∀ r ∈ l.take (i + 1), pre r.fr (a.extract (a.size - n) a.size) = false) from fun h r hr => by
            rw [take_nth l i hend] at hr
            rcases List.mem_append.1 hr with hr | hr
            · exact HI.out r hr
            · rw [List.mem_singleton] at hr
              rw [hr]
              exact h)
          have hsx : (a.extract (a.size - n) a.size).size ≤ 140737488355328 := by rw [ByteArray.size_extract]; omega
          have c15 := pre_any (nth l i).fr (a.extract (a.size - n) a.size) (by omega) hsx _ rfl
          generalize nth l i = r at *
          obtain ⟨wA, HWA⟩ : ∃ wA, Hid (wA = wr.alloc (.cells #[.string r.fr, .string r.to] 34)) := ⟨_, rfl⟩
          have kA : Kept wA wA := Below.refl _ _
          have hBA : Below w.heap.size w wA := by rw [HWA.out]; exact hB2.alloc hB2.size _
          have hnA : wA.heap[wr.heap.size]? = some (.cells #[.string r.fr, .string r.to] 34 (0, 0)) := by rw [HWA.out]; exact heap_alloc_new wr _
          have hltA : wr.heap.size < wA.heap.size := (Array.getElem?_eq_some_iff.1 hnA).1
          have hcA : wA.cell? ⟨wr.heap.size, 0, none⟩ = some (.string r.fr) := by rw [Lib.cell_of_heap hnA]; rfl
          have hii : (i : Int) < (l.length : Int) := by omega
          have hwr := HWR.out
          have HPP := (show Hid _ from hwr)
          clear hwr HI hre hnA
          cases hpx : pre r.fr (a.extract (a.size - n) a.size)
          · rw [hpx] at c15
            have HN2 := (show Hid _ from HTK.out hpx)
            clear HTK hpx
            go_wp2
            rw [← HWA.out]
            have hwr := HPP.out
            refine wp_region_held (S := Kept wA) (by kernel_rfl) ?_
            refine df.take_op (i := 0) 44 rfl rfl (df.yields_run rfl (v := .pointer (some ⟨wr.heap.size, 0, none⟩)) (fun W h => by kernel_rfl)) (by kernel_rfl) (by kernel_rfl) (by kernel_rfl) (fun _ _ _ h => h) kA.drew ?_
            simp only [Act.put, List.setIfInBounds_toArray, List.set_cons_zero, List.set_cons_succ]
            refine df.take_op (i := 1) 45 rfl rfl (df.yields_run rfl (v := .string r.fr) (fun W h => x_load9 (x := .tmp 44) rfl rfl (by rw [Below.cell h hltA]; exact hcA))) (by kernel_rfl) (by kernel_rfl) (by kernel_rfl) (fun _ _ _ h => h) kA.drew ?_
            simp only [Act.put, List.setIfInBounds_toArray, List.set_cons_zero, List.set_cons_succ]
            refine df.take_op (i := 2) 46 rfl rfl (df.yields_move rfl (.tmp 1) rfl) (by kernel_rfl) (by kernel_rfl) (by kernel_rfl) (fun _ _ _ h => h) kA.drew ?_
            simp only [Act.put, List.setIfInBounds_toArray, List.set_cons_zero, List.set_cons_succ]
            refine df.take_op (i := 3) 47 rfl rfl (df.yields_move rfl (.tmp 1) rfl) (by kernel_rfl) (by kernel_rfl) (by kernel_rfl) (fun _ _ _ h => h) kA.drew ?_
            simp only [Act.put, List.setIfInBounds_toArray, List.set_cons_zero, List.set_cons_succ]
            refine df.take_op (i := 4) 48 rfl rfl (df.yields_run rfl (v := .int .i64 (a.size : Int)) (fun W h => by kernel_rfl)) (by kernel_rfl) (by kernel_rfl) (by kernel_rfl) (fun _ _ _ h => h) kA.drew ?_
            simp only [Act.put, List.setIfInBounds_toArray, List.set_cons_zero, List.set_cons_succ]
            refine df.take_op (i := 5) 49 rfl rfl (df.yields_move rfl (.tmp 7) rfl) (by kernel_rfl) (by kernel_rfl) (by kernel_rfl) (fun _ _ _ h => h) kA.drew ?_
            simp only [Act.put, List.setIfInBounds_toArray, List.set_cons_zero, List.set_cons_succ]
            refine df.take_op (i := 6) 50 rfl rfl (df.yields_run rfl (v := .int .i64 (IntKind.i64.wrap ((a.size : Int) - (n : Int)))) (fun W h => by kernel_rfl)) (by kernel_rfl) (by kernel_rfl) (by kernel_rfl) (fun _ _ _ h => h) kA.drew ?_
            rw [hwr]
            simp only [Act.put, List.setIfInBounds_toArray, List.set_cons_zero, List.set_cons_succ]
            refine df.take_op (i := 7) 51 rfl rfl (df.yields_run rfl (v := .string (a.extract (a.size - n) a.size)) (fun W h => x_slice9f (x := .tmp 46) (y := .tmp 50) rfl rfl rfl (by omega))) (by kernel_rfl) (by kernel_rfl) (by kernel_rfl) (fun _ _ _ h => h) kA.drew ?_
            simp only [Act.put, List.setIfInBounds_toArray, List.set_cons_zero, List.set_cons_succ]
            refine df.call_op 8 52 (f := 15) (args := #[.string r.fr, .string (a.extract (a.size - n) a.size)]) (by kernel_rfl) rfl rfl rfl (by kernel_rfl) ((c15 _).mono ?_)
            rintro e w5 ⟨rfl, rfl⟩
            refine ⟨_, rfl, kA.drew, ?_⟩
            simp only [Act.put, List.setIfInBounds_toArray, List.set_cons_zero, List.set_cons_succ]
            refine df.done_op (by kernel_rfl) ?_
            clear hwr
            go_wp2
            go_roundw
            case rel => exact ⟨i + 1, by go_num, by omega, hBA.drew, HN2⟩
            case measure => simp [intOf]; omega
          · rw [hpx] at c15
            clear HTK hpx
            go_wp2
            rw [← HWA.out]
            have hwr := HPP.out
            refine wp_region_held (S := Kept wA) (by kernel_rfl) ?_
            refine df.take_op (i := 0) 44 rfl rfl (df.yields_run rfl (v := .pointer (some ⟨wr.heap.size, 0, none⟩)) (fun W h => by kernel_rfl)) (by kernel_rfl) (by kernel_rfl) (by kernel_rfl) (fun _ _ _ h => h) kA.drew ?_
            simp only [Act.put, List.setIfInBounds_toArray, List.set_cons_zero, List.set_cons_succ]
            refine df.take_op (i := 1) 45 rfl rfl (df.yields_run rfl (v := .string r.fr) (fun W h => x_load9 (x := .tmp 44) rfl rfl (by rw [Below.cell h hltA]; exact hcA))) (by kernel_rfl) (by kernel_rfl) (by kernel_rfl) (fun _ _ _ h => h) kA.drew ?_
            simp only [Act.put, List.setIfInBounds_toArray, List.set_cons_zero, List.set_cons_succ]
            refine df.take_op (i := 2) 46 rfl rfl (df.yields_move rfl (.tmp 1) rfl) (by kernel_rfl) (by kernel_rfl) (by kernel_rfl) (fun _ _ _ h => h) kA.drew ?_
            simp only [Act.put, List.setIfInBounds_toArray, List.set_cons_zero, List.set_cons_succ]
            refine df.take_op (i := 3) 47 rfl rfl (df.yields_move rfl (.tmp 1) rfl) (by kernel_rfl) (by kernel_rfl) (by kernel_rfl) (fun _ _ _ h => h) kA.drew ?_
            simp only [Act.put, List.setIfInBounds_toArray, List.set_cons_zero, List.set_cons_succ]
            refine df.take_op (i := 4) 48 rfl rfl (df.yields_run rfl (v := .int .i64 (a.size : Int)) (fun W h => by kernel_rfl)) (by kernel_rfl) (by kernel_rfl) (by kernel_rfl) (fun _ _ _ h => h) kA.drew ?_
            simp only [Act.put, List.setIfInBounds_toArray, List.set_cons_zero, List.set_cons_succ]
            refine df.take_op (i := 5) 49 rfl rfl (df.yields_move rfl (.tmp 7) rfl) (by kernel_rfl) (by kernel_rfl) (by kernel_rfl) (fun _ _ _ h => h) kA.drew ?_
            simp only [Act.put, List.setIfInBounds_toArray, List.set_cons_zero, List.set_cons_succ]
            refine df.take_op (i := 6) 50 rfl rfl (df.yields_run rfl (v := .int .i64 (IntKind.i64.wrap ((a.size : Int) - (n : Int)))) (fun W h => by kernel_rfl)) (by kernel_rfl) (by kernel_rfl) (by kernel_rfl) (fun _ _ _ h => h) kA.drew ?_
            rw [hwr]
            simp only [Act.put, List.setIfInBounds_toArray, List.set_cons_zero, List.set_cons_succ]
            refine df.take_op (i := 7) 51 rfl rfl (df.yields_run rfl (v := .string (a.extract (a.size - n) a.size)) (fun W h => x_slice9f (x := .tmp 46) (y := .tmp 50) rfl rfl rfl (by omega))) (by kernel_rfl) (by kernel_rfl) (by kernel_rfl) (fun _ _ _ h => h) kA.drew ?_
            simp only [Act.put, List.setIfInBounds_toArray, List.set_cons_zero, List.set_cons_succ]
            refine df.call_op 8 52 (f := 15) (args := #[.string r.fr, .string (a.extract (a.size - n) a.size)]) (by kernel_rfl) rfl rfl rfl (by kernel_rfl) ((c15 _).mono ?_)
            rintro e w5 ⟨rfl, rfl⟩
            refine ⟨_, rfl, kA.drew, ?_⟩
            simp only [Act.put, List.setIfInBounds_toArray, List.set_cons_zero, List.set_cons_succ]
            refine df.done_op (by kernel_rfl) ?_
            clear hwr
            go_wp2
            go_ret
            exact ⟨rfl, hBA.drew⟩
        · have HN2 := (show Hid (ru.Clean l a (n + 1)) from fun k h1 h2 h3 r hr => by
            by_cases e : k = n
            · subst e
              have := HI.out
              rw [List.take_of_length_le (by omega)] at this
              exact this r hr
            · exact HC.out k h1 (by omega) h3 r hr)
          clear HI HC
          go_wp2
          go_roundw
          case rel => exact ⟨n + 1, by go_num, by omega, by omega, hB2, HN2⟩
          case measure => simp [intOf]; omega
    · have f3 : ¬ (n : Int) ≤ min (a.size : Int) 16 := by omega
      obtain ⟨hr3, cA, cB, cC⟩ := HEND.out n HC.out (by omega) wr hB
      have hu : ((apT l a ++ apT l b).toList == (apT l a ++ apT l b).toList) = true := by simp
      have hta : (apT l a).size ≤ 40000 := apT_size hg (by omega)
      have htb : (apT l b).size ≤ 40000 := apT_size hg (by omega)
      clear HC HEND hn0
      unfold ApIs at cA cB cC
      generalize apT l a = ta at *
      generalize apT l b = tb at *
      go_wp2_with (first | (go_at_call 7; with_reducible refine (cA _ _ hr3).mono ?_; rintro e w4 ⟨rfl, b4⟩; have hr4 := hr3.below b4; clear cA) | (go_at_call 7; with_reducible refine (cB _ _ hr4).mono ?_; rintro e w5 ⟨rfl, b5⟩; have hr5 := hr4.below b5; clear cB) | (go_at_call 7; with_reducible refine (cC _ _ hr5).mono ?_; rintro e w6 ⟨rfl, b6⟩; clear cC))
      go_ret
      exact ⟨rfl, chain (chain (chain hB b4) b5) b6⟩
open ru in
theorem walk {l : List Ru} {v : Value} {w : World} (hS : Rus w v l) {a : ByteArray} (ha : a.size ≤ 140737488351232) {b : ByteArray} (hb : b.size ≤ 140737488351232) (w0 : World) (hw0 : w0 = w := by rfl) :
    Calls Try.prog 6 #[v, .string a, .string b] w0 fun e w' => e = .returned (.bool true) ∧ Below w0.heap.size w0 w' := by
  subst hw0
  by_cases h : ru.Good l ∧ a.size ≤ 1000 ∧ b.size ≤ 1000
  · exact walk_in hS h.1 h.2.1 h.2.2
  · exact walk_out hS ha hb h

set_option maxRecDepth 100000 in
theorem lifted (os : Os) (started : os.Started) (H : Type) (enc : TypeId × Value → H) :
    ReturnsInHanded {} Try.checked os 6 .any (Rows.ruleBehindSpec.pre6 enc Try.prog Try.f6 Rows.ruleBehindRow.domain false) (Rows.ruleBehindSpec.post enc Try.prog Try.f6 false true false false) := by
  refine returnsInHanded_of_change_sized (C := Try.checked) own started (by kernel_rfl) Try.func6
    (ChangeSpec.witness6 (enc := enc) (C := Try.checked) false ⟨#[], #[.slice none 0 0, .string ByteArray.empty, .string ByteArray.empty], []⟩ 8 (by kernel_rfl) (by kernel_rfl) (by kernel_rfl) (by kernel_rfl)) ?_
  intro W base args ds gs before hval0 hW hcnd hsz0 _
  have hsz : (DataW.weightsEach Try.prog (Try.f6.params.toList ++ Rows.ruleBehindSpec.plain.varTypes Try.prog) (ds ++ gs)).all (· ≤ reachBytes) = true := hsz0
  have hval : ∀ (j : Nat) t v, Try.f6.params[j]? = some t → args[j]? = some v → Value.okWide Try.prog W .any base t v := hval0
  have hW' := hW
  obtain ⟨p, q, hA0, hV, rfl, hfz, hnd⟩ := hW
  have hA : DataW.TrodAll enc Try.prog W 0 (fun _ => true) true Try.f6.params.toList args.toList ds p := hA0
  rw [Try.params6] at hA hval hsz
  obtain ⟨v0, vs0, d0, ds0, p0, q0, hargs, rfl, rfl, h0, r0⟩ := trodAll_cons hA
  obtain ⟨v1, vs1, d1, ds1, p1, q1, rfl, rfl, rfl, h1, r1⟩ := trodAll_cons r0
  obtain ⟨v2, vs2, d2, ds2, p2, q2, rfl, rfl, rfl, h2, r2⟩ := trodAll_cons r1
  obtain ⟨rfl, rfl, rfl⟩ := trodAll_nil r2
  obtain rfl : args = #[v0, v1, v2] := by cases args; simp_all
  obtain ⟨rfl, rfl⟩ := trodVars_none hV
  have k0 := h0
  have lt0 : ∀ x ∈ p0, x.block < W.heap.size := by obtain ⟨m, hm⟩ := k0; exact DataW.trod_lt m _ _ _ hm
  obtain ⟨l0, F0⟩ := ru.open22 (hval 0 22 v0 rfl rfl) h0
  obtain ⟨a1, rfl, rfl, rfl, w1⟩ := open_string Try.underlying9 (hval 1 9 v1 rfl rfl) h1
  have F1 : a1.size ≤ 140737488351232 := by
    have := sized_string hsz (j := 1) (t := 9) rfl rfl
    simpa [reachBytes] using this
  obtain ⟨a2, rfl, rfl, rfl, w2⟩ := open_string Try.underlying9 (hval 2 9 v2 rfl rfl) h2
  have F2 : a2.size ≤ 140737488351232 := by
    have := sized_string hsz (j := 2) (t := 9) rfl rfl
    simpa [reachBytes] using this
  clear hA0 hval0
  refine (walk F0 F1 F2 W).mono fun e W' ⟨he, bel⟩ => ?_
  subst he
  exact ⟨_, rfl, _, _, _, [], _, [], hW', trodAll_mk1 (shut_bool Try.underlying4 _), (trodAll_cons_mk (Below.trod laidOut (by kernel_rfl) (of_decide_eq_true (by kernel_rfl)) k0 bel lt0) (trodAll_cons_mk (shut_string Try.underlying9 w1) (trodAll_cons_mk (shut_string Try.underlying9 w2) trodAll_mk0))), rfl, bel.frame _, fun h => by cases h⟩

theorem over : Rows.ruleBehindRow.holds Try.pinned (OpenSpec.ofChange Rows.ruleBehindSpec) :=
  OpenClaim.holds_of_wide 6 Try.f6 rfl rfl rfl rfl rfl rfl rfl ⟨rfl, rfl, rfl, rfl, rfl⟩ rfl rfl rfl rfl rfl (by kernel_rfl) Try.func6 (by kernel_rfl)
    (of_decide_eq_true (by kernel_rfl)) (by unfold Func.isWrapper; first | (rw [if_pos (by decide +kernel)]; kernel_rfl) | (rw [if_neg (by decide +kernel)]; exact ⟨rfl, rfl⟩))
    (fun os started H enc _ => lifted os started H enc)

theorem proved : Rows.RuleBehindSaid :=
  over
#print axioms proved
end Go.Proofs.Ytiphhgihdpeanaa.ruleBehind
