/-
  For every list of merges and every list of ids the law MergeApplies of package fretsawlaw13 returns true (any ids are merged by any merges to just those, or refused, as the document says), and the arguments read as before
-/
import Derived.Test.YtciphckjjbinbaaMn
import Derived.ProofKit
import Derived.ShutString
namespace Go.Proofs.Ytciphckjjbinbaa.mergeApplies
open Go.ChangeShapes Go.WideShapes Go.ChangeAt Go.RowKit
open Go.ChangeMaps (open_string shut_string)
open mg
set_option linter.unusedVariables false

theorem own : ownKnob Try.prog.godebug = none := by kernel_rfl
theorem laidOut : laidOutB Try.prog = true := by kernel_rfl

theorem apply_is (l : List Mg) (ids : List Int) (x : Nat) (y : List Int) (hx : applyE l ids = x) (hy : applyL l ids = y) (v vs : Value) (w : World) (hv : Mgs w v l) (hs : IntsV w vs ids) : Calls Try.prog 12 #[v, vs] w fun e w' => ∃ (o : Option Addr) (cap : Nat), e = .returned (.tuple #[.slice o y.length cap, .int .i64 (x : Int)]) ∧ Hid (IntsV w' (.slice o y.length cap) y) ∧ Below w.heap.size w w' := by
  refine (apply_any l ids v vs w hv hs).mono ?_
  rintro e w' ⟨v', rfl, h, b⟩
  rw [hx]
  rw [hy] at h
  obtain ⟨o, cap, rfl, h2⟩ := id h
  exact ⟨o, cap, rfl, h, b⟩
theorem texts_is (l : List Mg) (x : Nat) (hx : errOf l = x) (v : Value) (w : World) (hv : Mgs w v l) : Calls Try.prog 9 #[v] w fun e w' => ∃ v', e = .returned (.tuple #[v', .int .i64 (x : Int)]) ∧ Below w.heap.size w w' := by
  refine (rtexts_any l v w hv).mono ?_
  rintro e w' ⟨v', rfl, h, b⟩
  rw [hx]
  exact ⟨v', rfl, b⟩
theorem applyL_bad {l : List Mg} {ids : List Int} (h : applyE l ids ≠ 0) : applyL l ids = [] := by unfold applyL; rw [if_neg h]
theorem applyL_ok {l : List Mg} {ids : List Int} (h : applyE l ids = 0) : applyL l ids = app l ids := by unfold applyL; rw [if_pos h]

set_option maxHeartbeats 800000 in
set_option maxRecDepth 100000 in
theorem err_a {l : List Mg} {ids is : List Int} {n : Nat} {o' : Option Addr} {cap' : Nat} {v : Value} {w : World} (hM : Mgs w v l) (hs : IntsV w (.slice o' ids.length cap') ids) (f3 : ids.length ≤ cap') (f4 : cap' ≤ 9223372036854775807) (hn : n = is.length) (hi : IntsV w (.slice o' n cap') is) (hcut : ids.length ≤ 60 ∧ n = ids.length) (x : Nat) (hx : errOf l = x) (hE : applyE l is = x) (h0 : x ≠ 0) :
    Calls Try.prog 4 #[v, .slice o' ids.length cap'] w fun e w' => e = .returned (.bool true) ∧ Below w.heap.size w w' := by
  have c12 := apply_is l is x [] hE (applyL_bad (by rw [hE]; exact h0)) v (.slice o' n cap') w hM hi
  have HR : Hid (∀ W, Below w.heap.size w W → Calls Try.prog 9 #[v] W fun e w' => ∃ v', e = .returned (.tuple #[v', .int .i64 (x : Int)]) ∧ Below W.heap.size W w') := fun W b => texts_is l x hx v W (hM.later b)
  obtain ⟨o, cap, rfl, _, _, _⟩ := hM.form
  obtain ⟨g60, hn60⟩ := hcut
  subst hn60
  have HN : Hid (ids.length = is.length) := hn
  clear hn
  have g1 : ((x : Int) == 0) = false := beq_eq_false_iff_ne.2 (by omega)
  have g2 : ((x : Int) != 0) = true := by rw [bne, g1]; rfl
  have g3 : ((x : Int) == (x : Int)) = true := beq_self_eq_true _
  clear hM hs hi hE hx h0
  go_enter Try.func4, Try.ntmps4
  go_wp2_with (first | (go_at_call 12; refine c12.mono ?_; rintro e w1 ⟨oo, co, rfl, HS1, b1⟩; have c9 := HR.out w1 b1; clear c12) | (go_at_call 9; refine c9.mono ?_; rintro e w2 ⟨v2, rfl, b2⟩; clear c9))
  go_ret
  exact ⟨rfl, chain b1 b2⟩
set_option maxHeartbeats 800000 in
set_option maxRecDepth 100000 in
theorem all_a {l : List Mg} {ids is : List Int} {n : Nat} {o' : Option Addr} {cap' : Nat} {v : Value} {w : World} (hM : Mgs w v l) (hs : IntsV w (.slice o' ids.length cap') ids) (f3 : ids.length ≤ cap') (f4 : cap' ≤ 9223372036854775807) (hn : n = is.length) (hi : IntsV w (.slice o' n cap') is) (hcut : ids.length ≤ 60 ∧ n = ids.length) (hx : errOf l = 0) (hE : applyE l is = 0) (hall : AllIn (256 + l.length) is) (hsh : is.length ≤ 60) :
    Calls Try.prog 4 #[v, .slice o' ids.length cap'] w fun e w' => e = .returned (.bool true) ∧ Below w.heap.size w w' := by
  have c12 := apply_is l is 0 (app l is) hE (applyL_ok hE) v (.slice o' n cap') w hM hi
  have HR : Hid (∀ W, Below w.heap.size w W → Calls Try.prog 9 #[v] W fun e w' => ∃ v', e = .returned (.tuple #[v', .int .i64 ((0 : Nat) : Int)]) ∧ Below W.heap.size W w') := fun W b => texts_is l 0 hx v W (hM.later b)
  have hl4 := (ok_run hx).1
  have HA : Hid (∀ W, Below w.heap.size w W → Calls Try.prog 14 #[v, .slice o' n cap'] W (MergedOut l is W)) := fun W b => rapply_any l hl4 is (by omega) v _ W (hM.later b) (hi.later b)
  obtain ⟨o, cap, rfl, f1, f2, _⟩ := hM.form
  obtain ⟨g60, hn60⟩ := hcut
  subst hn60
  have HN : Hid (ids.length = is.length) := hn
  clear hn
  obtain ⟨oo', cc', ee, hrow⟩ := id hi
  obtain ⟨rfl, hq, rfl⟩ : o' = oo' ∧ ids.length = is.length ∧ cap' = cc' := by simpa using ee
  have HROW : Hid (Row (In w) w iv o' cap' is) := hrow
  have HALLIN : Hid (AllIn (256 + l.length) is) := hall
  clear hM hs hi hE hx hrow ee hall hq
  go_enter Try.func4, Try.ntmps4
  go_wp2_with (first | (go_at_call 12; refine c12.mono ?_; rintro e w1 ⟨oo, co, rfl, HS1, b1⟩; have c9 := HR.out w1 b1; clear c12) | (go_at_call 9; refine c9.mono ?_; rintro e w2 ⟨v2, rfl, b2⟩; clear c9))
  go_loopw [54] (fun y wr => ∃ i : Nat, y = .int .i64 i ∧ i ≤ ids.length ∧ Hid (∀ x ∈ is.take i, InR x (256 + l.length)) ∧ wr = w2) (fun y _ => ids.length - (intOf y).toNat)
  case atStart => exact ⟨0, rfl, by omega, fun x hx => by simp at hx, rfl⟩
  case round =>
    obtain ⟨i, rfl, hi, HI, rfl⟩ := hrel
    by_cases hend : i < ids.length
    · obtain ⟨b, off, rfl, hb, hc⟩ := HROW.out.lie i (by have := HN.out; omega)
      have k1 := ((chain b1 b2).cell (p := ⟨b, off + i, none⟩) hb).trans hc
      have HX : Hid (InR (is[i]'(by have := HN.out; omega)) (256 + l.length) → ∀ x ∈ is.take (i + 1), InR x (256 + l.length)) := fun h x hx => by
        rw [List.take_add_one, List.getElem?_eq_getElem (by have := HN.out; omega)] at hx
        rcases List.mem_append.1 hx with h3 | h3
        · exact HI.out x h3
        · simp at h3; rw [h3]; exact h
      have hin := HALLIN.out (is[i]'(by have := HN.out; omega)) (List.getElem_mem _)
      generalize is[i]'(by have := HN.out; omega) = x at *
      clear hc
      have HX2 := (show Hid _ from HX.out hin)
      have g1 : ¬ x < 0 := by unfold InR at hin; omega
      have g2 : ¬ 255 + (l.length : Int) < x := by unfold InR at hin; omega
      clear hin HX HI
      go_wp2_with (fail)
      go_roundw
      case rel => exact ⟨i + 1, by go_num, by omega, HX2.out, trivial⟩
      case measure => simp [intOf]; omega
    · have c14 := HA.out wr (chain b1 b2)
      have HS2 : Hid (IntsV wr (.slice oo (app l is).length co) (app l is)) := HS1.out.later b2
      clear HI HA HR HS1
      go_wp2_with (first | (go_at_call 14; refine c14.mono ?_; rintro e w4 ⟨v4, rfl, s4, b4⟩; have c13 := ints_same (app l is) _ _ w4 (HS2.out.later b4) s4; clear c14) | (go_at_call 13; refine c13.mono ?_; rintro e w5 ⟨rfl, b5⟩))
      go_ret
      exact ⟨rfl, chain (chain b1 b2) (chain b4 b5)⟩
set_option maxHeartbeats 800000 in
set_option maxRecDepth 100000 in
theorem not_a {l : List Mg} {ids is : List Int} {n : Nat} {o' : Option Addr} {cap' : Nat} {v : Value} {w : World} (hM : Mgs w v l) (hs : IntsV w (.slice o' ids.length cap') ids) (f3 : ids.length ≤ cap') (f4 : cap' ≤ 9223372036854775807) (hn : n = is.length) (hi : IntsV w (.slice o' n cap') is) (hcut : ids.length ≤ 60 ∧ n = ids.length) (hx : errOf l = 0) (hE : applyE l is = 1) (hall : ¬ AllIn (256 + l.length) is) :
    Calls Try.prog 4 #[v, .slice o' ids.length cap'] w fun e w' => e = .returned (.bool true) ∧ Below w.heap.size w w' := by
  have c12 := apply_is l is 1 [] hE (applyL_bad (by rw [hE]; omega)) v (.slice o' n cap') w hM hi
  have HR : Hid (∀ W, Below w.heap.size w W → Calls Try.prog 9 #[v] W fun e w' => ∃ v', e = .returned (.tuple #[v', .int .i64 ((0 : Nat) : Int)]) ∧ Below W.heap.size W w') := fun W b => texts_is l 0 hx v W (hM.later b)
  have hl4 := (ok_run hx).1
  obtain ⟨o, cap, rfl, f1, f2, _⟩ := hM.form
  obtain ⟨g60, hn60⟩ := hcut
  subst hn60
  have HN : Hid (ids.length = is.length) := hn
  clear hn
  obtain ⟨oo', cc', ee, hrow⟩ := id hi
  obtain ⟨rfl, hq, rfl⟩ : o' = oo' ∧ ids.length = is.length ∧ cap' = cc' := by simpa using ee
  have HROW : Hid (Row (In w) w iv o' cap' is) := hrow
  have HNOT : Hid (¬ AllIn (256 + l.length) is) := hall
  clear hM hs hi hE hx hrow ee hall hq
  go_enter Try.func4, Try.ntmps4
  go_wp2_with (first | (go_at_call 12; refine c12.mono ?_; rintro e w1 ⟨oo, co, rfl, HS1, b1⟩; have c9 := HR.out w1 b1; clear c12) | (go_at_call 9; refine c9.mono ?_; rintro e w2 ⟨v2, rfl, b2⟩; clear c9))
  go_loopw [54] (fun y wr => ∃ i : Nat, y = .int .i64 i ∧ i ≤ ids.length ∧ Hid (∀ x ∈ is.take i, InR x (256 + l.length)) ∧ wr = w2) (fun y _ => ids.length - (intOf y).toNat)
  case atStart => exact ⟨0, rfl, by omega, fun x hx => by simp at hx, rfl⟩
  case round =>
    obtain ⟨i, rfl, hi, HI, rfl⟩ := hrel
    by_cases hend : i < ids.length
    · obtain ⟨b, off, rfl, hb, hc⟩ := HROW.out.lie i (by have := HN.out; omega)
      have k1 := ((chain b1 b2).cell (p := ⟨b, off + i, none⟩) hb).trans hc
      have HX : Hid (InR (is[i]'(by have := HN.out; omega)) (256 + l.length) → ∀ x ∈ is.take (i + 1), InR x (256 + l.length)) := fun h x hx => by
        rw [List.take_add_one, List.getElem?_eq_getElem (by have := HN.out; omega)] at hx
        rcases List.mem_append.1 hx with h3 | h3
        · exact HI.out x h3
        · simp at h3; rw [h3]; exact h
      skip
      generalize is[i]'(by have := HN.out; omega) = x at *
      clear hc
      by_cases hin : InR x (256 + l.length)
      · have HX2 := (show Hid _ from HX.out hin)
        have g1 : ¬ x < 0 := by unfold InR at hin; omega
        have g2 : ¬ 255 + (l.length : Int) < x := by unfold InR at hin; omega
        clear hin HX HI
        go_wp2_with (fail)
        go_roundw
        case rel => exact ⟨i + 1, by go_num, by omega, HX2.out, trivial⟩
        case measure => simp [intOf]; omega
      · by_cases g1 : x < 0
        · clear hin HX HI
          go_wp2_with (fail)
          go_ret
          exact ⟨rfl, chain b1 b2⟩
        · have g2 : 255 + (l.length : Int) < x := by unfold InR at hin; omega
          clear hin HX HI
          go_wp2_with (fail)
          go_ret
          exact ⟨rfl, chain b1 b2⟩
    · exact absurd (by have := HI.out; rwa [List.take_of_length_le (by have := HN.out; omega)] at this) HNOT.out
set_option maxHeartbeats 800000 in
set_option maxRecDepth 100000 in
theorem err_b {l : List Mg} {ids is : List Int} {n : Nat} {o' : Option Addr} {cap' : Nat} {v : Value} {w : World} (hM : Mgs w v l) (hs : IntsV w (.slice o' ids.length cap') ids) (f3 : ids.length ≤ cap') (f4 : cap' ≤ 9223372036854775807) (hn : n = is.length) (hi : IntsV w (.slice o' n cap') is) (hcut : 60 < ids.length ∧ ids.length ≤ 4096 ∧ n = 60) (x : Nat) (hx : errOf l = x) (hE : applyE l is = x) (h0 : x ≠ 0) :
    Calls Try.prog 4 #[v, .slice o' ids.length cap'] w fun e w' => e = .returned (.bool true) ∧ Below w.heap.size w w' := by
  have c12 := apply_is l is x [] hE (applyL_bad (by rw [hE]; exact h0)) v (.slice o' n cap') w hM hi
  have HR : Hid (∀ W, Below w.heap.size w W → Calls Try.prog 9 #[v] W fun e w' => ∃ v', e = .returned (.tuple #[v', .int .i64 (x : Int)]) ∧ Below W.heap.size W w') := fun W b => texts_is l x hx v W (hM.later b)
  obtain ⟨o, cap, rfl, _, _, _⟩ := hM.form
  obtain ⟨g60, g4096, hn60⟩ := hcut
  subst hn60
  have HN : Hid (60 = is.length) := hn
  clear hn
  have hn60 : (60 : Nat) ≤ 60 := Nat.le_refl _
  have g1 : ((x : Int) == 0) = false := beq_eq_false_iff_ne.2 (by omega)
  have g2 : ((x : Int) != 0) = true := by rw [bne, g1]; rfl
  have g3 : ((x : Int) == (x : Int)) = true := beq_self_eq_true _
  clear hM hs hi hE hx h0
  go_enter Try.func4, Try.ntmps4
  go_wp2_with (first | (go_at_call 12; refine c12.mono ?_; rintro e w1 ⟨oo, co, rfl, HS1, b1⟩; have c9 := HR.out w1 b1; clear c12) | (go_at_call 9; refine c9.mono ?_; rintro e w2 ⟨v2, rfl, b2⟩; clear c9))
  go_ret
  exact ⟨rfl, chain b1 b2⟩
set_option maxHeartbeats 800000 in
set_option maxRecDepth 100000 in
theorem all_b {l : List Mg} {ids is : List Int} {n : Nat} {o' : Option Addr} {cap' : Nat} {v : Value} {w : World} (hM : Mgs w v l) (hs : IntsV w (.slice o' ids.length cap') ids) (f3 : ids.length ≤ cap') (f4 : cap' ≤ 9223372036854775807) (hn : n = is.length) (hi : IntsV w (.slice o' n cap') is) (hcut : 60 < ids.length ∧ ids.length ≤ 4096 ∧ n = 60) (hx : errOf l = 0) (hE : applyE l is = 0) (hall : AllIn (256 + l.length) is) (hsh : is.length ≤ 60) :
    Calls Try.prog 4 #[v, .slice o' ids.length cap'] w fun e w' => e = .returned (.bool true) ∧ Below w.heap.size w w' := by
  have c12 := apply_is l is 0 (app l is) hE (applyL_ok hE) v (.slice o' n cap') w hM hi
  have HR : Hid (∀ W, Below w.heap.size w W → Calls Try.prog 9 #[v] W fun e w' => ∃ v', e = .returned (.tuple #[v', .int .i64 ((0 : Nat) : Int)]) ∧ Below W.heap.size W w') := fun W b => texts_is l 0 hx v W (hM.later b)
  have hl4 := (ok_run hx).1
  have HA : Hid (∀ W, Below w.heap.size w W → Calls Try.prog 14 #[v, .slice o' n cap'] W (MergedOut l is W)) := fun W b => rapply_any l hl4 is (by omega) v _ W (hM.later b) (hi.later b)
  obtain ⟨o, cap, rfl, f1, f2, _⟩ := hM.form
  obtain ⟨g60, g4096, hn60⟩ := hcut
  subst hn60
  have HN : Hid (60 = is.length) := hn
  clear hn
  have hn60 : (60 : Nat) ≤ 60 := Nat.le_refl _
  obtain ⟨oo', cc', ee, hrow⟩ := id hi
  obtain ⟨rfl, hq, rfl⟩ : o' = oo' ∧ 60 = is.length ∧ cap' = cc' := by simpa using ee
  have HROW : Hid (Row (In w) w iv o' cap' is) := hrow
  have HALLIN : Hid (AllIn (256 + l.length) is) := hall
  clear hM hs hi hE hx hrow ee hall hq
  go_enter Try.func4, Try.ntmps4
  go_wp2_with (first | (go_at_call 12; refine c12.mono ?_; rintro e w1 ⟨oo, co, rfl, HS1, b1⟩; have c9 := HR.out w1 b1; clear c12) | (go_at_call 9; refine c9.mono ?_; rintro e w2 ⟨v2, rfl, b2⟩; clear c9))
  go_loopw [54] (fun y wr => ∃ i : Nat, y = .int .i64 i ∧ i ≤ 60 ∧ Hid (∀ x ∈ is.take i, InR x (256 + l.length)) ∧ wr = w2) (fun y _ => 60 - (intOf y).toNat)
  case atStart => exact ⟨0, rfl, by omega, fun x hx => by simp at hx, rfl⟩
  case round =>
    obtain ⟨i, rfl, hi, HI, rfl⟩ := hrel
    by_cases hend : i < 60
    · obtain ⟨b, off, rfl, hb, hc⟩ := HROW.out.lie i (by have := HN.out; omega)
      have k1 := ((chain b1 b2).cell (p := ⟨b, off + i, none⟩) hb).trans hc
      have HX : Hid (InR (is[i]'(by have := HN.out; omega)) (256 + l.length) → ∀ x ∈ is.take (i + 1), InR x (256 + l.length)) := fun h x hx => by
        rw [List.take_add_one, List.getElem?_eq_getElem (by have := HN.out; omega)] at hx
        rcases List.mem_append.1 hx with h3 | h3
        · exact HI.out x h3
        · simp at h3; rw [h3]; exact h
      have hin := HALLIN.out (is[i]'(by have := HN.out; omega)) (List.getElem_mem _)
      generalize is[i]'(by have := HN.out; omega) = x at *
      clear hc
      have HX2 := (show Hid _ from HX.out hin)
      have g1 : ¬ x < 0 := by unfold InR at hin; omega
      have g2 : ¬ 255 + (l.length : Int) < x := by unfold InR at hin; omega
      clear hin HX HI
      go_wp2_with (fail)
      go_roundw
      case rel => exact ⟨i + 1, by go_num, by omega, HX2.out, trivial⟩
      case measure => simp [intOf]; omega
    · have c14 := HA.out wr (chain b1 b2)
      have HS2 : Hid (IntsV wr (.slice oo (app l is).length co) (app l is)) := HS1.out.later b2
      clear HI HA HR HS1
      go_wp2_with (first | (go_at_call 14; refine c14.mono ?_; rintro e w4 ⟨v4, rfl, s4, b4⟩; have c13 := ints_same (app l is) _ _ w4 (HS2.out.later b4) s4; clear c14) | (go_at_call 13; refine c13.mono ?_; rintro e w5 ⟨rfl, b5⟩))
      go_ret
      exact ⟨rfl, chain (chain b1 b2) (chain b4 b5)⟩
set_option maxHeartbeats 800000 in
set_option maxRecDepth 100000 in
theorem not_b {l : List Mg} {ids is : List Int} {n : Nat} {o' : Option Addr} {cap' : Nat} {v : Value} {w : World} (hM : Mgs w v l) (hs : IntsV w (.slice o' ids.length cap') ids) (f3 : ids.length ≤ cap') (f4 : cap' ≤ 9223372036854775807) (hn : n = is.length) (hi : IntsV w (.slice o' n cap') is) (hcut : 60 < ids.length ∧ ids.length ≤ 4096 ∧ n = 60) (hx : errOf l = 0) (hE : applyE l is = 1) (hall : ¬ AllIn (256 + l.length) is) :
    Calls Try.prog 4 #[v, .slice o' ids.length cap'] w fun e w' => e = .returned (.bool true) ∧ Below w.heap.size w w' := by
  have c12 := apply_is l is 1 [] hE (applyL_bad (by rw [hE]; omega)) v (.slice o' n cap') w hM hi
  have HR : Hid (∀ W, Below w.heap.size w W → Calls Try.prog 9 #[v] W fun e w' => ∃ v', e = .returned (.tuple #[v', .int .i64 ((0 : Nat) : Int)]) ∧ Below W.heap.size W w') := fun W b => texts_is l 0 hx v W (hM.later b)
  have hl4 := (ok_run hx).1
  obtain ⟨o, cap, rfl, f1, f2, _⟩ := hM.form
  obtain ⟨g60, g4096, hn60⟩ := hcut
  subst hn60
  have HN : Hid (60 = is.length) := hn
  clear hn
  have hn60 : (60 : Nat) ≤ 60 := Nat.le_refl _
  obtain ⟨oo', cc', ee, hrow⟩ := id hi
  obtain ⟨rfl, hq, rfl⟩ : o' = oo' ∧ 60 = is.length ∧ cap' = cc' := by simpa using ee
  have HROW : Hid (Row (In w) w iv o' cap' is) := hrow
  have HNOT : Hid (¬ AllIn (256 + l.length) is) := hall
  clear hM hs hi hE hx hrow ee hall hq
  go_enter Try.func4, Try.ntmps4
  go_wp2_with (first | (go_at_call 12; refine c12.mono ?_; rintro e w1 ⟨oo, co, rfl, HS1, b1⟩; have c9 := HR.out w1 b1; clear c12) | (go_at_call 9; refine c9.mono ?_; rintro e w2 ⟨v2, rfl, b2⟩; clear c9))
  go_loopw [54] (fun y wr => ∃ i : Nat, y = .int .i64 i ∧ i ≤ 60 ∧ Hid (∀ x ∈ is.take i, InR x (256 + l.length)) ∧ wr = w2) (fun y _ => 60 - (intOf y).toNat)
  case atStart => exact ⟨0, rfl, by omega, fun x hx => by simp at hx, rfl⟩
  case round =>
    obtain ⟨i, rfl, hi, HI, rfl⟩ := hrel
    by_cases hend : i < 60
    · obtain ⟨b, off, rfl, hb, hc⟩ := HROW.out.lie i (by have := HN.out; omega)
      have k1 := ((chain b1 b2).cell (p := ⟨b, off + i, none⟩) hb).trans hc
      have HX : Hid (InR (is[i]'(by have := HN.out; omega)) (256 + l.length) → ∀ x ∈ is.take (i + 1), InR x (256 + l.length)) := fun h x hx => by
        rw [List.take_add_one, List.getElem?_eq_getElem (by have := HN.out; omega)] at hx
        rcases List.mem_append.1 hx with h3 | h3
        · exact HI.out x h3
        · simp at h3; rw [h3]; exact h
      skip
      generalize is[i]'(by have := HN.out; omega) = x at *
      clear hc
      by_cases hin : InR x (256 + l.length)
      · have HX2 := (show Hid _ from HX.out hin)
        have g1 : ¬ x < 0 := by unfold InR at hin; omega
        have g2 : ¬ 255 + (l.length : Int) < x := by unfold InR at hin; omega
        clear hin HX HI
        go_wp2_with (fail)
        go_roundw
        case rel => exact ⟨i + 1, by go_num, by omega, HX2.out, trivial⟩
        case measure => simp [intOf]; omega
      · by_cases g1 : x < 0
        · clear hin HX HI
          go_wp2_with (fail)
          go_ret
          exact ⟨rfl, chain b1 b2⟩
        · have g2 : 255 + (l.length : Int) < x := by unfold InR at hin; omega
          clear hin HX HI
          go_wp2_with (fail)
          go_ret
          exact ⟨rfl, chain b1 b2⟩
    · exact absurd (by have := HI.out; rwa [List.take_of_length_le (by have := HN.out; omega)] at this) HNOT.out
set_option maxHeartbeats 800000 in
set_option maxRecDepth 100000 in
theorem err_c {l : List Mg} {ids is : List Int} {n : Nat} {o' : Option Addr} {cap' : Nat} {v : Value} {w : World} (hM : Mgs w v l) (hs : IntsV w (.slice o' ids.length cap') ids) (f3 : ids.length ≤ cap') (f4 : cap' ≤ 9223372036854775807) (hn : n = is.length) (hi : IntsV w (.slice o' n cap') is) (hcut : 4096 < ids.length ∧ n = ids.length) (x : Nat) (hx : errOf l = x) (hE : applyE l is = x) (h0 : x ≠ 0) :
    Calls Try.prog 4 #[v, .slice o' ids.length cap'] w fun e w' => e = .returned (.bool true) ∧ Below w.heap.size w w' := by
  have c12 := apply_is l is x [] hE (applyL_bad (by rw [hE]; exact h0)) v (.slice o' n cap') w hM hi
  have HR : Hid (∀ W, Below w.heap.size w W → Calls Try.prog 9 #[v] W fun e w' => ∃ v', e = .returned (.tuple #[v', .int .i64 (x : Int)]) ∧ Below W.heap.size W w') := fun W b => texts_is l x hx v W (hM.later b)
  obtain ⟨o, cap, rfl, _, _, _⟩ := hM.form
  obtain ⟨g4096, hn60⟩ := hcut
  subst hn60
  have HN : Hid (ids.length = is.length) := hn
  clear hn
  have g1 : ((x : Int) == 0) = false := beq_eq_false_iff_ne.2 (by omega)
  have g2 : ((x : Int) != 0) = true := by rw [bne, g1]; rfl
  have g3 : ((x : Int) == (x : Int)) = true := beq_self_eq_true _
  clear hM hs hi hE hx h0
  go_enter Try.func4, Try.ntmps4
  go_wp2_with (first | (go_at_call 12; refine c12.mono ?_; rintro e w1 ⟨oo, co, rfl, HS1, b1⟩; have c9 := HR.out w1 b1; clear c12) | (go_at_call 9; refine c9.mono ?_; rintro e w2 ⟨v2, rfl, b2⟩; clear c9))
  go_ret
  exact ⟨rfl, chain b1 b2⟩
set_option maxHeartbeats 800000 in
set_option maxRecDepth 100000 in
theorem long_c {l : List Mg} {ids is : List Int} {n : Nat} {o' : Option Addr} {cap' : Nat} {v : Value} {w : World} (hM : Mgs w v l) (hs : IntsV w (.slice o' ids.length cap') ids) (f3 : ids.length ≤ cap') (f4 : cap' ≤ 9223372036854775807) (hn : n = is.length) (hi : IntsV w (.slice o' n cap') is) (hcut : 4096 < ids.length ∧ n = ids.length) (hx : errOf l = 0) (hE : applyE l is = 2) :
    Calls Try.prog 4 #[v, .slice o' ids.length cap'] w fun e w' => e = .returned (.bool true) ∧ Below w.heap.size w w' := by
  have c12 := apply_is l is 2 [] hE (applyL_bad (by rw [hE]; omega)) v (.slice o' n cap') w hM hi
  have HR : Hid (∀ W, Below w.heap.size w W → Calls Try.prog 9 #[v] W fun e w' => ∃ v', e = .returned (.tuple #[v', .int .i64 ((0 : Nat) : Int)]) ∧ Below W.heap.size W w') := fun W b => texts_is l 0 hx v W (hM.later b)
  obtain ⟨o, cap, rfl, _, _, _⟩ := hM.form
  obtain ⟨g4096, hn60⟩ := hcut
  subst hn60
  have HN : Hid (ids.length = is.length) := hn
  clear hn
  clear hM hs hi hE hx
  go_enter Try.func4, Try.ntmps4
  go_wp2_with (first | (go_at_call 12; refine c12.mono ?_; rintro e w1 ⟨oo, co, rfl, HS1, b1⟩; have c9 := HR.out w1 b1; clear c12) | (go_at_call 9; refine c9.mono ?_; rintro e w2 ⟨v2, rfl, b2⟩; clear c9))
  go_ret
  exact ⟨rfl, chain b1 b2⟩
theorem walk {l : List Mg} {v : Value} {w : World} (hM : Mgs w v l) {ids : List Int} {vs : Value} (hs : IntsV w vs ids) (w0 : World) (hw0 : w0 = w := by rfl) :
    Calls Try.prog 4 #[v, vs] w0 fun e w' => e = .returned (.bool true) ∧ Below w0.heap.size w0 w' := by
  subst hw0
  obtain ⟨o', cap', rfl, hrow⟩ := id hs
  have f3 := hrow.fit
  have f4 := hrow.top
  by_cases h1 : ids.length ≤ 60
  · rcases errOf_cases l with e | e | e
    · exact err_a hM hs f3 f4 rfl hs ⟨h1, rfl⟩ 2 e (applyE_err e (by omega)) (by omega)
    · exact err_a hM hs f3 f4 rfl hs ⟨h1, rfl⟩ 130 e (applyE_err e (by omega)) (by omega)
    · by_cases ha : AllIn (256 + l.length) ids
      · exact all_a hM hs f3 f4 rfl hs ⟨h1, rfl⟩ e (applyE_ok e (by omega) ha) ha (by omega)
      · exact not_a hM hs f3 f4 rfl hs ⟨h1, rfl⟩ e (by unfold applyE; rw [if_neg (by rw [e]; simp), if_neg (by omega), if_neg ha]) ha
  · by_cases h2 : ids.length ≤ 4096
    · have ht := (hs.take 60 (by omega)).2
      have hl : (ids.take 60).length = 60 := by rw [List.length_take]; omega
      rcases errOf_cases l with e | e | e
      · exact err_b hM hs f3 f4 hl.symm ht ⟨by omega, h2, rfl⟩ 2 e (applyE_err e (by omega)) (by omega)
      · exact err_b hM hs f3 f4 hl.symm ht ⟨by omega, h2, rfl⟩ 130 e (applyE_err e (by omega)) (by omega)
      · by_cases ha : AllIn (256 + l.length) (ids.take 60)
        · exact all_b hM hs f3 f4 hl.symm ht ⟨by omega, h2, rfl⟩ e (applyE_ok e (by omega) ha) ha (by omega)
        · exact not_b hM hs f3 f4 hl.symm ht ⟨by omega, h2, rfl⟩ e (by unfold applyE; rw [if_neg (by rw [e]; simp), if_neg (by omega), if_neg ha]) ha
    · rcases errOf_cases l with e | e | e
      · exact err_c hM hs f3 f4 rfl hs ⟨by omega, rfl⟩ 2 e (applyE_err e (by omega)) (by omega)
      · exact err_c hM hs f3 f4 rfl hs ⟨by omega, rfl⟩ 130 e (applyE_err e (by omega)) (by omega)
      · exact long_c hM hs f3 f4 rfl hs ⟨by omega, rfl⟩ e (applyE_long e (by omega))

set_option maxRecDepth 100000 in
theorem lifted (os : Os) (started : os.Started) (H : Type) (enc : TypeId × Value → H) :
    ReturnsInHanded {} Try.checked os 4 .any (Rows.mergeAppliesSpec.pre6 enc Try.prog Try.f4 Rows.mergeAppliesRow.domain false) (Rows.mergeAppliesSpec.post enc Try.prog Try.f4 false true false false) := by
  refine returnsInHanded_of_change_sized (C := Try.checked) own started (by kernel_rfl) Try.func4
    (ChangeSpec.witness6 (enc := enc) (C := Try.checked) false ⟨#[], #[.slice none 0 0, .slice none 0 0], []⟩ 8 (by kernel_rfl) (by kernel_rfl) (by kernel_rfl) (by kernel_rfl)) ?_
  intro W base args ds gs before hval0 hW hcnd hsz0 _
  have hsz : (DataW.weightsEach Try.prog (Try.f4.params.toList ++ Rows.mergeAppliesSpec.plain.varTypes Try.prog) (ds ++ gs)).all (· ≤ reachBytes) = true := hsz0
  have hval : ∀ (j : Nat) t v, Try.f4.params[j]? = some t → args[j]? = some v → Value.okWide Try.prog W .any base t v := hval0
  have hW' := hW
  obtain ⟨p, q, hA0, hV, rfl, hfz, hnd⟩ := hW
  have hA : DataW.TrodAll enc Try.prog W 0 (fun _ => true) true Try.f4.params.toList args.toList ds p := hA0
  rw [Try.params4] at hA hval hsz
  obtain ⟨v0, vs0, d0, ds0, p0, q0, hargs, rfl, rfl, h0, r0⟩ := trodAll_cons hA
  obtain ⟨v1, vs1, d1, ds1, p1, q1, rfl, rfl, rfl, h1, r1⟩ := trodAll_cons r0
  obtain ⟨rfl, rfl, rfl⟩ := trodAll_nil r1
  obtain rfl : args = #[v0, v1] := by cases args; simp_all
  obtain ⟨rfl, rfl⟩ := trodVars_none hV
  have k0 := h0
  have lt0 : ∀ x ∈ p0, x.block < W.heap.size := by obtain ⟨m, hm⟩ := k0; exact DataW.trod_lt m _ _ _ hm
  obtain ⟨l0, F0⟩ := mg.open22 (hval 0 22 v0 rfl rfl) h0
  have k1 := h1
  have lt1 : ∀ x ∈ p1, x.block < W.heap.size := by obtain ⟨m, hm⟩ := k1; exact DataW.trod_lt m _ _ _ hm
  obtain ⟨l1, F1⟩ := mg.open30 (hval 1 30 v1 rfl rfl) h1
  clear hA0 hval0
  refine (walk F0 F1 W).mono fun e W' ⟨he, bel⟩ => ?_
  subst he
  exact ⟨_, rfl, _, _, _, [], _, [], hW', trodAll_mk1 (shut_bool Try.underlying4 _), (trodAll_cons_mk (Below.trod laidOut (by kernel_rfl) (of_decide_eq_true (by kernel_rfl)) k0 bel lt0) (trodAll_cons_mk (Below.trod laidOut (by kernel_rfl) (of_decide_eq_true (by kernel_rfl)) k1 bel lt1) trodAll_mk0)), rfl, bel.frame _, fun h => by cases h⟩

theorem over : Rows.mergeAppliesRow.holds Try.pinned (OpenSpec.ofChange Rows.mergeAppliesSpec) :=
  OpenClaim.holds_of_wide 4 Try.f4 rfl rfl rfl rfl rfl rfl rfl ⟨rfl, rfl, rfl, rfl, rfl⟩ rfl rfl rfl rfl rfl (by kernel_rfl) Try.func4 (by kernel_rfl)
    (of_decide_eq_true (by kernel_rfl)) (by unfold Func.isWrapper; first | (rw [if_pos (by decide +kernel)]; kernel_rfl) | (rw [if_neg (by decide +kernel)]; exact ⟨rfl, rfl⟩))
    (fun os started H enc _ => lifted os started H enc)

theorem proved : Rows.MergeAppliesSaid :=
  over
#print axioms proved
end Go.Proofs.Ytciphckjjbinbaa.mergeApplies
