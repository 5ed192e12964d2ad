/-
  Texts put together: Contracts over this program: ir.areIds, slices.ContainsFunc at it. Contracts over this program: slices.Grow of nothing, slices.Concat of lists of numbers.
-/
import Derived.Test.YtmmlibehihknbaaM00
import Derived.Test.YtmmlibehihknbaaM01
import Derived.Lib.AppendZeros
import Derived.Laws.OwnMore
namespace Go.Proofs.Ytmmlibehihknbaa.ir
open Go.ChangeShapes Go.WideShapes Go.ChangeAt Go.RowKit
open mg (Row In iv IntsV chain below_alloc)
set_option linter.unusedVariables false
set_option maxRecDepth 100000

def far (x : Int) : Bool := decide (x < 0) || decide (65535 < x)
def anyFar (l : List Int) : Bool := l.any far
def areIds (l : List Int) : Bool := decide (l.length ≤ 32) && !anyFar l
theorem far_any (x : Int) (w : World) : Calls Try.prog 130 #[.int .i64 x] w fun e w' => e = .returned (.bool (far x)) ∧ w' = w := by
  by_cases h1 : x < 0
  · have e : far x = true := by simp [far, h1]
    rw [e]
    clear e
    go_enter Try.func130, Try.ntmps130
    go_wp2_with (fail)
    go_ret
    exact ⟨rfl, rfl⟩
  · by_cases h2 : 65535 < x
    · have e : far x = true := by simp [far, h2]
      rw [e]
      clear e
      go_enter Try.func130, Try.ntmps130
      go_wp2_with (fail)
      go_ret
      exact ⟨rfl, rfl⟩
    · have e : far x = false := by simp [far]; omega
      rw [e]
      clear e
      go_enter Try.func130, Try.ntmps130
      go_wp2_with (fail)
      go_ret
      exact ⟨rfl, rfl⟩
theorem drop_at (l : List Int) (i : Nat) (h : i < l.length) : l.drop i = l[i] :: l.drop (i + 1) := List.drop_eq_getElem_cons h
set_option maxHeartbeats 1000000 in
theorem idx_any (l : List Int) (x : Bool) (hx : x = anyFar l) (v : Value) (w : World) (hv : IntsV w v l) : Calls Try.prog 131 #[v, .func (.func 130) #[] #[]] w fun e w' => (∃ n : Int, e = .returned (.int .i64 n) ∧ (x = true ∧ 0 ≤ n ∨ x = false ∧ n = -1)) ∧ Below w.heap.size w w' := by
  obtain ⟨o, cap, rfl, h⟩ := hv
  have f1 := h.fit
  have f2 := h.top
  have HR : Hid (Row (In w) w iv o cap l) := h
  have HX : Hid (x = anyFar l) := hx
  clear h hx
  go_enter Try.func131, Try.ntmps131
  go_wp2_with (fail)
  go_loopw [8] (fun y wr => ∃ (i : Nat), y = .int .i64 i ∧ i ≤ l.length ∧ Below w.heap.size w wr ∧ Hid (anyFar (l.drop i) = x)) (fun y _ => l.length - (intOf y).toNat)
  case atStart => exact ⟨0, rfl, by omega, Below.refl _ _, by rw [List.drop_zero]; exact HX.out.symm⟩
  case round =>
    obtain ⟨i, rfl, hi, hB, HT⟩ := hrel
    by_cases hend : i < l.length
    · obtain ⟨b, off, rfl, hb, hc⟩ := HR.out.lie i hend
      have k1 := (hB.cell (p := ⟨b, off + i, none⟩) hb).trans hc
      have HN : Hid (x = (far l[i] || anyFar (l.drop (i + 1)))) := by
        show _ = _
        rw [← HT.out, drop_at l i hend]
        rfl
      have hfa := far_any l[i]
      generalize l[i] = r at *
      cases hbr : far r
      · rw [hbr] at hfa HN
        clear HT hc
        go_wp2_with (go_at_call 130; refine (hfa _).mono ?_; rintro e w1 ⟨rfl, b1⟩; obtain rfl := b1.symm)
        go_roundw
        case rel => exact ⟨i + 1, by go_num, by omega, hB, HN.out.symm⟩
        case measure => simp [intOf]; omega
      · rw [hbr] at hfa HN
        clear HT hc
        go_wp2_with (go_at_call 130; refine (hfa _).mono ?_; rintro e w1 ⟨rfl, b1⟩; obtain rfl := b1.symm)
        go_ret
        exact ⟨⟨_, rfl, .inl ⟨HN.out, by omega⟩⟩, hB⟩
    · have HE : Hid (x = false) := by
        show _ = _
        rw [← HT.out, List.drop_eq_nil_of_le (by omega)]
        rfl
      go_wp2_with (fail)
      go_ret
      exact ⟨⟨_, rfl, .inr ⟨HE.out, rfl⟩⟩, hB⟩
set_option maxHeartbeats 1000000 in
theorem contains_any (l : List Int) (x : Bool) (hx : x = anyFar l) (v : Value) (w : World) (hv : IntsV w v l) : Calls Try.prog 129 #[v, .func (.func 130) #[] #[]] w fun e w' => e = .returned (.bool x) ∧ Below w.heap.size w w' := by
  have hi := idx_any l x hx v w hv
  clear hx
  go_enter Try.func129, Try.ntmps129
  go_wp2_with (go_at_call 131; refine hi.mono ?_; rintro e w1 ⟨⟨n, rfl, hn⟩, b1⟩)
  go_ret
  refine ⟨?_, b1⟩
  rcases hn with ⟨rfl, h⟩ | ⟨rfl, rfl⟩
  · show Ending.returned (.bool (decide (0 ≤ n))) = _
    rw [decide_eq_true h]
  · rfl
set_option maxHeartbeats 1000000 in
theorem areIds_any (l : List Int) (x : Bool) (hx : x = areIds l) (v : Value) (w : World) (hv : IntsV w v l) : Calls Try.prog 127 #[v] w fun e w' => e = .returned (.bool x) ∧ Below w.heap.size w w' := by
  obtain ⟨y, hy⟩ : ∃ y, y = anyFar l := ⟨_, rfl⟩
  have hc := contains_any l y hy v w hv
  unfold areIds at hx
  rw [← hy] at hx
  obtain ⟨o, cap, rfl, h⟩ := hv
  have f1 := h.fit
  have f2 := h.top
  clear h hy
  by_cases h1 : l.length ≤ 32
  · obtain rfl : x = !y := by rw [hx]; simp [h1]
    clear hx
    go_enter Try.func127, Try.ntmps127
    go_wp2_with (go_at_call 129; refine hc.mono ?_; rintro e w1 ⟨rfl, b1⟩)
    go_ret
    exact ⟨rfl, b1⟩
  · obtain rfl : x = false := by rw [hx]; simp [h1]
    clear hx
    go_enter Try.func127, Try.ntmps127
    go_wp2_with (fail)
    go_ret
    exact ⟨rfl, Below.refl _ _⟩
end Go.Proofs.Ytmmlibehihknbaa.ir

namespace Go.Proofs.Ytmmlibehihknbaa.ir
open Go.ChangeShapes Go.WideShapes Go.ChangeAt Go.RowKit
open mg (Row In iv IntsV chain below_alloc)
set_option linter.unusedVariables false
set_option maxRecDepth 100000

theorem info3 : (Try.prog.info? 3).map (fun i => (i.zero, i.size, i.bytes)) = some (some (.int .i64 0), 1, 8) := by kernel_rfl
/-- numbers in a row of the call's own -/
def Ids (w : World) (B : Nat) (v : Value) (l : List Int) : Prop := w.ownsRow B 3 1 v l.length (l.map iv)
/-- a list behind another one that the call owns -/
theorem append_ints (w : World) (B : Nat) (v : Value) (l : List Int) (hown : Ids w B v l) (u : Value) (m : List Int) (hu : IntsV w u m) (hsm : l.length + m.length ≤ 1000000) (hB : B ≤ w.heap.size) :
    ∃ v' w', (Builtin.append_ #[25, 25] 25 #[v, u]).run Try.prog w = .ok v' w' ∧ Ids w' B v' (l ++ m) ∧ w.grownBy w' v.ownBlock := by
  obtain ⟨i0, hi, hz0, hz1, hz2⟩ := info_parts info3
  obtain ⟨o, cap, rfl, h⟩ := hu
  by_cases h0 : o = none
  · subst h0
    have hm : m = [] := by
      cases m with
      | nil => rfl
      | cons x m => obtain ⟨b, off, e, _⟩ := h.lie 0 (by simp); cases e
    subst hm
    by_cases hc : cap = 0
    · subst hc
      have hr := run_append_owned_none (P := Try.prog) (w := w) B 25 25 3 i0 1 Try.underlying25 hi v l.length _ hown
      exact ⟨v, w, hr, by simpa using hown, ⟨rfl, rfl, rfl, Nat.le_refl _, fun k _ _ => rfl⟩⟩
    · rcases hown.2 with ⟨rfl, e0⟩ | ⟨g, cp, cur, rfl, hb, hg, hnc, hr⟩
      · refine ⟨.slice none 0 0, w, by simp [Builtin.append_, run_underlying Try.underlying25, sizeOf, typeInfo, hi, Builtin.lenOf, Builtin.firstCells], by simpa using hown, ⟨rfl, rfl, rfl, Nat.le_refl _, fun k _ _ => rfl⟩⟩
      · refine ⟨.slice (some ⟨g, 0, none⟩) l.length cp, w, by simp [Builtin.append_, run_underlying Try.underlying25, sizeOf, typeInfo, hi, Builtin.lenOf, Builtin.firstCells, hnc, storeCells], by simpa using hown, ⟨rfl, rfl, rfl, Nat.le_refl _, fun k _ _ => rfl⟩⟩
  · obtain ⟨a, rfl⟩ := Option.ne_none_iff_exists'.1 h0
    have key : ∀ j x, (m.map iv)[j]? = some x → w.cell? (a.add j) = some x := by
      intro j x hj
      rw [List.getElem?_map] at hj
      cases e : m[j]? with
      | none => rw [e] at hj; cases hj
      | some y =>
        rw [e] at hj
        cases hj
        obtain ⟨hlt, rfl⟩ := List.getElem?_eq_some_iff.1 e
        obtain ⟨b, off, e2, _, hc⟩ := h.lie j hlt
        cases e2
        rw [show (⟨b, off, none⟩ : Addr).add j = ⟨b, off + j, none⟩ by simp [Addr.add]]
        exact hc
    have hbb : (l.length + m.length) * 8 ≤ 140737488355328 := Nat.le_trans (Nat.mul_le_mul_right 8 hsm) (by decide)
    obtain ⟨v', w', hr, h2, h3, h4⟩ := run_append_own (P := Try.prog) w B 25 25 3 i0 _ 1 8 Try.underlying25 hi hz0 hz1 hz2 rfl (by decide) v l.length _ hown a m.length cap (m.map iv) (by simp) key (fun x hx => by obtain ⟨y, _, rfl⟩ := List.mem_map.1 hx; rfl) (by unfold maxLen; omega) hbb hB
    exact ⟨v', w', hr, by simpa [Ids] using h2, h3⟩
set_option maxHeartbeats 1000000 in
theorem grow_any (n : Nat) (hn : n ≤ 1000000) (w : World) : Calls Try.prog 128 #[.slice none 0 0, .int .i64 (n : Int)] w fun e w' => ∃ v, e = .returned v ∧ Ids w' w.heap.size v [] ∧ Below w.heap.size w w' := by
  by_cases h : n = 0
  · subst h
    go_enter Try.func128, Try.ntmps128
    go_wp2_with (fail)
    go_ret
    exact ⟨_, rfl, ⟨rfl, .inl ⟨rfl, rfl⟩⟩, Below.refl _ _⟩
  · obtain ⟨i0, hi, hz0, hz1, hz2⟩ := info_parts info3
    have hr := Lib.run_append_nil_zeros (P := Try.prog) w 25 3 25 3 i0 _ .i64 .i64 Try.underlying25 Try.underlying3 hi hz0 n (by omega) (by omega) (by omega) (by rw [hz2]; omega)
    have hB : Below w.heap.size w (w.drew.alloc (.cells (Builtin.zeroCells (Value.int .i64 0).cells n ++ Builtin.zeroCells (Value.int .i64 0).cells (grownCap w n 0 3 - n)) 3)) := ((Below.refl w.heap.size w).drew).alloc (Nat.le_refl _) _
    have hcap := grownCap_ge w n 0 3
    have hcm := grownCap_le_maxLen w n 0 3 (by unfold maxLen; omega)
    have hI : Ids (w.drew.alloc (.cells (Builtin.zeroCells (Value.int .i64 0).cells n ++ Builtin.zeroCells (Value.int .i64 0).cells (grownCap w n 0 3 - n)) 3)) w.heap.size (.slice (some ⟨w.heap.size, 0, none⟩) 0 (grownCap w n 0 3)) [] := by
      refine ⟨rfl, .inr ⟨w.heap.size, _, _, rfl, Nat.le_refl _, World.alloc_heap_new w.drew _, Nat.zero_le _, hcm, ?_, rfl⟩⟩
      rw [Array.size_append, size_zeroCells, size_zeroCells]
      simp [Value.cells]
      omega
    generalize (w.drew.alloc (.cells (Builtin.zeroCells (Value.int .i64 0).cells n ++ Builtin.zeroCells (Value.int .i64 0).cells (grownCap w n 0 3 - n)) 3)) = w2 at *
    generalize grownCap w n 0 3 = cp at *
    unfold maxLen at hcm
    have hn0 : (0 : Int) < (n : Int) := by omega
    have HI := (show Hid _ from hI)
    have HBB := (show Hid _ from hB)
    clear hI hB
    go_enter Try.func128, Try.ntmps128
    go_wp2_with (at_builtin; refine Lib.wpList_append_run _ rfl _ _ _ _ rfl _ _ rfl rfl _ _ hr ?_)
    go_ret
    exact ⟨_, rfl, HI.out, HBB.out⟩
theorem ids_later {w w' : World} {B : Nat} {v : Value} {l : List Int} (h : Ids w B v l) (b : Below w.heap.size w w') : Ids w' B v l := ow.later h b
theorem ids_ints {w : World} {B : Nat} {v : Value} {l : List Int} (h : Ids w B v l) : IntsV w v l := mg.RowV.own h
/-- lists in a row of their own -/
structure Lists (w : World) (b n : Nat) (ls : List (List Int)) : Prop where
  len : ls.length = n
  lt : b < w.heap.size
  at_ : ∀ i (h : i < ls.length), ∃ v, w.cell? ⟨b, i, none⟩ = some v ∧ IntsV w v ls[i]
theorem Lists.later {w w' : World} {b n : Nat} {ls : List (List Int)} (h : Lists w b n ls) (k : Below w.heap.size w w') : Lists w' b n ls :=
  ⟨h.len, Nat.lt_of_lt_of_le h.lt k.size, fun i hi => by
    obtain ⟨v, h1, h2⟩ := h.at_ i hi
    exact ⟨v, (k.cell (p := ⟨b, i, none⟩) h.lt).trans h1, h2.later k⟩⟩
theorem list_take {α : Type} (l : List α) (i : Nat) (h : i < l.length) : l.take (i + 1) = l.take i ++ [l[i]] := by
  rw [List.take_add_one, List.getElem?_eq_getElem h]; rfl
def total (ls : List (List Int)) (i : Nat) : Nat := ((ls.take i).map List.length).sum
theorem total_succ (ls : List (List Int)) (i : Nat) (h : i < ls.length) : total ls (i + 1) = total ls i + ls[i].length := by
  unfold total
  rw [list_take _ _ h, List.map_append, List.sum_append]
  rfl
theorem total_le (ls : List (List Int)) (i : Nat) : total ls i ≤ total ls ls.length := by
  unfold total
  have e : ls.map List.length = (ls.take i).map List.length ++ (ls.drop i).map List.length := by rw [← List.map_append, List.take_append_drop]
  rw [List.take_length, e, List.sum_append]
  exact Nat.le_add_right _ _
theorem flat_len (ls : List (List Int)) (i : Nat) : (ls.take i).flatten.length = total ls i := by
  unfold total
  rw [List.length_flatten]
theorem flat_succ (ls : List (List Int)) (i : Nat) (h : i < ls.length) : (ls.take (i + 1)).flatten = (ls.take i).flatten ++ ls[i] := by
  rw [list_take _ _ h, List.flatten_append]
  simp
set_option maxHeartbeats 4000000 in
theorem concat_any (ls : List (List Int)) (b n : Nat) (hn : n ≤ 1000) (hsm : total ls ls.length ≤ 900000) (w : World) (h : Lists w b n ls) : Calls Try.prog 126 #[.slice (some ⟨b, 0, none⟩) n n] w fun e w' => ∃ v, e = .returned v ∧ Ids w' w.heap.size v ls.flatten ∧ Below w.heap.size w w' := by
  have HL := (show Hid (∀ W, Below w.heap.size w W → Lists W b n ls) from fun W k => h.later k)
  have HT := (show Hid (total ls ls.length ≤ 900000) from hsm)
  have hlen := h.len
  clear h hsm
  go_enter Try.func126, Try.ntmps126
  go_wp2_with (fail)
  go_loopw [3, 11] (fun y z wr => ∃ (i t : Nat), y = .int .i64 (t : Int) ∧ z = .int .i64 i ∧ i ≤ n ∧ Hid (t = total ls i) ∧ wr = w) (fun _ z _ => n - (intOf z).toNat)
  case atStart => exact ⟨0, 0, rfl, rfl, by omega, by show _ = _; simp [total], rfl⟩
  case round =>
    obtain ⟨i, t, rfl, rfl, hi, HS, rfl⟩ := hrel
    have htl : t ≤ 900000 := by rw [HS.out]; exact Nat.le_trans (total_le ls i) HT.out
    by_cases hend : i < n
    · obtain ⟨u, hc, o, cap, rfl, hu⟩ := (HL.out wr (Below.refl _ _)).at_ i (by omega)
      have f1 := hu.fit
      have f2 := hu.top
      have HN := (show Hid (t + (ls[i]'(by omega)).length = total ls (i + 1)) from by show _ = _; rw [HS.out, ← total_succ])
      have hnl : t + (ls[i]'(by omega)).length ≤ 900000 := by rw [HN.out]; exact Nat.le_trans (total_le ls _) HT.out
      clear hu
      generalize (ls[i]'(by omega)).length = m at *
      have hz : IntKind.i64.wrap ((t : Int) + (m : Int)) = (t : Int) + (m : Int) := IntWalk.i64_in _ (by omega)
      have hz2 : ¬ ((t : Int) + (m : Int)) < 0 := by omega
      clear HS
      go_wp2_with (fail)
      go_roundw
      case rel => exact ⟨i + 1, t + m, by first | rfl | simp, by go_num, by omega, HN, by first | rfl | trivial⟩
      case measure => simp [intOf]; omega
    · have hie : i = n := by omega
      have HS2 := (show Hid (t = total ls ls.length) from by show _ = _; rw [HS.out, hie, hlen])
      subst hie
      have c114 := grow_any t (by omega) wr
      clear HS
      go_wp2_with (fail)
      go_at_call 128
      refine c114.mono ?_
      rintro e w2 ⟨v, rfl, hI, b2⟩
      obtain ⟨vo, vc, rfl, hv1, hv2⟩ := ow.form hI
      have HI := (show Hid (Ids w2 wr.heap.size (.slice vo ([] : List Int).length vc) []) from hI)
      have HB := (show Hid (Below wr.heap.size wr w2) from b2)
      clear c114 hI b2
      obtain ⟨w0, rfl⟩ : ∃ w0 : World, w0 = wr := ⟨_, rfl⟩
      go_wp2_with (fail)
      go_loopw [6, 27] (fun y z wr => ∃ (j : Nat) (k : List Int) (g : Option Addr) (c : Nat), y = .slice g k.length c ∧ z = .int .i64 j ∧ j ≤ i ∧ Hid (k = (ls.take j).flatten) ∧ Hid (Ids wr w0.heap.size (.slice g k.length c) k) ∧ Hid (Below w0.heap.size w0 wr)) (fun _ z _ => i - (intOf z).toNat)
      case atStart => exact ⟨0, [], vo, vc, rfl, rfl, by omega, by show _ = _; simp, HI, HB⟩
      case round =>
        obtain ⟨j, k, g, c, rfl, rfl, hj, HK, HI2, HB2⟩ := hrel
        by_cases hjn : j < i
        · obtain ⟨u, hc, hu⟩ := (HL.out wr HB2.out).at_ j (by omega)
          have HN := (show Hid (k ++ (ls[j]'(by omega)) = (ls.take (j + 1)).flatten) from by show _ = _; rw [HK.out, flat_succ])
          have hnl : k.length + (ls[j]'(by omega)).length ≤ 900000 := by
            have : (k ++ (ls[j]'(by omega))).length ≤ 900000 := by
              rw [HN.out, flat_len]
              exact Nat.le_trans (total_le ls _) HT.out
            simpa using this
          generalize (ls[j]'(by omega)) = m at *
          obtain ⟨v2, w3, hr, hI3, hg3⟩ := append_ints wr w0.heap.size _ k HI2.out u m hu (by omega) HB2.out.size
          have HB3 := (show Hid (Below w0.heap.size w0 w3) from HB2.out.grown hg3 HB2.out.size (fun q hq => (ow.lt HI2.out hq).1))
          obtain ⟨o3, c3, rfl, _, _⟩ := ow.form hI3
          have HI3 := (show Hid (Ids w3 w0.heap.size (.slice o3 (k ++ m).length c3) (k ++ m)) from hI3)
          obtain ⟨uo, uc, rfl, hu2⟩ := hu
          clear HK hI3 hg3 hu2 HI2 HB2
          go_wp2_with (at_builtin; refine Lib.wpList_append_run _ rfl _ _ _ _ rfl _ _ rfl rfl _ _ hr ?_)
          go_roundw
          case rel => exact ⟨j + 1, k ++ m, o3, c3, by simp, by go_num, by omega, HN, HI3, HB3⟩
          case measure => simp [intOf]; omega
        · have hje : j = i := by omega
          subst hje
          have HE := (show Hid (k = ls.flatten) from by have := HK.out; rw [← hlen, List.take_length] at this; exact this)
          clear HK
          go_wp2_with (fail)
          go_ret
          exact ⟨_, rfl, by rw [← HE.out]; exact HI2.out, HB2.out⟩
end Go.Proofs.Ytmmlibehihknbaa.ir
