/-
  Contracts over this program: which trie may be (trie.Right and the document's), trie.place, trie.from, the law's short, the document's Number and Longest.
-/
import Derived.Test.YtbappfbojehkeaaYa
import Derived.Lib.QuietBelow
namespace Go.Proofs.Ytbappfbojehkeaa.ti
open Go.ChangeShapes Go.WideShapes Go.ChangeAt Go.RowKit Go.Sort
set_option linter.unusedVariables false

theorem load_if {P : Program} {ops : Array Oper} {rest : List Oper} {o : Oper} {a : Act} {w : World} {Q : Exit → Act → World → Prop} (hw : Region.wanted o (yielded ops a.tmps) = true) (ty : TypeId) (x : Operand) (ho : o.op = .load ty x)
    (g : Nat) (hx : a.eval x = .pointer (some ⟨g, 0, none⟩)) (t : TypeId) (cs : Array Value) (fr : Nat × Nat) (d : TypeDesc) (hg : w.heap[g]? = some (.cells cs t fr))
    (hu : P.underlying ty = some d) (hd : (match d with | .struct _ | .array _ _ => true | _ => false) = true) (hi : (P.info? ty).map (·.size) = some cs.size)
    (h : wpList P ops Q rest (a.put o.dst (.agg cs)) w) : wpList P ops Q (o :: rest) a w :=
  wpList_step fun K hK => by rw [if_pos hw]; exact wp_load_row ty x ho g hx t cs fr d hg hu hd hi (hK _ _ h)
theorem right_iff (t : Tr) : right t = true ↔ 1 ≤ t.base.length ∧ t.base.length ≤ 400000 ∧ t.check.length = t.base.length ∧ t.word.length = t.base.length := by unfold right; exact decide_eq_true_iff
theorem right_no (t : Tr) (h : ¬ (1 ≤ t.base.length ∧ t.base.length ≤ 400000 ∧ t.check.length = t.base.length ∧ t.word.length = t.base.length)) : right t = false := by unfold right; exact decide_eq_false h
def RtIs (f : Nat) (t : Tr) (r : Bool) : Prop := ∀ p w, TAt (In w) w t p → Calls Try.prog f #[.agg (tv t p)] w fun e w' => e = .returned (.bool r) ∧ Below w.heap.size w w'
set_option maxHeartbeats 2000000 in
theorem right_any (t : Tr) : RtIs 6 t (right t) := by
  intro p w hA
  have B0 := below_alloc w (.cells (tv t p) 24)
  have b0 := box_new w t p
  have k0 := b0.c0
  have k1 := b0.c1
  have k2 := b0.c2
  have f1 := Nat.le_trans hA.rb.fit hA.rb.top
  have f2 := Nat.le_trans hA.rc.fit hA.rc.top
  have f3 := Nat.le_trans hA.rw.fit hA.rw.top
  clear hA
  by_cases h1 : 1 ≤ t.base.length
  · by_cases h2 : t.base.length ≤ 400000
    · by_cases h3 : t.check.length = t.base.length
      · have z3 : ((t.check.length : Int) == (t.base.length : Int)) = true := beq_iff_eq.2 (by omega)
        by_cases h4 : t.word.length = t.base.length
        · have z4 : ((t.word.length : Int) == (t.base.length : Int)) = true := beq_iff_eq.2 (by omega)
          rw [(right_iff t).2 ⟨h1, h2, h3, h4⟩]
          go_enter Try.func6, Try.ntmps6
          go_wp2_with (fail)
          go_ret
          exact ⟨rfl, B0⟩
        · have z4 : ((t.word.length : Int) == (t.base.length : Int)) = false := beq_eq_false_iff_ne.2 (by omega)
          rw [right_no t (fun h => h4 h.2.2.2)]
          go_enter Try.func6, Try.ntmps6
          go_wp2_with (fail)
          go_ret
          exact ⟨rfl, B0⟩
      · have z3 : ((t.check.length : Int) == (t.base.length : Int)) = false := beq_eq_false_iff_ne.2 (by omega)
        rw [right_no t (fun h => h3 h.2.2.1)]
        go_enter Try.func6, Try.ntmps6
        go_wp2_with (fail)
        go_ret
        exact ⟨rfl, B0⟩
    · rw [right_no t (fun h => h2 h.2.1)]
      go_enter Try.func6, Try.ntmps6
      go_wp2_with (fail)
      go_ret
      exact ⟨rfl, B0⟩
  · rw [right_no t (fun h => h1 h.1)]
    go_enter Try.func6, Try.ntmps6
    go_wp2_with (fail)
    go_ret
    exact ⟨rfl, B0⟩
set_option maxHeartbeats 2000000 in
theorem rright_any (t : Tr) : RtIs 7 t (right t) := by
  intro p w hA
  have B0 := below_alloc w (.cells (tv t p) 24)
  have b0 := box_new w t p
  have k0 := b0.c0
  have k1 := b0.c1
  have k2 := b0.c2
  have f1 := Nat.le_trans hA.rb.fit hA.rb.top
  have f2 := Nat.le_trans hA.rc.fit hA.rc.top
  have f3 := Nat.le_trans hA.rw.fit hA.rw.top
  clear hA
  by_cases h1 : 1 ≤ t.base.length
  · by_cases h2 : t.base.length ≤ 400000
    · by_cases h3 : t.check.length = t.base.length
      · have z3 : ((t.check.length : Int) == (t.base.length : Int)) = true := beq_iff_eq.2 (by omega)
        by_cases h4 : t.word.length = t.base.length
        · have z4 : ((t.word.length : Int) == (t.base.length : Int)) = true := beq_iff_eq.2 (by omega)
          rw [(right_iff t).2 ⟨h1, h2, h3, h4⟩]
          go_enter Try.func7, Try.ntmps7
          go_wp2_with (fail)
          go_ret
          exact ⟨rfl, B0⟩
        · have z4 : ((t.word.length : Int) == (t.base.length : Int)) = false := beq_eq_false_iff_ne.2 (by omega)
          rw [right_no t (fun h => h4 h.2.2.2)]
          go_enter Try.func7, Try.ntmps7
          go_wp2_with (fail)
          go_ret
          exact ⟨rfl, B0⟩
      · have z3 : ((t.check.length : Int) == (t.base.length : Int)) = false := beq_eq_false_iff_ne.2 (by omega)
        rw [right_no t (fun h => h3 h.2.2.1)]
        go_enter Try.func7, Try.ntmps7
        go_wp2_with (fail)
        go_ret
        exact ⟨rfl, B0⟩
    · rw [right_no t (fun h => h2 h.2.1)]
      go_enter Try.func7, Try.ntmps7
      go_wp2_with (fail)
      go_ret
      exact ⟨rfl, B0⟩
  · rw [right_no t (fun h => h1 h.1)]
    go_enter Try.func7, Try.ntmps7
    go_wp2_with (fail)
    go_ret
    exact ⟨rfl, B0⟩

theorem place_any (x : Int) (hx : -400000 ≤ x ∧ x ≤ 400000) (b : Nat) (hb : b < 256) (w : World) : Calls Try.prog 38 #[.int .i64 x, .int .u8 (b : Int)] w fun e w' => e = .returned (.int .i64 (x + b + 1)) ∧ w' = w := by
  go_enter Try.func38, Try.ntmps38
  go_wp2_with (fail)
  go_ret
  exact ⟨by first | rfl | (congr 2; go_num) | (congr 2; omega), rfl⟩
def FrIs (t : Tr) (q b : Nat) (r : Int) : Prop := ∀ p w, TAt (In w) w t p → Calls Try.prog 26 #[.agg (tv t p), .int .i64 (q : Int), .int .u8 (b : Int)] w fun e w' => e = .returned (.tuple #[.int .i64 (if 0 ≤ r then r else 0), .bool (decide (0 ≤ r))]) ∧ Below w.heap.size w w'
set_option maxHeartbeats 4000000 in
theorem from_any (t : Tr) (hr : right t = true) (q : Nat) (hq : q < t.base.length) (b : Nat) (hb : b < 256) : FrIs t q b (fro t q b) := by
  rintro ⟨bo, bc, co, cc, wo, wc⟩ w hA
  obtain ⟨g1, g2, g3, g4⟩ := (right_iff t).1 hr
  have B0 := below_alloc w (.cells (tv t ⟨bo, bc, co, cc, wo, wc⟩) 24)
  have b0 := box_new w t ⟨bo, bc, co, cc, wo, wc⟩
  have hA1 := hA.later B0
  have k0 := b0.c0
  have k1 := b0.c1
  have f1 := hA.rb.fit
  have f2 := hA.rb.top
  have f3 := hA.rc.fit
  have f4 := hA.rc.top
  obtain ⟨bb, off, ho, hbb, hc⟩ := hA1.rb.at hq
  have hi := getD_I64 hA.db q
  obtain rfl : bo = _ := ho
  have HA1 : Hid (TAt (In (w.alloc (.cells (tv t ⟨some ⟨bb, off, none⟩, bc, co, cc, wo, wc⟩) 24))) (w.alloc (.cells (tv t ⟨some ⟨bb, off, none⟩, bc, co, cc, wo, wc⟩) 24)) t ⟨some ⟨bb, off, none⟩, bc, co, cc, wo, wc⟩) := hA1
  have HDC : Hid (∀ i, I64 (t.check.getD i 0)) := fun i => getD_I64 hA.dc i
  clear hA hA1
  have HF : Hid (fro t q b = if t.base.getD q 0 < -400000 ∨ 400000 < t.base.getD q 0 then -1
    else if t.base.getD q 0 + b + 1 ≤ 0 ∨ (t.check.length : Int) ≤ t.base.getD q 0 + b + 1 ∨ t.check.getD (t.base.getD q 0 + b + 1).toNat 0 ≠ q then -1 else t.base.getD q 0 + b + 1) := rfl
  generalize fro t q b = r at *
  generalize t.base.getD q 0 = x at *
  unfold I64 at hi
  by_cases h1 : x < -400000
  · have er : r = -1 := by rw [HF.out, if_pos (.inl h1)]
    subst er
    clear HF HA1 HDC
    go_enter Try.func26, Try.ntmps26
    go_wp2_with (fail)
    go_ret2
    exact ⟨rfl, B0⟩
  · by_cases h2 : 400000 < x
    · have er : r = -1 := by rw [HF.out, if_pos (.inr h2)]
      subst er
      clear HF HA1 HDC
      go_enter Try.func26, Try.ntmps26
      go_wp2_with (fail)
      go_ret2
      exact ⟨rfl, B0⟩
    · have c38 := fun w => place_any x (by omega) b hb w
      have HF2 : Hid (r = if x + b + 1 ≤ 0 ∨ (t.check.length : Int) ≤ x + b + 1 ∨ t.check.getD (x + b + 1).toNat 0 ≠ q then -1 else x + b + 1) := by show _ = _; rw [HF.out, if_neg (by omega)]
      clear HF
      by_cases h3 : x + b + 1 ≤ 0
      · have er : r = -1 := by rw [HF2.out, if_pos (.inl h3)]
        subst er
        clear HF2 HA1 HDC
        generalize x + b + 1 = y at *
        go_enter Try.func26, Try.ntmps26
        go_wp2_with (go_at_call 38; refine (c38 _).mono ?_; rintro e w1 ⟨rfl, h⟩; obtain rfl := h.symm)
        go_ret2
        exact ⟨rfl, B0⟩
      · obtain ⟨y, hy⟩ : ∃ y : Nat, x + b + 1 = (y : Int) := ⟨(x + b + 1).toNat, by omega⟩
        have hyt : (x + b + 1).toNat = y := by omega
        rw [hy, Int.toNat_natCast] at HF2
        rw [hy] at c38 h3
        by_cases h4 : t.check.length ≤ y
        · have er : r = -1 := by rw [HF2.out, if_pos (.inr (.inl (by omega)))]
          subst er
          clear HF2 HA1 HDC hyt hy
          go_enter Try.func26, Try.ntmps26
          go_wp2_with (go_at_call 38; refine (c38 _).mono ?_; rintro e w1 ⟨rfl, h⟩; obtain rfl := h.symm)
          go_ret2
          exact ⟨rfl, B0⟩
        · have hyc : y < t.check.length := by omega
          obtain ⟨b2, off2, ho2, hb2, hc2⟩ := HA1.out.rc.at hyc
          have hi2 := HDC.out y
          have HF3 : Hid (r = if t.check.getD y 0 ≠ q then -1 else (y : Int)) := by
            show _ = _
            rw [HF2.out]
            by_cases h5 : t.check.getD y 0 = q
            · rw [if_neg (by omega), if_neg (by omega)]
            · rw [if_pos (by omega), if_pos h5]
          obtain rfl : co = _ := ho2
          generalize t.check.getD y 0 = z at *
          unfold I64 at hi2
          clear HF2 HDC HA1 hyt hy
          by_cases h5 : z = q
          · have er : r = (y : Int) := by rw [HF3.out, if_neg (by simp [h5])]
            subst er
            have z5 : (z != (q : Int)) = false := by simp [h5]
            clear HF3 h5
            go_enter Try.func26, Try.ntmps26
            go_wp2_with (go_at_call 38; refine (c38 _).mono ?_; rintro e w1 ⟨rfl, h⟩; obtain rfl := h.symm)
            go_ret2
            exact ⟨rfl, B0⟩
          · have er : r = -1 := by rw [HF3.out, if_pos h5]
            subst er
            have z5 : (z != (q : Int)) = true := by simp [h5]
            clear HF3
            go_enter Try.func26, Try.ntmps26
            go_wp2_with (go_at_call 38; refine (c38 _).mono ?_; rintro e w1 ⟨rfl, h⟩; obtain rfl := h.symm)
            go_ret2
            exact ⟨rfl, B0⟩
theorem short_any (s : ByteArray) (n : Nat) (hs : s.size ≤ 140737488351232) (hn : n ≤ 1000000) : ∃ s' : ByteArray, s'.size ≤ n ∧ ∀ w, Calls Try.prog 8 #[.string s, .int .i64 (n : Int)] w fun e w' => e = .returned (.string s') ∧ w' = w := by
  by_cases h : n < s.size
  · refine ⟨s.extract 0 n, by simp [ByteArray.size_extract]; omega, fun w => ?_⟩
    go_enter Try.func8, Try.ntmps8
    go_wp2_with (fail)
    go_ret
    exact ⟨rfl, rfl⟩
  · refine ⟨s, by omega, fun w => ?_⟩
    go_enter Try.func8, Try.ntmps8
    go_wp2_with (fail)
    go_ret
    exact ⟨rfl, rfl⟩
end Go.Proofs.Ytbappfbojehkeaa.ti
