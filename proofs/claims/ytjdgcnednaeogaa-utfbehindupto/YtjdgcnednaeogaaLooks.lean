/-
  Contracts of how a text is looked through (utf.Valid, utf.Count, the document's Valid and Count), over this program.
-/
import Derived.Test.YtjdgcnednaeogaaRefNext
namespace Go.Proofs.Ytjdgcnednaeogaa.chars
open Go.ChangeShapes Go.WideShapes Go.ChangeAt Go.RowKit
set_option linter.unusedVariables false

def NextIs (s : ByteArray) (i c n : Nat) (b : Bool) : Prop := ∀ w, Calls Try.prog 9 #[.string s, .int .i64 i] w fun e w' => e = .returned (.tuple #[.int .i64 c, .int .i64 n, .bool b]) ∧ Below w.heap.size w w'
def RNextIs (s : ByteArray) (i c n : Nat) (b : Bool) : Prop := ∀ w, Calls Try.prog 10 #[.string s, .int .i64 i] w fun e w' => e = .returned (.tuple #[.int .i64 c, .int .i64 n, .bool b]) ∧ Below w.heap.size w w'

/-- what stands at a place, and what that means for the rest -/
theorem place (s : ByteArray) (i : Nat) (hs : s.size ≤ 140737488351232) (h : i < s.size) : ∃ c n : Nat,
    Utf8.decode s i = (c, n) ∧ 1 ≤ n ∧ n ≤ 4 ∧ i + n ≤ s.size ∧ c ≤ 1114111 ∧ NextIs s i c n (!badB (c, n)) ∧ RNextIs s i c n (!badB (c, n)) ∧
    isC (c : Int) = true ∧
    fix (s.data.toList.drop i) = enc c ++ fix (s.data.toList.drop (i + n)) ∧ count (s.data.toList.drop i) = count (s.data.toList.drop (i + n)) + 1 ∧
    valid (s.data.toList.drop i) = (!badB (c, n) && valid (s.data.toList.drop (i + n))) := by
  have hdl : (s.data.toList.drop i).length = s.size - i := by simp
  have hne : s.data.toList.drop i ≠ [] := by
    intro e
    rw [e] at hdl
    simp at hdl
    omega
  have hw := dec_width _ hne
  have hc := dec_isC _ hne
  have hf := fix_step _ hne
  have hn := count_step _ hne
  have hv := valid_step _ hne
  have h9 := fun w => next_any s i w hs h
  have h10 := fun w => rnext_any s i w hs h
  have hd := decode_eq s i
  rw [List.drop_drop] at hf hn hv
  generalize dec (s.data.toList.drop i) = p at *
  obtain ⟨c, n⟩ := p
  exact ⟨c, n, hd, hw.1, hw.2.1, by simp only [] at hw; omega, by have := isC_bd c hc; omega, h9, h10, hc, hf, hn, hv⟩

theorem drop_end (s : ByteArray) (i : Nat) (h : ¬ i < s.size) : s.data.toList.drop i = [] := List.drop_eq_nil_of_le (by simp; omega)

set_option maxHeartbeats 1000000 in
theorem valid_any (s : ByteArray) (w : World) (hs : s.size ≤ 140737488351232) :
    Calls Try.prog 11 #[.string s] w fun e w' => e = .returned (.bool (valid s.data.toList)) ∧ Below w.heap.size w w' := by
  go_enter Try.func11, Try.ntmps11
  go_wp2
  go_loopw [] (fun wr => ∃ pos : Nat, wr.heap[w.heap.size]? = some (.stringIter s pos) ∧ Below w.heap.size w wr ∧ Hid (valid s.data.toList = valid (s.data.toList.drop pos))) (fun wr => s.size - wr.iterPos w.heap.size)
  case atStart => exact ⟨0, World.iter_heap w s 0, below_iter _ _ _, rfl⟩
  case round =>
    obtain ⟨pos, hit, hB, HV⟩ := hrel
    have hsz : w.heap.size < wr.heap.size := (Array.getElem?_eq_some_iff.1 hit).1
    by_cases hp : pos < s.size
    · obtain ⟨c, n, hd, hn1, hn4, hend, hc, h9, h10, hisC, hf, hcnt, hv⟩ := place s pos hs hp
      have hnx : ∀ ty, (Instr.next (.pointer (some ⟨w.heap.size, 0, none⟩)) true ty).run Try.prog wr = _ := fun ty => Lib.run_next_any_at wr w.heap.size s pos ty hit hp
      rw [hd] at hnx
      simp only [] at hnx
      have hit2 := Lib.iterAt_heap wr w.heap.size s pos (pos + n) hit
      have hB2 := Lib.below_iterAt hB (k := w.heap.size) (Nat.le_refl _) s (pos + n)
      have hz2 := Lib.iterAt_size wr w.heap.size s (pos + n)
      have HZ2 : Hid ((wr.iterAt w.heap.size s (pos + n)).heap.size = wr.heap.size) := hz2
      have HV2 : Hid (valid (s.data.toList.drop pos) = (!badB (c, n) && valid (s.data.toList.drop (pos + n)))) := hv
      clear hf hcnt hv h10 hd hisC hz2
      by_cases h1 : c = 65533
      · subst h1
        by_cases h2 : n = 1
        · subst h2
          have HE : Hid (valid s.data.toList = false) := by show valid _ = _; rw [HV.out, HV2.out]; rfl
          have hb : badB (65533, 1) = true := rfl
          rw [hb] at h9
          clear hb HV2
          go_wp2_with (go_at_call 9; refine (h9 _).mono ?_; rintro e w1 ⟨rfl, b1⟩)
          go_ret
          exact ⟨by rw [HE.out]; rfl, hB2.trans (b1.mono (by rw [HZ2.out]; omega))⟩
        · have hb : badB (65533, n) = false := by unfold badB; rw [decide_eq_false_iff_not]; omega
          have HE : Hid (valid s.data.toList = valid (s.data.toList.drop (pos + n))) := by show valid _ = _; rw [HV.out, HV2.out, hb]; rfl
          rw [hb] at h9
          clear hb HV2
          go_wp2_with (go_at_call 9; refine (h9 _).mono ?_; rintro e w1 ⟨rfl, b1⟩)
          have hit3 : w1.heap[w.heap.size]? = some (.stringIter s (pos + n)) := (b1.block _ (by rw [HZ2.out]; omega)).trans hit2
          go_roundw
          case rel => exact ⟨pos + n, hit3, hB2.trans (b1.mono (by rw [HZ2.out]; omega)), HE⟩
          case measure => simp only [World.iterPos, hit3, hit]; omega
      · have hb : badB (c, n) = false := by unfold badB; rw [decide_eq_false_iff_not]; omega
        have HE : Hid (valid s.data.toList = valid (s.data.toList.drop (pos + n))) := by show valid _ = _; rw [HV.out, HV2.out, hb]; rfl
        have hcb : ((c : Int) != 65533) = true := by rw [bne_iff_ne]; omega
        clear HV2 h9 hb
        go_wp2
        go_roundw
        case rel => exact ⟨pos + n, hit2, hB2, HE⟩
        case measure => simp only [World.iterPos, hit2, hit]; omega
    · have hnx : ∀ ty, (Instr.next (.pointer (some ⟨w.heap.size, 0, none⟩)) true ty).run Try.prog wr = _ := fun ty => Lib.run_next_end_at wr w.heap.size s pos ty hit hp
      have HE : Hid (valid s.data.toList = true) := by show valid _ = _; rw [HV.out, drop_end s pos hp]; rfl
      go_wp2
      go_ret
      exact ⟨by rw [HE.out]; rfl, hB⟩

set_option maxHeartbeats 1000000 in
theorem count_any (s : ByteArray) (w : World) (hs : s.size ≤ 140737488351232) :
    Calls Try.prog 13 #[.string s] w fun e w' => e = .returned (.int .i64 (count s.data.toList)) ∧ Below w.heap.size w w' := by
  go_enter Try.func13, Try.ntmps13
  go_wp2
  go_loopw [3] (fun v wr => ∃ pos m : Nat, wr = w.iter s pos ∧ v = .int .i64 m ∧ m ≤ pos ∧ pos ≤ s.size ∧ Hid (count s.data.toList = count (s.data.toList.drop pos) + m)) (fun _ wr => s.size - wr.iterPos w.heap.size)
  case atStart => exact ⟨0, 0, rfl, rfl, by omega, by omega, rfl⟩
  case round =>
    obtain ⟨pos, m, rfl, rfl, hm, hps, HV⟩ := hrel
    by_cases hp : pos < s.size
    · obtain ⟨c, n, hd, hn1, hn4, hend, hc, h9, h10, hisC, hf, hcnt, hv⟩ := place s pos hs hp
      have hnx := fun ty => run_next_any (P := Try.prog) w s pos ty hp
      rw [hd] at hnx
      simp only [] at hnx
      have HE : Hid (count s.data.toList = count (s.data.toList.drop (pos + n)) + (m + 1)) := by show count _ = _; rw [HV.out, hcnt]; omega
      clear hf hcnt hv h10 hd hisC h9
      go_wp2
      go_roundw
      case rel => exact ⟨pos + n, m + 1, by simp, by go_num, by omega, by omega, HE⟩
      case measure => simp; omega
    · have hnx := fun ty => run_next_end (P := Try.prog) w s pos ty hp
      have HE : Hid (count s.data.toList = m) := by show count _ = _; rw [HV.out, drop_end s pos hp, count_nil]; omega
      go_wp2
      go_ret
      exact ⟨by rw [HE.out]; rfl, below_iter _ _ _⟩

set_option maxHeartbeats 1000000 in
theorem rvalid_any (s : ByteArray) (w : World) (hs : s.size ≤ 140737488351232) :
    Calls Try.prog 12 #[.string s] w fun e w' => e = .returned (.bool (valid s.data.toList)) ∧ Below w.heap.size w w' := by
  go_enter Try.func12, Try.ntmps12
  go_wp2
  go_loopw [3] (fun v wr => ∃ pos : Nat, v = .int .i64 pos ∧ pos ≤ s.size ∧ Below w.heap.size w wr ∧ Hid (valid s.data.toList = valid (s.data.toList.drop pos))) (fun v _ => s.size - (intOf v).toNat)
  case atStart => exact ⟨0, rfl, by omega, Below.refl _ _, rfl⟩
  case round =>
    obtain ⟨pos, rfl, hps, hB, HV⟩ := hrel
    by_cases hp : pos < s.size
    · obtain ⟨c, n, hd, hn1, hn4, hend, hc, h9, h10, hisC, hf, hcnt, hv⟩ := place s pos hs hp
      clear hf hcnt hd hisC h9
      by_cases hb : badB (c, n) = true
      · have HE : Hid (valid s.data.toList = false) := by show valid _ = _; rw [HV.out, hv, hb]; rfl
        rw [hb] at h10
        clear hb hv
        go_wp2_with (go_at_call 10; refine (h10 _).mono ?_; rintro e w1 ⟨rfl, b1⟩)
        go_ret
        exact ⟨by rw [HE.out]; rfl, hB.trans (b1.mono hB.size)⟩
      · have hb' : badB (c, n) = false := by simpa using hb
        have HE : Hid (valid s.data.toList = valid (s.data.toList.drop (pos + n))) := by show valid _ = _; rw [HV.out, hv, hb']; rfl
        rw [hb'] at h10
        clear hb hv hb'
        go_wp2_with (go_at_call 10; refine (h10 _).mono ?_; rintro e w1 ⟨rfl, b1⟩)
        go_roundw
        case rel => exact ⟨pos + n, by go_num, by omega, hB.trans (b1.mono hB.size), HE⟩
        case measure => simp [intOf]; omega
    · have HE : Hid (valid s.data.toList = true) := by show valid _ = _; rw [HV.out, drop_end s pos hp]; rfl
      go_wp2
      go_ret
      exact ⟨by rw [HE.out]; rfl, hB⟩

set_option maxHeartbeats 1000000 in
theorem rcount_any (s : ByteArray) (w : World) (hs : s.size ≤ 140737488351232) :
    Calls Try.prog 14 #[.string s] w fun e w' => e = .returned (.int .i64 (count s.data.toList)) ∧ Below w.heap.size w w' := by
  go_enter Try.func14, Try.ntmps14
  go_wp2
  go_loopw [3, 4] (fun u v wr => ∃ pos m : Nat, v = .int .i64 pos ∧ u = .int .i64 m ∧ m ≤ pos ∧ pos ≤ s.size ∧ Below w.heap.size w wr ∧ Hid (count s.data.toList = count (s.data.toList.drop pos) + m)) (fun _ v _ => s.size - (intOf v).toNat)
  case atStart => exact ⟨0, 0, rfl, rfl, by omega, by omega, Below.refl _ _, rfl⟩
  case round =>
    obtain ⟨pos, m, rfl, rfl, hm, hps, hB, HV⟩ := hrel
    by_cases hp : pos < s.size
    · obtain ⟨c, n, hd, hn1, hn4, hend, hc, h9, h10, hisC, hf, hcnt, hv⟩ := place s pos hs hp
      have HE : Hid (count s.data.toList = count (s.data.toList.drop (pos + n)) + (m + 1)) := by show count _ = _; rw [HV.out, hcnt]; omega
      clear hf hcnt hd hisC h9 hv
      go_wp2_with (go_at_call 10; refine (h10 _).mono ?_; rintro e w1 ⟨rfl, b1⟩)
      go_roundw
      case rel => exact ⟨pos + n, m + 1, by go_num, by go_num, by omega, by omega, hB.trans (b1.mono hB.size), HE⟩
      case measure => simp [intOf]; omega
    · have HE : Hid (count s.data.toList = m) := by show count _ = _; rw [HV.out, drop_end s pos hp, count_nil]; omega
      go_wp2
      go_ret
      exact ⟨by rw [HE.out]; rfl, hB⟩
end Go.Proofs.Ytjdgcnednaeogaa.chars
