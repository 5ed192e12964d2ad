/-
  Contracts over this program: strings.Join, with nothing between.
-/
import Derived.Test.YtpagemlneolecaaWc
namespace Go.Proofs.Ytpagemlneolecaa.pc
open Go.ChangeShapes Go.WideShapes Go.ChangeAt Go.RowKit Go.Shelf
open df (Dfa Row In)
set_option linter.unusedVariables false

def bytesOf (l : List ByteArray) : List UInt8 := (l.map (·.data.toList)).flatten
theorem cat_bytes : ∀ l, cat l = ⟨(bytesOf l).toArray⟩
  | [] => rfl
  | x :: l => by
    rw [cat, cat_bytes l]
    apply ByteArray.ext
    simp [bytesOf]
def total (l : List ByteArray) : Nat := (l.map ByteArray.size).sum
theorem bytes_len : ∀ l, (bytesOf l).length = total l
  | [] => rfl
  | x :: l => by
    have := bytes_len l
    simp [bytesOf, total] at this ⊢
    omega
theorem total_take {l : List ByteArray} {i : Nat} (h : i < l.length) : total (l.take (i + 1)) = total (l.take i) + l[i].size := by
  unfold total
  rw [List.take_add_one, List.getElem?_eq_getElem h, Option.toList_some, List.map_append, List.sum_append]
  congr 1
theorem total_le (l : List ByteArray) : ∀ i, total (l.take i) ≤ total l := by
  intro i
  have : total l = total (l.take i) + total (l.drop i) := by
    unfold total
    rw [← List.sum_append, ← List.map_append, List.take_append_drop]
  omega
theorem bytes_take {l : List ByteArray} {i : Nat} (h : i < l.length) : bytesOf (l.take (i + 1)) = bytesOf (l.take i) ++ l[i].data.toList := by
  unfold bytesOf
  rw [List.take_add_one, List.getElem?_eq_getElem h, Option.toList_some, List.map_append, List.flatten_append]
  congr 1
  simp
theorem row_cells {w : World} {o : Option Addr} {cap : Nat} {l : List ByteArray} (h : Row (In w) w Value.string o cap l) (h1 : 0 < l.length) : ∃ b off, o = some ⟨b, off, none⟩ ∧ b < w.heap.size ∧ ∀ i (hi : i < l.length), w.cell? ⟨b, off + i, none⟩ = some (.string l[i]) := by
  obtain ⟨b, off, rfl, hb, _⟩ := h.lie 0 h1
  refine ⟨b, off, rfl, hb, fun i hi => ?_⟩
  obtain ⟨b', off', e, _, hc⟩ := h.lie i hi
  cases e
  exact hc
def JoinIs (l : List ByteArray) : Prop := ∀ v w, StrsV w v l → Calls Try.prog 17 #[v, .string ⟨#[]⟩] w fun e w' => e = .returned (.string (cat l)) ∧ Below w.heap.size w w'
set_option maxHeartbeats 1000000 in
set_option maxRecDepth 100000 in
theorem join_none : JoinIs [] := by
  intro v w h
  obtain ⟨o, cap, rfl, h⟩ := h
  go_enter Try.func17, Try.ntmps17
  go_wp2_with (fail)
  go_ret
  exact ⟨rfl, Below.refl _ _⟩
set_option maxHeartbeats 1000000 in
set_option maxRecDepth 100000 in
theorem join_one (x : ByteArray) : JoinIs [x] := by
  intro v w h
  obtain ⟨o, cap, rfl, h⟩ := h
  obtain ⟨b, off, rfl, hb, hc⟩ := row_cells h (by simp)
  have f1 := h.fit
  have f2 := h.top
  have k0 : w.cell? ⟨b, off, none⟩ = some (.string x) := hc 0 (by simp)
  have e : cat [x] = x := by simp [cat]
  rw [e]
  clear h hc e
  go_enter Try.func17, Try.ntmps17
  go_wp2_with (fail)
  go_ret
  exact ⟨rfl, Below.refl _ _⟩
set_option maxHeartbeats 4000000 in
set_option maxRecDepth 100000 in
theorem join_many (l : List ByteArray) (h2 : 2 ≤ l.length) (hl : l.length ≤ 1000000) (ht : total l ≤ 1000000) (h1 : 1 ≤ total l) : JoinIs l := by
  intro v w h
  obtain ⟨o, cap, rfl, h⟩ := h
  have f1 := h.fit
  have f2 := h.top
  obtain ⟨b, off, rfl, hb, hc0⟩ := row_cells h (by omega)
  have HC := (show Hid (∀ W, Below w.heap.size w W → ∀ i (hi : i < l.length), W.cell? ⟨b, off + i, none⟩ = some (.string l[i])) from fun W hW i hi => (hW.cell (p := ⟨b, off + i, none⟩) hb).trans (hc0 i hi))
  have HTl := (show Hid (∀ i, total (l.take i) ≤ total l) from total_le l)
  clear h hc0
  have q0 : ((l.length : Int) == 0) = false := beq_eq_false_iff_ne.2 (by omega)
  have q1 : ((l.length : Int) == 1) = false := beq_eq_false_iff_ne.2 (by omega)
  go_enter Try.func17, Try.ntmps17
  go_wp2_with (fail)
  go_loopw [5, 41] (fun n y wr => ∃ i : Nat, y = .int .i64 (i : Int) ∧ i ≤ l.length ∧ n = .int .i64 ((total (l.take i) : Nat) : Int) ∧ Below w.heap.size w wr) (fun _ y _ => l.length - (intOf y).toNat)
  case atStart => exact ⟨0, rfl, by omega, rfl, Below.refl _ _⟩
  case round =>
    obtain ⟨i, rfl, hil, rfl, hB⟩ := hrel
    have ht1 := HTl.out i
    by_cases hend : i < l.length
    · have k1 := HC.out wr hB i hend
      have ht2 := HTl.out (i + 1)
      rw [total_take hend] at ht2
      have HS := (show Hid (total (l.take (i + 1)) = total (l.take i) + l[i].size) from total_take hend)
      generalize l[i] = x at *
      generalize hz : total (l.take i) = z at *
      clear hz
      go_wp2_with (fail)
      go_roundw
      case rel => exact ⟨i + 1, by go_num, by omega, by rw [HS.out]; go_num, hB⟩
      case measure => simp [intOf]; omega
    · have e : i = l.length := by omega
      subst e
      rw [List.take_length] at ht1 ⊢
      obtain ⟨w1, rfl⟩ : ∃ w1, w1 = wr := ⟨_, rfl⟩
      have g0 := bld.grow_any w1.heap.size (total l) (w1.alloc (.cells #[.pointer none, .slice none 0 0] 82)) (heap_alloc_new w1 _) h1 (by omega)
      have hx0 : l[0].size ≤ 1000000 := by have := HTl.out 1; rw [total_take (by omega)] at this; simp at this; omega
      have hW := bld.write_any w1.heap.size w1.heap.size [] l[0] (by simp; omega)
      have HB1 := (show Hid (∀ W, Below w1.heap.size (w1.alloc (.cells #[.pointer none, .slice none 0 0] 82)) W → Below w.heap.size w W ∧ w1.heap.size ≤ W.heap.size) from fun W k => ⟨df.chain hB (((Below.refl _ w1).alloc (Nat.le_refl _) _).trans k), by have := k.size; simp at this; omega⟩)
      have HX0 := (show Hid (bytesOf (l.take 1) = [] ++ l[0].data.toList) from by show _ = _; rw [bytes_take (by omega)]; rfl)
      have HC0 := (show Hid (∀ W, Below w.heap.size w W → W.cell? ⟨b, off, none⟩ = some (.string l[0])) from fun W hW => HC.out W hW 0 (by omega))
      generalize l[0] = x0 at *
      clear hend ht1 hil
      go_wp2_with (first | (go_at_call 32; refine g0.mono ?_; rintro e w2 ⟨rfl, hI2, k2⟩; have hb2 := HB1.out w2 k2; have k0 := HC0.out w2 hb2.1; have hW := hW w2 hI2 hb2.2) | (go_at_call 33; refine hW.mono ?_; rintro e w3 ⟨rfl, hI3, k3, _⟩))
      have hI3' : Lib.IsBuilderF 82 5 w1.heap.size w1.heap.size (Lib.byteCells (bytesOf (l.take 1))) w3 := by rw [HX0.out]; exact hI3
      have k3' : Below w1.heap.size (w1.alloc (.cells #[.pointer none, .slice none 0 0] 82)) w3 := k2.trans k3
      clear g0 hW hI2 k2 hb2 k0 hI3 k3 HX0 HC0
      go_loopw [65] (fun y wr => ∃ j : Nat, y = .int .i64 (j : Int) ∧ j + 1 ≤ l.length ∧ Lib.IsBuilderF 82 5 w1.heap.size w1.heap.size (Lib.byteCells (bytesOf (l.take (j + 1)))) wr ∧ Below w1.heap.size (w1.alloc (.cells #[.pointer none, .slice none 0 0] 82)) wr) (fun y _ => l.length - (intOf y).toNat)
      case atStart => exact ⟨0, rfl, by omega, hI3', k3'⟩
      case round =>
        obtain ⟨j, rfl, hjl, hI, hk⟩ := hrel
        have hbW := HB1.out wr hk
        have htj := HTl.out (j + 1)
        by_cases hend : j + 1 < l.length
        · have k1 : wr.cell? ⟨b, off + 1 + j, none⟩ = some (.string l[j + 1]) := by
            have := HC.out wr hbW.1 (j + 1) hend
            rwa [show off + (j + 1) = off + 1 + j by omega] at this
          have ht2 := HTl.out (j + 1 + 1)
          rw [total_take hend] at ht2
          have HS := (show Hid (bytesOf (l.take (j + 1 + 1)) = bytesOf (l.take (j + 1)) ++ l[j + 1].data.toList) from bytes_take hend)
          have hlen := bytes_len (l.take (j + 1))
          have c1 := bld.write_any w1.heap.size w1.heap.size (bytesOf (l.take (j + 1))) ⟨#[]⟩ (by show (bytesOf (l.take (j + 1))).length + 0 ≤ _; omega) wr hI hbW.2
          have c2 := bld.write_any w1.heap.size w1.heap.size (bytesOf (l.take (j + 1))) l[j + 1] (by omega)
          rw [show bytesOf (l.take (j + 1)) ++ (⟨#[]⟩ : ByteArray).data.toList = bytesOf (l.take (j + 1)) from List.append_nil _] at c1
          unfold bld.WriteIs at c2
          rw [← HS.out] at c2
          clear HS hI hlen
          generalize l[j + 1] = x at *
          go_wp2_with (first | (go_at_call 33; refine c1.mono ?_; rintro e w4 ⟨rfl, hI4, k4, _⟩; clear c1; have c3 := c2 w4 hI4 (by have := hbW.2; have := k4.size; omega); clear c2) | (go_at_call 33; refine c3.mono ?_; rintro e w5 ⟨rfl, hI5, k5, _⟩))
          go_roundw
          case rel => exact ⟨j + 1, by go_num, by omega, hI5, hk.trans (k4.trans k5)⟩
          case measure => simp [intOf]; omega
        · have e : j + 1 = l.length := by omega
          rw [e, List.take_length] at hI
          have c1 := bld.string_any w1.heap.size w1.heap.size (bytesOf l) wr hI hbW.2
          clear hI
          have hj : (j : Int) = ((l.length - 1 : Nat) : Int) := by omega
          have HE := (show Hid (cat l = ⟨(bytesOf l).toArray⟩) from cat_bytes l)
          go_wp2_with (go_at_call 34; refine c1.mono ?_; rintro e w4 ⟨rfl, hI4, k4⟩)
          go_ret
          exact ⟨by rw [HE.out]; rfl, hbW.1.trans (k4.mono hB.size)⟩
end Go.Proofs.Ytpagemlneolecaa.pc
