/-
  Contracts over this program: slices.Index and slices.Contains of texts, rightNames, rightFrame, the document's frame.
-/
import Derived.Test.YthmecbonjkcnmaaKCa
import Derived.Test.YthmecbonjkcnmaaKMb
import Derived.Test.YthmecbonjkcnmaaKUb
namespace Go.Proofs.Ythmecbonjkcnmaa.cf
open Go.ChangeShapes Go.WideShapes Go.ChangeAt Go.RowKit
open mg (Row RowV IntsV StrsV In chain below_alloc)
set_option linter.unusedVariables false

theorem str_eq (a b : ByteArray) : (a.toList == b.toList) = decide (a = b) := by
  by_cases h : a = b
  · subst h; simp
  · rw [decide_eq_false h, beq_eq_false_iff_ne]
    intro e
    apply h
    rw [ByteArray.toList_eq, ByteArray.toList_eq] at e
    cases a; cases b; congr; exact Array.toList_inj.1 e
def InL (x : ByteArray) (l : List ByteArray) : Prop := ∃ j, j < l.length ∧ nthB l j = x
theorem inL_iff {x : ByteArray} {l : List ByteArray} : InL x l ↔ x ∈ l := by
  constructor
  · rintro ⟨j, hj, rfl⟩
    rw [nthB_eq l j hj]
    exact List.getElem_mem hj
  · intro h
    obtain ⟨j, hj, e⟩ := List.mem_iff_getElem.1 h
    exact ⟨j, hj, by rw [nthB_eq l j hj]; exact e⟩
theorem strs_at {w : World} {o : Option Addr} {cap : Nat} {l : List ByteArray} (h : Row (In w) w Value.string o cap l) (i : Nat) (hi : i < l.length) : ∃ b off, o = some ⟨b, off, none⟩ ∧ b < w.heap.size ∧ w.cell? ⟨b, off + i, none⟩ = some (.string (nthB l i)) := by
  obtain ⟨b, off, e, hb, hc⟩ := h.lie i hi
  exact ⟨b, off, e, hb, by rw [nthB_eq l i hi]; exact hc⟩
def nthI (l : List Int) (i : Nat) : Int := l.getD i 0
theorem nthI_eq (l : List Int) (i : Nat) (h : i < l.length) : nthI l i = l[i] := by simp [nthI, List.getD_eq_getElem?_getD, h]
theorem ints_at {w : World} {o : Option Addr} {cap : Nat} {l : List Int} (h : Row (In w) w mg.iv o cap l) (i : Nat) (hi : i < l.length) : ∃ b off, o = some ⟨b, off, none⟩ ∧ b < w.heap.size ∧ w.cell? ⟨b, off + i, none⟩ = some (.int .i64 (nthI l i)) := by
  obtain ⟨b, off, e, hb, hc⟩ := h.lie i hi
  exact ⟨b, off, e, hb, by rw [nthI_eq l i hi]; exact hc⟩

set_option maxHeartbeats 1000000 in
set_option maxRecDepth 100000 in
theorem idx_any (x : ByteArray) (l : List ByteArray) (v : Value) (w : World) (hv : StrsV w v l) : Calls Try.prog 47 #[v, .string x] w fun e w' => ∃ n : Int, e = .returned (.int .i64 n) ∧ (0 ≤ n ↔ x ∈ l) ∧ Below w.heap.size w w' := by
  obtain ⟨o, cap, rfl, hr⟩ := hv
  have f1 := hr.fit
  have f2 := hr.top
  have HR := (show Hid (Row (In w) w Value.string o cap l) from hr)
  clear hr
  go_enter Try.func47, Try.ntmps47
  go_wp2_with (fail)
  go_loopw [8] (fun y wr => ∃ i : Nat, y = .int .i64 i ∧ i ≤ l.length ∧ Below w.heap.size w wr ∧ Hid (∀ j, j < i → nthB l j ≠ x)) (fun y _ => l.length - (intOf y).toNat)
  case atStart => exact ⟨0, rfl, by omega, Below.refl _ _, fun j hj => by omega⟩
  case round =>
    obtain ⟨i, rfl, hil, hB, HN⟩ := hrel
    by_cases hend : i < l.length
    · obtain ⟨b, off, rfl, hb, hc⟩ := strs_at HR.out i hend
      have k1 := (hB.cell (p := ⟨b, off + i, none⟩) hb).trans hc
      have HIN := (show Hid (nthB l i = x → x ∈ l) from fun e => inL_iff.1 ⟨i, hend, e⟩)
      have HNX := (show Hid (nthB l i ≠ x → ∀ j, j < i + 1 → nthB l j ≠ x) from fun h j hj => by
        by_cases e : j = i
        · rw [e]; exact h
        · exact HN.out j (by omega))
      have hq := str_eq x (nthB l i)
      clear hc HN HR
      generalize nthB l i = q at *
      by_cases he : x = q
      · have HI := (show Hid (x ∈ l) from HIN.out he.symm)
        rw [decide_eq_true he] at hq
        clear he HIN HNX
        go_wp2_with (fail)
        go_ret
        exact ⟨_, rfl, ⟨fun _ => HI.out, fun _ => by omega⟩, hB⟩
      · have HI := (show Hid _ from HNX.out (Ne.symm he))
        rw [decide_eq_false he] at hq
        clear he HIN HNX
        go_wp2_with (fail)
        go_roundw
        case rel => exact ⟨i + 1, by go_num, by omega, hB, HI.out⟩
        case measure => simp [intOf]; omega
    · have HI := (show Hid (x ∉ l) from fun h => by
        obtain ⟨j, hj, e⟩ := inL_iff.2 h
        exact HN.out j (by omega) e)
      go_wp2_with (fail)
      go_ret
      exact ⟨_, rfl, ⟨fun h => by omega, fun h => absurd h HI.out⟩, hB⟩
open Classical in
theorem has_any (x : ByteArray) (l : List ByteArray) (v : Value) (w : World) (r : Bool) (hr : r = true ↔ x ∈ l) (hv : StrsV w v l) : Calls Try.prog 38 #[v, .string x] w fun e w' => e = .returned (.bool r) ∧ Below w.heap.size w w' := by
  have c := idx_any x l v w hv
  obtain ⟨o, cap, rfl, hr2⟩ := hv
  clear hr2
  go_enter Try.func38, Try.ntmps38
  go_wp2_with (go_at_call 47; refine c.mono ?_; rintro e w2 ⟨n, rfl, hn, b2⟩; have hq : decide (0 ≤ n) = r := (by rw [Bool.eq_iff_iff, decide_eq_true_iff, hn, hr]); clear hn)
  go_ret
  exact ⟨rfl, b2⟩
end Go.Proofs.Ythmecbonjkcnmaa.cf
