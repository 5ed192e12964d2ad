/-
  Contracts over this program: the document's Rank.
-/
import Derived.Test.YthcekfmodmnekaaMb
namespace Go.Proofs.Ythcekfmodmnekaa.mg
open Go.ChangeShapes Go.WideShapes Go.ChangeAt Go.RowKit
set_option linter.unusedVariables false
set_option maxRecDepth 100000

def rkv (l : List Mg) (p : Mg) : Int := if p ∈ l then (l.idxOf p : Int) else -1
theorem rkv_at {l : List Mg} {p : Mg} {i : Nat} (hi : i < l.length) (he : l[i] = p) (hn : p ∉ l.take i) : rkv l p = (i : Int) := by
  have hm : p ∈ l := he ▸ List.getElem_mem hi
  unfold rkv
  rw [if_pos hm]
  congr 1
  have e : l = l.take i ++ p :: l.drop (i + 1) := by
    rw [← he, ← List.drop_eq_getElem_cons hi, List.take_append_drop]
  rw [e, List.idxOf_append, if_neg hn]
  simp
  omega
theorem rkv_no {l : List Mg} {p : Mg} (hn : p ∉ l) : rkv l p = -1 := by unfold rkv; rw [if_neg hn]

set_option maxHeartbeats 2000000 in
theorem rank_any (l : List Mg) (a b : Int) (r : Int) (hr : r = rkv l (a, b)) (v : Value) (w : World) (hv : Mgs w v l) : Calls Try.prog 42 #[v, .int .i64 a, .int .i64 b] w fun e w' => e = .returned (.int .i64 r) ∧ Below w.heap.size w w' := by
  obtain ⟨o, cap, rfl, hl, hm, hc⟩ := hv.form
  have HC := (show Hid _ from hc)
  have HR : Hid (r = rkv l (a, b)) := hr
  clear hv hc hr
  go_enter Try.func42, Try.ntmps42
  go_wp2_with (fail)
  go_loopw [11] (fun y wr => ∃ i : Nat, y = .int .i64 i ∧ i ≤ l.length ∧ Hid ((a, b) ∉ l.take i) ∧ Below w.heap.size w wr) (fun y _ => l.length - (intOf y).toNat)
  case atStart => exact ⟨0, rfl, by omega, by show _ ∉ _; simp, Below.refl _ _⟩
  case round =>
    obtain ⟨i, rfl, hil, HN, hB⟩ := hrel
    by_cases hend : i < l.length
    · obtain ⟨g, off, rfl, hlt, c1, c2⟩ := HC.out i hend
      have k1 := (hB.cell (p := ⟨g, off + i * 2, none⟩) hlt).trans c1
      have k2 := (hB.cell (p := ⟨g, off + i * 2 + 1, none⟩) hlt).trans c2
      have HE : Hid (l[i] = (a, b) → r = (i : Int)) := fun h => by rw [HR.out, rkv_at hend h HN.out]
      have HX : Hid (l[i] ≠ (a, b) → (a, b) ∉ l.take (i + 1)) := fun h h2 => by
        rw [List.take_add_one, List.getElem?_eq_getElem hend] at h2
        rcases List.mem_append.1 h2 with h3 | h3
        · exact HN.out h3
        · simp at h3; exact h h3.symm
      clear c1 c2 HN
      generalize l[i] = m at *
      obtain ⟨x, y⟩ := m
      have hBA := hB.alloc hB.size (.cells #[.int .i64 x, .int .i64 y] 62)
      by_cases h1 : x = a
      · have q1 : (x == a) = true := beq_iff_eq.2 h1
        by_cases h2 : y = b
        · have q2 : (y == b) = true := beq_iff_eq.2 h2
          have HE2 : Hid (r = (i : Int)) := HE.out (by rw [h1, h2])
          clear h1 h2 HX HE
          go_wp2_with (fail)
          go_ret
          exact ⟨by rw [HE2.out]; rfl, hBA⟩
        · have q2 : (y == b) = false := beq_eq_false_iff_ne.2 h2
          have HX2 := (show Hid _ from HX.out (fun e => h2 (congrArg Prod.snd e)))
          clear h1 h2 HX HE
          go_wp2_with (fail)
          go_roundw
          case rel => exact ⟨i + 1, by go_num, by omega, HX2.out, hBA⟩
          case measure => simp [intOf]; omega
      · have q1 : (x == a) = false := beq_eq_false_iff_ne.2 h1
        have HX2 := (show Hid _ from HX.out (fun e => h1 (congrArg Prod.fst e)))
        clear h1 HX HE
        go_wp2_with (fail)
        go_roundw
        case rel => exact ⟨i + 1, by go_num, by omega, HX2.out, hBA⟩
        case measure => simp [intOf]; omega
    · have HR2 : Hid (r = -1) := by
        show _ = _
        rw [HR.out]
        refine rkv_no ?_
        have := HN.out
        rwa [List.take_of_length_le (by omega)] at this
      go_wp2_with (fail)
      go_ret
      exact ⟨by rw [HR2.out]; rfl, hB⟩
end Go.Proofs.Ythcekfmodmnekaa.mg
