/-
  Contracts over this program: rightNames, rightFrame, the document's frame.
-/
import Derived.Test.YthmecbonjkcnmaaKCb
namespace Go.Proofs.Ythmecbonjkcnmaa.cf
open Go.ChangeShapes Go.WideShapes Go.ChangeAt Go.RowKit
open mg (Row RowV IntsV StrsV In chain below_alloc)
set_option linter.unusedVariables false

theorem empty_no (x : ByteArray) (h : 1 ≤ x.size) : x.toList.isEmpty = false := by
  rw [ru.empty_eq]; exact beq_eq_false_iff_ne.2 (by omega)
theorem empty_yes (x : ByteArray) (h : ¬ 1 ≤ x.size) : x.toList.isEmpty = true := by
  rw [ru.empty_eq]; exact beq_iff_eq.2 (by omega)
open Classical in
set_option maxHeartbeats 1000000 in
set_option maxRecDepth 100000 in
theorem names_any (l : List ByteArray) (v : Value) (w : World) (hv : StrsV w v l) : Calls Try.prog 25 #[v] w fun e w' => e = .returned (.bool (decide (NamesOk l))) ∧ Below w.heap.size w w' := by
  have HV := (show Hid (StrsV w v l) from hv)
  obtain ⟨o, cap, rfl, hr⟩ := hv
  have f1 := hr.fit
  have f2 := hr.top
  have HR := (show Hid (Row (In w) w Value.string o cap l) from hr)
  clear hr
  by_cases hlong : 64 < l.length
  · have HF := (show Hid (decide (NamesOk l) = false) from decide_eq_false fun h => by have := h.1; omega)
    rw [HF.out]
    clear HR HV
    go_enter Try.func25, Try.ntmps25
    go_wp2_with (fail)
    go_ret
    exact ⟨rfl, Below.refl _ _⟩
  · have hl : l.length ≤ 64 := by omega
    obtain ⟨r, hr⟩ : ∃ r, Hid (r = decide (NamesOk l)) := ⟨_, rfl⟩
    rw [← hr.out]
    go_enter Try.func25, Try.ntmps25
    go_wp2_with (fail)
    go_loopw [10] (fun y wr => ∃ i : Nat, y = .int .i64 i ∧ i ≤ l.length ∧ Below w.heap.size w wr ∧ Hid (Upto l i)) (fun y _ => l.length - (intOf y).toNat)
    case atStart => exact ⟨0, rfl, by omega, Below.refl _ _, upto_zero l⟩
    case round =>
      obtain ⟨i, rfl, hil, hB, HU⟩ := hrel
      by_cases hend : i < l.length
      · obtain ⟨b, off, rfl, hb, hc⟩ := strs_at HR.out i hend
        have k1 := (hB.cell (p := ⟨b, off + i, none⟩) hb).trans hc
        have HS := (show Hid (StrsV wr (.slice (some ⟨b, off, none⟩) i cap) (l.take i)) from ((HV.out.later hB).take i (by omega)).2)
        by_cases hn : NameOk (nthB l i)
        · obtain ⟨n1, n2⟩ := hn
          have HST := (show Hid (nthB l i ∉ l.take i → Upto l (i + 1)) from fun h => upto_step HU.out hend ⟨n1, n2⟩ h)
          have HTW := (show Hid (nthB l i ∈ l.take i → r = false) from fun h => by rw [hr.out]; exact decide_eq_false (upto_twice hend h))
          have e1 := empty_no _ n1
          have g2 : decide (32 < ((nthB l i).size : Int)) = false := decide_eq_false (by omega)
          clear HV HR HU hc
          generalize l.take i = pre at *
          generalize nthB l i = q at *
          by_cases hin : q ∈ pre
          · obtain rfl : r = false := HTW.out hin
            have hc2 := has_any q pre _ wr true ⟨fun _ => hin, fun _ => rfl⟩ HS.out
            clear HST HTW hin
            go_wp2_with (go_at_call 38; refine hc2.mono ?_; rintro e w2 ⟨rfl, b2⟩)
            go_ret
            exact ⟨rfl, chain hB b2⟩
          · have HI := (show Hid _ from HST.out hin)
            have hc2 := has_any q pre _ wr false ⟨fun h => (by cases h), fun h => absurd h hin⟩ HS.out
            clear HST HTW hin
            go_wp2_with (go_at_call 38; refine hc2.mono ?_; rintro e w2 ⟨rfl, b2⟩)
            go_roundw
            case rel => exact ⟨i + 1, by go_num, by omega, chain hB b2, HI.out⟩
            case measure => simp [intOf]; omega
        · obtain rfl : r = false := by rw [hr.out]; exact decide_eq_false (upto_bad hend hn)
          clear HV HR HU hc HS
          by_cases h1 : 1 ≤ (nthB l i).size
          · have e1 := empty_no _ h1
            have g2 : (32 : Int) < ((nthB l i).size : Int) := by
              have : ¬ (nthB l i).size ≤ 32 := fun h => hn ⟨h1, h⟩
              omega
            clear hn h1
            generalize nthB l i = q at *
            go_wp2_with (fail)
            go_ret
            exact ⟨rfl, hB⟩
          · have e1 := empty_yes _ h1
            clear hn h1
            generalize nthB l i = q at *
            go_wp2_with (fail)
            go_ret
            exact ⟨rfl, hB⟩
      · obtain rfl : r = true := by
          have e : i = l.length := by omega
          rw [e] at HU
          rw [hr.out]; exact decide_eq_true (upto_all hl HU.out)
        go_wp2_with (fail)
        go_ret
        exact ⟨rfl, hB⟩
theorem frame_bad {l : List Int} {n i : Nat} (hi : i < l.length) (h : ¬ (0 ≤ nthI l i ∧ nthI l i < (n : Int))) : ¬ FrameOk l n := fun k => h (k.2 _ (by rw [nthI_eq l i hi]; exact List.getElem_mem hi))
theorem frame_all {l : List Int} {n : Nat} (hl : l.length ≤ 32) (h : ∀ j, j < l.length → 0 ≤ nthI l j ∧ nthI l j < (n : Int)) : FrameOk l n := ⟨hl, fun x hx => by
  obtain ⟨j, hj, rfl⟩ := List.mem_iff_getElem.1 hx
  rw [← nthI_eq l j hj]; exact h j hj⟩
open Classical in
set_option maxHeartbeats 1000000 in
set_option maxRecDepth 100000 in
theorem frame_any (l : List Int) (n : Nat) (hn : n ≤ 9223372036854775807) (v : Value) (w : World) (hv : IntsV w v l) : Calls Try.prog 26 #[v, .int .i64 (n : Int)] w fun e w' => e = .returned (.bool (decide (FrameOk l n))) ∧ Below w.heap.size w w' := by
  obtain ⟨o, cap, rfl, hr⟩ := hv
  have f1 := hr.fit
  have f2 := hr.top
  have HR := (show Hid (Row (In w) w mg.iv o cap l) from hr)
  clear hr
  by_cases hlong : 32 < l.length
  · have HF := (show Hid (decide (FrameOk l n) = false) from decide_eq_false fun h => by have := h.1; omega)
    rw [HF.out]
    clear HR
    go_enter Try.func26, Try.ntmps26
    go_wp2_with (fail)
    go_ret
    exact ⟨rfl, Below.refl _ _⟩
  · have hl : l.length ≤ 32 := by omega
    obtain ⟨r, hr⟩ : ∃ r, Hid (r = decide (FrameOk l n)) := ⟨_, rfl⟩
    rw [← hr.out]
    go_enter Try.func26, Try.ntmps26
    go_wp2_with (fail)
    go_loopw [12] (fun y wr => ∃ i : Nat, y = .int .i64 i ∧ i ≤ l.length ∧ Below w.heap.size w wr ∧ Hid (∀ j, j < i → 0 ≤ nthI l j ∧ nthI l j < (n : Int))) (fun y _ => l.length - (intOf y).toNat)
    case atStart => exact ⟨0, rfl, by omega, Below.refl _ _, fun j hj => by omega⟩
    case round =>
      obtain ⟨i, rfl, hil, hB, HU⟩ := hrel
      by_cases hend : i < l.length
      · obtain ⟨b, off, rfl, hb, hc⟩ := ints_at HR.out i hend
        have k1 := (hB.cell (p := ⟨b, off + i, none⟩) hb).trans hc
        have HBD := (show Hid (¬ (0 ≤ nthI l i ∧ nthI l i < (n : Int)) → r = false) from fun h => by rw [hr.out]; exact decide_eq_false (frame_bad hend h))
        have HNX := (show Hid (0 ≤ nthI l i ∧ nthI l i < (n : Int) → ∀ j, j < i + 1 → 0 ≤ nthI l j ∧ nthI l j < (n : Int)) from fun h j hj => by
          by_cases e : j = i
          · rw [e]; exact h
          · exact HU.out j (by omega))
        clear HR HU hc hr
        generalize nthI l i = q at *
        by_cases h0 : q < 0
        · obtain rfl : r = false := HBD.out fun h => by omega
          clear HNX HBD
          go_wp2_with (fail)
          go_ret
          exact ⟨rfl, hB⟩
        · by_cases h1 : (n : Int) ≤ q
          · obtain rfl : r = false := HBD.out fun h => by omega
            clear HNX HBD
            go_wp2_with (fail)
            go_ret
            exact ⟨rfl, hB⟩
          · have HI := (show Hid _ from HNX.out (by omega))
            clear HNX HBD
            go_wp2_with (fail)
            go_roundw
            case rel => exact ⟨i + 1, by go_num, by omega, hB, HI.out⟩
            case measure => simp [intOf]; omega
      · obtain rfl : r = true := by
          rw [hr.out]; exact decide_eq_true (frame_all hl fun j hj => HU.out j (by omega))
        go_wp2_with (fail)
        go_ret
        exact ⟨rfl, hB⟩
open Classical in
set_option maxHeartbeats 1000000 in
set_option maxRecDepth 100000 in
theorem rframe_any (l : List Int) (n : Nat) (hn : n ≤ 9223372036854775807) (v : Value) (w : World) (hv : IntsV w v l) : Calls Try.prog 19 #[v, .int .i64 (n : Int)] w fun e w' => e = .returned (.bool (decide (FrameOk l n))) ∧ Below w.heap.size w w' := by
  obtain ⟨o, cap, rfl, hr⟩ := hv
  have f1 := hr.fit
  have f2 := hr.top
  have HR := (show Hid (Row (In w) w mg.iv o cap l) from hr)
  clear hr
  obtain ⟨r, hr⟩ : ∃ r, Hid (r = decide (FrameOk l n)) := ⟨_, rfl⟩
  rw [← hr.out]
  go_enter Try.func19, Try.ntmps19
  go_wp2_with (fail)
  go_loopw [9] (fun y wr => ∃ i : Nat, y = .int .i64 i ∧ i ≤ l.length ∧ Below w.heap.size w wr ∧ Hid (∀ j, j < i → 0 ≤ nthI l j ∧ nthI l j < (n : Int))) (fun y _ => l.length - (intOf y).toNat)
  case atStart => exact ⟨0, rfl, by omega, Below.refl _ _, fun j hj => by omega⟩
  case round =>
    obtain ⟨i, rfl, hil, hB, HU⟩ := hrel
    by_cases hend : i < l.length
    · obtain ⟨b, off, rfl, hb, hc⟩ := ints_at HR.out i hend
      have k1 := (hB.cell (p := ⟨b, off + i, none⟩) hb).trans hc
      have HBD := (show Hid (¬ (0 ≤ nthI l i ∧ nthI l i < (n : Int)) → r = false) from fun h => by rw [hr.out]; exact decide_eq_false (frame_bad hend h))
      have HNX := (show Hid (0 ≤ nthI l i ∧ nthI l i < (n : Int) → ∀ j, j < i + 1 → 0 ≤ nthI l j ∧ nthI l j < (n : Int)) from fun h j hj => by
        by_cases e : j = i
        · rw [e]; exact h
        · exact HU.out j (by omega))
      clear HR HU hc hr
      generalize nthI l i = q at *
      by_cases h0 : q < 0
      · obtain rfl : r = false := HBD.out fun h => by omega
        clear HNX HBD
        go_wp2_with (fail)
        go_ret
        exact ⟨rfl, hB⟩
      · by_cases h1 : (n : Int) ≤ q
        · obtain rfl : r = false := HBD.out fun h => by omega
          clear HNX HBD
          go_wp2_with (fail)
          go_ret
          exact ⟨rfl, hB⟩
        · have HI := (show Hid _ from HNX.out (by omega))
          clear HNX HBD
          go_wp2_with (fail)
          go_roundw
          case rel => exact ⟨i + 1, by go_num, by omega, hB, HI.out⟩
          case measure => simp [intOf]; omega
    · have HE := (show Hid (r = decide ((l.length : Int) ≤ 32)) from by
        show r = _
        rw [hr.out]
        exact decide_eq_decide.2 ⟨fun h => by have := h.1; omega, fun h => frame_all (by omega) fun j hj => HU.out j (by omega)⟩)
      clear hr HU HR
      go_wp2_with (fail)
      go_ret
      exact ⟨by rw [HE.out]; rfl, hB⟩
end Go.Proofs.Ythmecbonjkcnmaa.cf
