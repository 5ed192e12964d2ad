/-
  Contracts over this program: the document's parts of a class (fretsawref06.parts).
-/
import Derived.Test.YtfclidcfhadohaaDoorPe
import Derived.Test.YtfclidcfhadohaaDoorPd
import Derived.Deep.DeepCutAuto
namespace Go.Proofs.YtfclidcfhadohaaDoor.rp
open Go.Proofs.YtfclidcfhadohaaDoor.st
open Go.Proofs.YtfclidcfhadohaaDoor.sp (chain)
open Go.ChangeShapes Go.WideShapes Go.ChangeAt Go.RowKit
set_option linter.unusedVariables false

theorem drop_at (l : List Nat) (i t : Nat) (h : i + t < l.length) (h2 : t < (l.drop i).length) : (l.drop i)[t] = l[i + t] := by
  rw [List.getElem_drop]
theorem run_end (l : List Nat) (i j : Nat) (hi : i ≤ j) (hj : j < l.length) (ha : ∀ t, i ≤ t → t ≤ j → (ht : t < l.length) → l[t] = l[i] + (t - i)) (hb : (h : j + 1 < l.length) → l[j + 1] ≠ l[i] + (j + 1 - i)) : rowN (l.drop i) = j - i + 1 := by
  have hlen : (l.drop i).length = l.length - i := by simp
  refine rowN_eq (l.drop i) (j - i + 1) (by omega) (by omega) (by omega) ?_ ?_
  · intro t ht hl
    have := ha (i + t) (by omega) (by omega) (by omega)
    rw [drop_at l i t (by omega) hl, drop_at l i 0 (by omega) (by omega), this]
    simp
  · intro hl
    have := hb (by omega)
    rw [drop_at l i (j - i + 1) (by omega) hl, drop_at l i 0 (by omega) (by omega)]
    have e : i + (j - i + 1) = j + 1 := by omega
    simp only [e, Nat.add_zero]
    omega
theorem step_few (l : List Nat) (i : Nat) (h : i < l.length) (hr : rowN (l.drop i) < 4) : parts (l.drop i) = wr l[i] true ++ parts (l.drop (i + 1)) := by
  rw [List.drop_eq_getElem_cons h] at hr ⊢
  simp only [rowN] at hr
  rw [parts_cons, if_neg (by omega)]
theorem step_many (l : List Nat) (i j : Nat) (hij : i ≤ j) (h : j < l.length) (hr : rowN (l.drop i) = j - i + 1) (h3 : ¬ j - i < 3) (hj : l[j] = l[i] + (j - i)) : parts (l.drop i) = wr l[i] true ++ [45] ++ wr l[j] true ++ parts (l.drop (j + 1)) := by
  have hi : i < l.length := by omega
  rw [List.drop_eq_getElem_cons hi] at hr ⊢
  simp only [rowN] at hr
  have e : rn l[i] (l.drop (i + 1)) = j - i := by omega
  rw [parts_cons, if_pos (by omega), e, hj, List.drop_drop, show i + 1 + (j - i) = j + 1 from by omega]
  simp

def RPartsIs (l : List Nat) (r : L8) : Prop := ∀ w, Calls Tryd.prog 46 #[.string (tx l)] w fun e w' => e = .returned (.string (bs r)) ∧ Below w.heap.size w w'
set_option maxHeartbeats 4000000 in
set_option maxRecDepth 100000 in
theorem rparts_any (l : List Nat) (h : Rise l) (h256 : l.length ≤ 256) (r : L8) (hr : r = parts l) : RPartsIs l r := by
  intro w
  have hL : (parts l).length ≤ 1024 := by have := prt_len l.length l; unfold parts; omega
  have HR : Hid (r = parts l) := hr
  have HL : Hid ((parts l).length ≤ 1024) := hL
  have HA : Hid (∀ i (hi : i < l.length) (hs : i < (tx l).size), ((tx l)[i]'hs).toNat = l[i]) := fun i hi hs => tx_at l h i hi hs
  have HH : Hid (Rise l) := h
  have hsz := tx_size l
  clear hr hL h
  generalize hu : tx l = u at *
  clear hu
  go_enter Tryd.func46, Tryd.ntmps46
  go_wp2
  go_loopw [3, 4] (fun a x wr => ∃ (i : Nat) (out : L8), a = .string (bs out) ∧ x = .int .i64 (i : Int) ∧ i ≤ l.length ∧ Below w.heap.size w wr ∧ Hid (out ++ parts (l.drop i) = parts l)) (fun _ x _ => l.length - (intOf x).toNat)
  case atStart => exact ⟨0, [], rfl, rfl, by omega, Below.refl _ _, by show _ = _; simp⟩
  case round =>
    obtain ⟨i, out, rfl, rfl, hi, hB, HS⟩ := hrel
    have hout : out.length ≤ 1024 := by
      have := congrArg List.length HS.out
      rw [List.length_append] at this
      have := HL.out
      omega
    by_cases hin : i < l.length
    · go_wp2_with (fail)
      go_loopw [5] (fun x wr => ∃ j : Nat, x = .int .i64 (j : Int) ∧ i ≤ j ∧ j < l.length ∧ Below w.heap.size w wr ∧ Hid (∀ t, i ≤ t → t ≤ j → (ht : t < l.length) → l[t] = l[i] + (t - i))) (fun x _ => l.length - (intOf x).toNat)
      case atStart => exact ⟨i, rfl, by omega, hin, hB, fun t h1 h2 ht => by obtain rfl : t = i := by omega
                                                                             simp⟩
      case round =>
        obtain ⟨j, rfl, hij, hj, hB2, HI⟩ := hrel
        have ENDED : Hid (rowN (l.drop i) = j - i + 1 → True) := fun _ => trivial
        by_cases hjn : j + 1 < l.length
        · have g0 : decide ((j : Int) + 1 < (l.length : Int)) = true := decide_eq_true (by omega)
          have hx1 : j + 1 < u.size := by omega
          have hx2 : j < u.size := by omega
          have HE := (show Hid (u[j + 1].toNat = l[j + 1] ∧ u[j].toNat = l[j]) from ⟨HA.out _ hjn hx1, HA.out _ hj hx2⟩)
          have hb1 : u[j].toNat < 256 := by rw [HE.out.2]; exact HH.out.1 _ (List.getElem_mem hj)
          have hb2 : u[j + 1].toNat < 256 := by rw [HE.out.1]; exact HH.out.1 _ (List.getElem_mem hjn)
          have hwj : IntKind.i64.wrap ((j : Int) + 1) = (j : Int) + 1 := by rw [IntKind.wrap_i64]; omega
          generalize hp : u[j + 1].toNat = p at *
          generalize hq : u[j].toNat = q at *
          by_cases heq : p = q + 1
          · have f : ((p : Int) == (q : Int) + 1) = true := by simp; omega
            have HN : Hid (∀ t, i ≤ t → t ≤ j + 1 → (ht : t < l.length) → l[t] = l[i] + (t - i)) := fun t h1 h2 ht => by
              by_cases ht2 : t ≤ j
              · exact HI.out t h1 ht2 ht
              · obtain rfl : t = j + 1 := by omega
                have := HI.out j hij (by omega) hj
                have := HE.out
                omega
            go_wp2
            go_quiet (fail)
            go_wp2
            go_roundw
            case rel => exact ⟨j + 1, by go_num, by omega, by omega, below_drewN hB2 _, HN⟩
            case measure => simp [intOf]; omega
          · have f : ((p : Int) == (q : Int) + 1) = false := by simp; omega
            have HF : Hid (rowN (l.drop i) = j - i + 1) := run_end l i j hij hj HI.out (fun h => by
              have := HI.out j hij (by omega) hj
              have := HE.out
              omega)
            go_wp2
            go_quiet (fail)
            have hqp := HE.out.2
            subst hqp
            have hB3 := below_drewN hB2 nq
            have hiu : i < u.size := by omega
            have hju : j < u.size := by omega
            have hjl := HI.out j hij (Nat.le_refl _) hj
            have xa := HA.out i hin hiu
            have xb := HA.out j hj hju
            have va := written_any l[i] true (HH.out.1 _ (List.getElem_mem hin)) _ rfl
            have vb := written_any l[j] true (HH.out.1 _ (List.getElem_mem hj)) _ rfl
            have la := wr_len l[i] true
            have lb := wr_len l[j] true
            have sa := bs_size (rp.wr l[i] true)
            have sb := bs_size (rp.wr l[j] true)
            have so := bs_size out
            unfold WrittenIs at va vb
            have hnq := trivial
            generalize wr.drewN nq = wz at *
            clear hB2 HI
            by_cases h3 : j - i < 3
            · have d3 : decide ((j : Int) - (i : Int) < 3) = true := decide_eq_true (by omega)
              have HN := (show Hid ((out ++ rp.wr l[i] true) ++ parts (l.drop (i + 1)) = parts l) from by
                show _ = _
                rw [List.append_assoc, ← step_few l i hin (by rw [HF.out]; omega)]
                exact HS.out)
              have EE : Hid (bs out ++ bs (rp.wr l[i] true) = bs (out ++ rp.wr l[i] true)) := bs_append _ _
              clear HF HS hjl vb xb lb sb
              generalize hra : rp.wr l[i] true = ra at *
              generalize hpa : l[i] = pa at *
              have hz : ¬ 9223372036854775807 < out.length + ra.length := by omega
              generalize bs ra = ta at *
              generalize hoo : bs out = tto at *
              go_wp2_with (go_at_call 43; refine (va _).mono ?_; rintro e w2 ⟨rfl, b2⟩)
              refine ⟨⟨i + 1, out ++ ra, congrArg Value.string EE.out, by go_num, by omega, hB3.trans (b2.mono hB3.size), HN⟩, ?_⟩
              simp [intOf]; omega
            · have d3 : decide ((j : Int) - (i : Int) < 3) = false := decide_eq_false (by omega)
              have HN := (show Hid ((out ++ (rp.wr l[i] true ++ [45] ++ rp.wr l[j] true)) ++ parts (l.drop (j + 1)) = parts l) from by
                show _ = _
                rw [List.append_assoc, ← step_many l i j hij hj HF.out h3 hjl]
                exact HS.out)
              have EE : Hid (bs out ++ bs (rp.wr l[i] true) ++ (⟨#[45]⟩ : ByteArray) ++ bs (rp.wr l[j] true) = bs (out ++ (rp.wr l[i] true ++ [45] ++ rp.wr l[j] true))) := by
                show _ = _
                rw [← bs_append, ← bs_append, ← bs_append, show bs [45] = ⟨#[45]⟩ from rfl]
                simp only [ByteArray.append_assoc]
              clear HF HS hjl
              generalize hra : rp.wr l[i] true = ra at *
              generalize hrb : rp.wr l[j] true = rb at *
              generalize hpa : l[i] = pa at *
              generalize hpb : l[j] = pb at *
              have hz : ¬ 9223372036854775807 < out.length + ra.length := by omega
              have hz1 : ¬ 9223372036854775807 < out.length + ra.length + 1 := by omega
              have hz2 : ¬ 9223372036854775807 < out.length + ra.length + 1 + rb.length := by omega
              generalize bs ra = ta at *
              generalize bs rb = tb at *
              generalize hoo : bs out = tto at *
              go_wp2_with (fail)
              go_cut [3] (fun s3 wx => s3 = .string (tto ++ ta ++ (⟨#[45]⟩ : ByteArray) ++ tb) ∧ Below w.heap.size w wx)
              case first =>
                go_region_with (first | (go_at_call 43; (with_reducible refine (va _).mono ?_); rintro e w2 ⟨rfl, b2⟩) | (go_at_call 43; (with_reducible refine (vb _).mono ?_); rintro e w3 ⟨rfl, b3⟩))
                all_goals go_wp2_with fail
                all_goals go_meet
                all_goals first | exact ⟨rfl, ((Below.drew hB3).trans (b2.mono hB3.size)).trans (b3.mono (Nat.le_trans hB3.size b2.size))⟩ | exact ⟨rfl, ((Below.drew hB3).trans (b3.mono hB3.size)).trans (b2.mono (Nat.le_trans hB3.size b3.size))⟩
              case rest =>
                obtain ⟨rfl, hB4⟩ := hcut
                go_wp2_with (fail)
                refine ⟨⟨j + 1, out ++ (ra ++ [45] ++ rb), congrArg Value.string EE.out, by go_num, by omega, hB4, HN⟩, ?_⟩
                simp [intOf]; omega
        · have g0 : decide ((j : Int) + 1 < (l.length : Int)) = false := decide_eq_false (by omega)
          have HF : Hid (rowN (l.drop i) = j - i + 1) := run_end l i j hij hj HI.out (fun h => by omega)
          go_wp2
          go_quiet (fail)
          have hB3 := below_drewN hB2 nq
          have hiu : i < u.size := by omega
          have hju : j < u.size := by omega
          have hjl := HI.out j hij (Nat.le_refl _) hj
          have xa := HA.out i hin hiu
          have xb := HA.out j hj hju
          have va := written_any l[i] true (HH.out.1 _ (List.getElem_mem hin)) _ rfl
          have vb := written_any l[j] true (HH.out.1 _ (List.getElem_mem hj)) _ rfl
          have la := wr_len l[i] true
          have lb := wr_len l[j] true
          have sa := bs_size (rp.wr l[i] true)
          have sb := bs_size (rp.wr l[j] true)
          have so := bs_size out
          unfold WrittenIs at va vb
          have hnq := trivial
          generalize wr.drewN nq = wz at *
          clear hB2 HI
          by_cases h3 : j - i < 3
          · have d3 : decide ((j : Int) - (i : Int) < 3) = true := decide_eq_true (by omega)
            have HN := (show Hid ((out ++ rp.wr l[i] true) ++ parts (l.drop (i + 1)) = parts l) from by
              show _ = _
              rw [List.append_assoc, ← step_few l i hin (by rw [HF.out]; omega)]
              exact HS.out)
            have EE : Hid (bs out ++ bs (rp.wr l[i] true) = bs (out ++ rp.wr l[i] true)) := bs_append _ _
            clear HF HS hjl vb xb lb sb
            generalize hra : rp.wr l[i] true = ra at *
            generalize hpa : l[i] = pa at *
            have hz : ¬ 9223372036854775807 < out.length + ra.length := by omega
            generalize bs ra = ta at *
            generalize hoo : bs out = tto at *
            go_wp2_with (go_at_call 43; refine (va _).mono ?_; rintro e w2 ⟨rfl, b2⟩)
            refine ⟨⟨i + 1, out ++ ra, congrArg Value.string EE.out, by go_num, by omega, hB3.trans (b2.mono hB3.size), HN⟩, ?_⟩
            simp [intOf]; omega
          · have d3 : decide ((j : Int) - (i : Int) < 3) = false := decide_eq_false (by omega)
            have HN := (show Hid ((out ++ (rp.wr l[i] true ++ [45] ++ rp.wr l[j] true)) ++ parts (l.drop (j + 1)) = parts l) from by
              show _ = _
              rw [List.append_assoc, ← step_many l i j hij hj HF.out h3 hjl]
              exact HS.out)
            have EE : Hid (bs out ++ bs (rp.wr l[i] true) ++ (⟨#[45]⟩ : ByteArray) ++ bs (rp.wr l[j] true) = bs (out ++ (rp.wr l[i] true ++ [45] ++ rp.wr l[j] true))) := by
              show _ = _
              rw [← bs_append, ← bs_append, ← bs_append, show bs [45] = ⟨#[45]⟩ from rfl]
              simp only [ByteArray.append_assoc]
            clear HF HS hjl
            generalize hra : rp.wr l[i] true = ra at *
            generalize hrb : rp.wr l[j] true = rb at *
            generalize hpa : l[i] = pa at *
            generalize hpb : l[j] = pb at *
            have hz : ¬ 9223372036854775807 < out.length + ra.length := by omega
            have hz1 : ¬ 9223372036854775807 < out.length + ra.length + 1 := by omega
            have hz2 : ¬ 9223372036854775807 < out.length + ra.length + 1 + rb.length := by omega
            generalize bs ra = ta at *
            generalize bs rb = tb at *
            generalize hoo : bs out = tto at *
            go_wp2_with (fail)
            go_cut [3] (fun s3 wx => s3 = .string (tto ++ ta ++ (⟨#[45]⟩ : ByteArray) ++ tb) ∧ Below w.heap.size w wx)
            case first =>
              go_region_with (first | (go_at_call 43; (with_reducible refine (va _).mono ?_); rintro e w2 ⟨rfl, b2⟩) | (go_at_call 43; (with_reducible refine (vb _).mono ?_); rintro e w3 ⟨rfl, b3⟩))
              all_goals go_wp2_with fail
              all_goals go_meet
              all_goals first | exact ⟨rfl, ((Below.drew hB3).trans (b2.mono hB3.size)).trans (b3.mono (Nat.le_trans hB3.size b2.size))⟩ | exact ⟨rfl, ((Below.drew hB3).trans (b3.mono hB3.size)).trans (b2.mono (Nat.le_trans hB3.size b3.size))⟩
            case rest =>
              obtain ⟨rfl, hB4⟩ := hcut
              go_wp2_with (fail)
              refine ⟨⟨j + 1, out ++ (ra ++ [45] ++ rb), congrArg Value.string EE.out, by go_num, by omega, hB4, HN⟩, ?_⟩
              simp [intOf]; omega
    · have HE := (show Hid (r = out) from by
        have h1 := HS.out
        rw [List.drop_of_length_le (by omega), parts_nil, List.append_nil] at h1
        show r = out
        rw [HR.out, h1])
      go_wp2_with (fail)
      go_ret
      exact ⟨by rw [HE.out]; rfl, hB⟩
end Go.Proofs.YtfclidcfhadohaaDoor.rp
