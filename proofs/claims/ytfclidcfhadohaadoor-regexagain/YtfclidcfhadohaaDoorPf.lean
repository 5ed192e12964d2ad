/-
  Contracts over this program: the parts of a class (regex.partsText).
-/
import Derived.Test.YtfclidcfhadohaaDoorPe
import Derived.Test.YtfclidcfhadohaaDoorBld
import Derived.Deep.DeepCutAuto
namespace Go.Proofs.YtfclidcfhadohaaDoor.rp
open Go.Proofs.YtfclidcfhadohaaDoor.st
open Go.Proofs.YtfclidcfhadohaaDoor.sp (chain)
open Go.ChangeShapes Go.WideShapes Go.ChangeAt Go.RowKit
set_option linter.unusedVariables false

theorem rowN_pos (l : List Nat) (h : 0 < l.length) : 1 ≤ rowN l ∧ rowN l ≤ l.length := by
  cases l with
  | nil => simp at h
  | cons c l =>
    have := rn_le c l
    simp only [rowN, List.length_cons]
    omega
theorem parts_short (l : List Nat) (h0 : 0 < l.length) (h : rowN l < 4) : parts l = (l.take (rowN l)).flatMap (fun x => wr x true) ++ parts (l.drop (rowN l)) := by
  cases l with
  | nil => simp at h0
  | cons c l =>
    simp only [rowN] at h ⊢
    exact parts_few l c (by omega)
theorem parts_long (l : List Nat) (h0 : 0 < l.length) (h : ¬ rowN l < 4) (hl : rowN l - 1 < l.length) : parts l = (wr l[0] true ++ [45] ++ wr l[rowN l - 1] true) ++ parts (l.drop (rowN l)) := by
  cases l with
  | nil => simp at h0
  | cons c l =>
    simp only [rowN] at h hl ⊢
    have h3 : 3 ≤ rn c l := by omega
    have hle := rn_le c l
    have hat := rn_at c l (rn c l - 1) (by omega) (by omega)
    obtain ⟨m, hm⟩ : ∃ m, rn c l = m + 1 := ⟨rn c l - 1, by omega⟩
    rw [parts_cons, if_pos h3]
    simp only [hm, Nat.add_sub_cancel, List.getElem_cons_zero, List.getElem_cons_succ] at hat ⊢
    rw [hat, show c + 1 + m = c + (m + 1) from by omega]
    simp
theorem take_wr (l : List Nat) (i : Nat) (h : i < l.length) : (l.take (i + 1)).flatMap (fun x => wr x true) = (l.take i).flatMap (fun x => wr x true) ++ wr l[i] true := by
  rw [List.take_succ_eq_append_getElem h, List.flatMap_append]
  simp

def Bd (B b : Nat) (out : L8) (w : World) : Prop := Lib.IsBuilderF 42 5 B b (Lib.byteCells out) w
theorem Bd.later {B b : Nat} {out : L8} {w w' : World} (h : Bd B b out w) (hb : Below w.heap.size w w') : Bd B b out w' := bld.later h hb
theorem bd_write (B b : Nat) (out r : L8) (hlen : out.length + r.length ≤ 140737488355328) (w : World) (h : Bd B b out w) (hB : B ≤ w.heap.size) :
    Calls Tryd.prog 21 #[.pointer (some ⟨b, 0, none⟩), .string (bs r)] w fun e w' => e = .returned (.tuple #[.int .i64 r.length, .nilIface]) ∧ Bd B b (out ++ r) w' ∧ Below B w w' := by
  refine (bld.write_any B b out (bs r) (by rw [bs_size]; exact hlen) w h hB).mono ?_
  rintro e w' ⟨rfl, h1, h2, _⟩
  exact ⟨by rw [bs_size], h1, h2⟩
theorem bd_string (B b : Nat) (out : L8) (w : World) (h : Bd B b out w) (hB : B ≤ w.heap.size) :
    Calls Tryd.prog 14 #[.pointer (some ⟨b, 0, none⟩)] w fun e w' => e = .returned (.string (bs out)) ∧ Bd B b out w' ∧ Below B w w' := bld.string_any B b out w h hB
theorem bd_new (w : World) : Bd w.heap.size w.heap.size [] (w.alloc (.cells #[.pointer none, .slice none 0 0] 42)) := Lib.IsBuilderF.of (Lib.fresh_isBuilder 42 5 w)

def PartsIs (l : List Nat) (r : L8) : Prop := ∀ w, Calls Tryd.prog 39 #[.string (tx l)] w fun e w' => e = .returned (.string (bs r)) ∧ Below w.heap.size w w'
set_option maxHeartbeats 4000000 in
set_option maxRecDepth 100000 in
theorem parts_any (l : List Nat) (h : Rise l) (h256 : l.length ≤ 256) (r : L8) (hr : r = parts l) : PartsIs l r := by
  intro w
  have hL : (parts l).length ≤ 1024 := by have := prt_len l.length l; unfold parts; omega
  have hf0 := bd_new w
  have hk0 : Below w.heap.size w (w.alloc (.cells #[.pointer none, .slice none 0 0] 42)) := below_alloc _ _
  have HR : Hid (r = parts l) := hr
  have HL : Hid ((parts l).length ≤ 1024) := hL
  have HS0 : Hid (Rise l ∧ l.length ≤ 256) := ⟨h, h256⟩
  clear hr hL h h256
  go_enter Tryd.func39, Tryd.ntmps39
  go_wp2
  go_loopw [0] (fun x wr => ∃ (m : List Nat) (out : L8), x = .string (tx m) ∧ m.length ≤ 256 ∧ Below w.heap.size w wr ∧ Bd w.heap.size w.heap.size out wr ∧ Hid (Rise m) ∧ Hid (out ++ parts m = parts l)) (fun x _ => match x with | .string t => t.size | _ => 0)
  case atStart => exact ⟨l, [], rfl, HS0.out.2, hk0, hf0, HS0.out.1, rfl⟩
  case round =>
    obtain ⟨m, out, rfl, hm, hB, hO, HM, HS⟩ := hrel
    clear hf0 hk0 HS0
    have hsz := tx_size m
    by_cases h0 : m.length = 0
    · have HE := (show Hid (r = out) from by
        have h1 := HS.out
        rw [List.length_eq_zero_iff.1 h0, parts_nil, List.append_nil] at h1
        show r = out
        rw [HR.out, h1])
      have hs0 : (tx m).size = 0 := by omega
      have c28 := bd_string w.heap.size w.heap.size out wr hO hB.size
      clear HS HM hsz h0 hm
      generalize tx m = u at *
      go_wp2_with (go_at_call 14; refine c28.mono ?_; rintro e w2 ⟨rfl, _, b2⟩)
      go_ret
      exact ⟨by rw [HE.out]; rfl, hB.trans b2⟩
    · have hpos : 0 < m.length := by omega
      have hrow := row_any m HM.out hpos hm _ rfl
      obtain ⟨hn1, hn2⟩ := rowN_pos m hpos
      obtain ⟨k, hk⟩ : ∃ k, rowN m = k + 1 := ⟨rowN m - 1, by omega⟩
      rw [hk] at hrow hn1 hn2
      have hout : out.length ≤ 1024 := by
        have := congrArg List.length HS.out
        rw [List.length_append] at this
        have := HL.out
        omega
      have hA := fun i (hi : i < m.length) (hs : i < (tx m).size) => tx_at m HM.out i hi hs
      have hlt := fun i (hi : i < m.length) => HM.out.1 m[i] (List.getElem_mem hi)
      have hdrop := tx_drop m (k + 1)
      have HD := (show Hid (Rise (m.drop (k + 1)) ∧ (m.drop (k + 1)).length = m.length - (k + 1)) from ⟨HM.out.drop (k + 1), by simp⟩)
      have hkm : k < m.length := by omega
      have hdrop2 : (tx m).extract (k + 1) m.length = tx (m.drop (k + 1)) := by rw [← hsz]; exact hdrop
      clear hdrop
      by_cases h4 : 3 ≤ k
      · have HP := (show Hid (parts m = (rp.wr m[0] true ++ [45] ++ rp.wr m[k] true) ++ parts (m.drop (k + 1))) from by
          have := parts_long m hpos (by omega) (by omega)
          show _ = _
          simp only [hk, Nat.add_sub_cancel] at this
          exact this)
        have ha := byte_any m[0] true (hlt 0 hpos) _ rfl
        have hb := byte_any m[k] true (hlt k hkm) _ rfl
        have h0u : 0 < (tx m).size := by omega
        have hku : k < (tx m).size := by omega
        have x0 := hA 0 hpos h0u
        have x1 := hA k hkm hku
        have ha2 : ∀ w, Calls Tryd.prog 37 #[.int .u8 (m[0] : Nat), .string ⟨#[92, 40, 41, 91, 93, 123, 125, 46, 42, 43, 63, 124, 94, 36, 45, 47]⟩] w fun e w' => e = .returned (.string (bs (rp.wr m[0] true))) ∧ Below w.heap.size w w' := ha
        have hb2 : ∀ w, Calls Tryd.prog 37 #[.int .u8 (m[k] : Nat), .string ⟨#[92, 40, 41, 91, 93, 123, 125, 46, 42, 43, 63, 124, 94, 36, 45, 47]⟩] w fun e w' => e = .returned (.string (bs (rp.wr m[k] true))) ∧ Below w.heap.size w w' := hb
        have la := wr_len m[0] true
        have lb := wr_len m[k] true
        have ea := bs_size (rp.wr m[0] true)
        have eb := bs_size (rp.wr m[k] true)
        have hwr := fun W h1 h2 => bd_write w.heap.size w.heap.size out (rp.wr m[0] true ++ [45] ++ rp.wr m[k] true) (by simp; omega) W h1 h2
        rw [← bs_append, ← bs_append, show bs [45] = ⟨#[45]⟩ from rfl] at hwr
        have hz1 : ¬ 9223372036854775807 < (bs (rp.wr m[0] true)).size + (⟨#[45]⟩ : ByteArray).size := by rw [ea, show (⟨#[45]⟩ : ByteArray).size = 1 from rfl]; omega
        have hz2 : ¬ 9223372036854775807 < (bs (rp.wr m[0] true) ++ (⟨#[45]⟩ : ByteArray)).size + (bs (rp.wr m[k] true)).size := by rw [ByteArray.size_append, ea, eb, show (⟨#[45]⟩ : ByteArray).size = 1 from rfl]; omega
        have d4 : decide ((4 : Int) ≤ (k : Int) + 1) = true := decide_eq_true (by omega)
        have HO2 := (show Hid (∀ o2, out ++ (rp.wr m[0] true ++ [45] ++ rp.wr m[k] true) = o2 → o2 ++ parts (m.drop (k + 1)) = parts l) from by
          rintro o2 rfl
          rw [List.append_assoc, ← HP.out]
          exact HS.out)
        clear ha hb hA hlt hk HP HS HM
        generalize hra : rp.wr m[0] true = ra at *
        generalize hrb : rp.wr m[k] true = rb at *
        generalize hoo : out ++ (ra ++ [45] ++ rb) = o2 at *
        generalize m[0] = pa at *
        generalize m[k] = pb at *
        generalize bs ra = ta at *
        generalize bs rb = tb at *
        have e1 : (k : Int) + 1 - 1 = (k : Int) := by omega
        have hwk : IntKind.i64.wrap (k : Int) = (k : Int) := by rw [IntKind.wrap_i64]; omega
        have hz3 : ¬ 9223372036854775807 < ra.length + 1 := by omega
        have hz4 : ¬ 9223372036854775807 < ra.length + 1 + rb.length := by omega
        have hki : (k : Int) < (m.length : Int) := by omega
        have hkj : (0 : Int) ≤ (k : Int) := by omega
        have hsl : (k : Int) + 1 ≤ (m.length : Int) := by omega
        have hsj : (0 : Int) ≤ (k : Int) + 1 := by omega
        have hkk : (0 : Int) < (m.length : Int) := by omega
        generalize hu : tx m = u at *
        go_wp2_with (go_at_call 57; refine (hrow _).mono ?_; rintro e w1 ⟨rfl, b1⟩)
        have hO1 := Bd.later hO b1
        have hB1 := hB.trans (b1.mono hB.size)
        clear hO hrow hB b1
        go_cut [23] (fun s23 wx => Below w.heap.size w wx ∧ Bd w.heap.size w.heap.size o2 wx)
        case first =>
         go_region_with (first | (go_at_call 37; (with_reducible refine (ha2 _).mono ?_); rintro e w2 ⟨rfl, b2⟩) | (go_at_call 37; (with_reducible refine (hb2 _).mono ?_); rintro e w3 ⟨rfl, b3⟩) | (go_at_call 21; refine (hwr _ (Bd.later (Bd.later (w := w1.drew) hO1 b2) b3) (Nat.le_trans hB1.size (Nat.le_trans b2.size b3.size))).mono ?_; rintro e w4 ⟨rfl, hO4, b4⟩; have hB4 : Below w.heap.size w w4 := (((Below.drew hB1).trans (b2.mono hB1.size)).trans (b3.mono (Nat.le_trans hB1.size b2.size))).trans b4) | (go_at_call 21; refine (hwr _ (Bd.later (Bd.later (w := w1.drew) hO1 b3) b2) (Nat.le_trans hB1.size (Nat.le_trans b3.size b2.size))).mono ?_; rintro e w4 ⟨rfl, hO4, b4⟩; have hB4 : Below w.heap.size w w4 := (((Below.drew hB1).trans (b3.mono hB1.size)).trans (b2.mono (Nat.le_trans hB1.size b3.size))).trans b4))
         all_goals go_wp2_with fail
         all_goals go_meet
         all_goals exact ⟨hB4, hO4⟩
        case rest =>
          clear hwr ha2 hb2 hO1 hB1
          obtain ⟨hB4, hO4⟩ := hcut
          go_wp2_with (fail)
          refine ⟨⟨m.drop (k + 1), o2, rfl, ?_, hB4, hO4, HD.out.1, HO2.out o2 rfl⟩, ?_⟩
          · have := HD.out.2; omega
          · show (tx (m.drop (k + 1))).size < u.size
            have := HD.out.2
            rw [tx_size]; omega
      · have HP := (show Hid (parts m = (m.take (k + 1)).flatMap (fun x => rp.wr x true) ++ parts (m.drop (k + 1))) from by
          have := parts_short m hpos (by omega)
          rw [hk] at this
          exact this)
        have d4 : decide ((4 : Int) ≤ (k : Int) + 1) = false := decide_eq_false (by omega)
        have HA := (show Hid (∀ i (hi : i < m.length) (hs : i < (tx m).size), ((tx m)[i]'hs).toNat = m[i] ∧ m[i] < 256) from fun i hi hs => ⟨hA i hi hs, hlt i hi⟩)
        clear hA hlt hk
        generalize hu : tx m = u at *
        go_wp2_with (go_at_call 57; refine (hrow _).mono ?_; rintro e w1 ⟨rfl, b1⟩)
        have hO1 := Bd.later hO b1
        have hB1 := hB.trans (b1.mono hB.size)
        clear hO hrow
        go_loopw [25] (fun x wq => ∃ (i : Nat) (o2 : L8), x = .int .i64 (i : Int) ∧ i ≤ k + 1 ∧ Below w.heap.size w wq ∧ Bd w.heap.size w.heap.size o2 wq ∧ Hid (o2 = out ++ (m.take i).flatMap (fun x => rp.wr x true))) (fun x _ => k + 1 - (intOf x).toNat)
        case atStart => exact ⟨0, out, rfl, by omega, hB1, hO1, by show _ = _; simp⟩
        case round =>
          obtain ⟨i, o2, rfl, hi, hB2, hO2, HI⟩ := hrel
          clear hO1 hB1
          have ho2 : o2.length ≤ 1024 + 16 := by
            have := HI.out
            have hf : ((m.take i).flatMap (fun x => rp.wr x true)).length ≤ 16 := by
              have hh : (m.take i).length ≤ 4 := by simp; omega
              have : ∀ L : List Nat, (L.flatMap (fun x => rp.wr x true)).length ≤ 4 * L.length := by
                intro L
                induction L with
                | nil => simp
                | cons a L ih =>
                  have := wr_len a true
                  simp only [List.flatMap_cons, List.length_append, List.length_cons]
                  omega
              have := this (m.take i)
              omega
            rw [this, List.length_append]
            omega
          by_cases hik : i < k + 1
          · have him : i < m.length := by omega
            have hius : i < u.size := by omega
            obtain ⟨hx, hx2⟩ := HA.out i him hius
            have hb2 : ∀ w, Calls Tryd.prog 37 #[.int .u8 (m[i] : Nat), .string ⟨#[92, 40, 41, 91, 93, 123, 125, 46, 42, 43, 63, 124, 94, 36, 45, 47]⟩] w fun e w' => e = .returned (.string (bs (rp.wr m[i] true))) ∧ Below w.heap.size w w' := byte_any m[i] true hx2 _ rfl
            have lb := wr_len m[i] true
            have hwr := fun W h1 h2 => bd_write w.heap.size w.heap.size o2 (rp.wr m[i] true) (by omega) W h1 h2
            have HN := (show Hid (o2 ++ rp.wr m[i] true = out ++ (m.take (i + 1)).flatMap (fun x => rp.wr x true)) from by
              show _ = _
              rw [take_wr m i him, ← List.append_assoc, ← HI.out])
            generalize rp.wr m[i] true = rb at *
            generalize m[i] = pb at *
            generalize bs rb = tb at *
            clear HI
            go_wp2_with (first | (go_at_call 37; refine (hb2 _).mono ?_; rintro e w2 ⟨rfl, b2⟩; have hO3 := Bd.later hO2 b2; have hB3 := hB2.trans (b2.mono hB2.size); clear hO2) | (go_at_call 21; refine (hwr _ hO3 hB3.size).mono ?_; rintro e w3 ⟨rfl, hO4, b4⟩))
            go_roundw
            case rel => exact ⟨i + 1, _, by go_num, by omega, hB3.trans b4, hO4, HN⟩
            case measure => simp [intOf]; omega
          · obtain rfl : i = k + 1 := by omega
            have HN := (show Hid (o2 ++ parts (m.drop (k + 1)) = parts l) from by
              show _ = _
              rw [HI.out, List.append_assoc, ← HP.out]
              exact HS.out)
            clear HI
            have hsl : (k : Int) + 1 ≤ (m.length : Int) := by omega
            have hsj : (0 : Int) ≤ (k : Int) + 1 := by omega
            go_wp2_with (fail)
            refine ⟨⟨m.drop (k + 1), o2, rfl, ?_, hB2, hO2, HD.out.1, HN⟩, ?_⟩
            · have := HD.out.2; omega
            · show (tx (m.drop (k + 1))).size < u.size
              have := HD.out.2
              rw [tx_size]; omega
end Go.Proofs.YtfclidcfhadohaaDoor.rp
