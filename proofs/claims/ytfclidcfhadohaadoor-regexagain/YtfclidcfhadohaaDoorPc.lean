/-
  Contracts over this program: a byte's text (regex.byteText; the document's Sign, letter, written).
-/
import Derived.Test.YtfclidcfhadohaaDoorPb
import Derived.Test.YtfclidcfhadohaaDoorFit
namespace Go.Proofs.YtfclidcfhadohaaDoor.rp
open Go.Proofs.YtfclidcfhadohaaDoor.st
open Go.ChangeShapes Go.WideShapes Go.ChangeAt Go.RowKit
set_option linter.unusedVariables false

def hexS : ByteArray := ⟨#[48, 49, 50, 51, 52, 53, 54, 55, 56, 57, 97, 98, 99, 100, 101, 102]⟩
def hxN (k : Nat) : Nat := if k < 10 then 48 + k else 87 + k
theorem hx_at : ∀ k : Nat, k < 16 → (hexS[k]?.map UInt8.toNat) = some (hxN k) := by decide +kernel
theorem hxN_lt (k : Nat) (h : k < 16) : hxN k < 256 := by unfold hxN; split <;> omega
theorem index_hex (k : Nat) (hk : k < 16) (w : World) (kd : IntKind) : (Instr.index 9 (.string ⟨#[48, 49, 50, 51, 52, 53, 54, 55, 56, 57, 97, 98, 99, 100, 101, 102]⟩) (.int kd (k : Int))).run Tryd.prog w = .ok (.int .u8 (hxN k : Nat)) w := by
  have h := hx_at k hk
  have hs : hexS.size = 16 := rfl
  have hks : k < hexS.size := by omega
  rw [ByteArray.getElem?_lt' hexS k hks] at h
  simp only [Option.map_some, Option.some.injEq] at h
  show (Instr.index 9 (.string hexS) (.int kd (k : Int))).run Tryd.prog w = _
  rw [run_index_string w 9 _ kd (k : Int) Tryd.underlying9, dif_pos ⟨by omega, by omega⟩]
  simp only [Int.toNat_natCast, h]

def ByteIs (c : Nat) (b : Bool) (r : L8) : Prop := ∀ w, Calls Tryd.prog 37 #[.int .u8 c, .string (sgL b)] w fun e w' => e = .returned (.string (bs r)) ∧ Below w.heap.size w w'
theorem byte_sign (c : Nat) (b : Bool) (hc : c < 256) (h : (isSign c || (b && (decide (c = 45) || decide (c = 47)))) = true) : ByteIs c b (wr c b) := by
  intro w
  have hr : wr c b = [92] ++ [UInt8.ofNat c] := by unfold wr; rw [if_pos h]; rfl
  rw [hr, ← bs_append]
  have hi := index_any (sgL b) c _ rfl
  have hm := index_mem (sgL b).data.toList c.toUInt8
  rw [sg_mem c hc b, h] at hm
  generalize Lib.indexByte (sgL b).data.toList c.toUInt8 = ri at *
  have hk := conv1 w c hc
  have h1 : bs [92] = ⟨#[92]⟩ := rfl
  rw [h1]
  have hsz : (bs [UInt8.ofNat c]).size = 1 := by rw [bs_size]; rfl
  generalize bs [UInt8.ofNat c] = t at *
  generalize sgL b = sg at *
  have hz : ¬ 9223372036854775807 < (⟨#[92]⟩ : ByteArray).size + t.size := by rw [hsz]; decide
  clear h h1 hr
  go_enter Tryd.func37, Tryd.ntmps37
  go_wp2_with (go_at_call 55; refine (hi _).mono ?_; rintro e w1 ⟨rfl, hw⟩; obtain rfl := hw.symm)
  go_ret
  exact ⟨rfl, below_alloc _ _⟩
set_option maxHeartbeats 2000000 in
set_option maxRecDepth 100000 in
theorem byte_n (c : Nat) (b : Bool) (hc : c < 256) (h : (isSign c || (b && (decide (c = 45) || decide (c = 47)))) = false) : ByteIs c b (wr c b) := by
  intro w
  have hi := index_any (sgL b) c _ rfl
  have hm := index_mem (sgL b).data.toList c.toUInt8
  rw [sg_mem c hc b, h] at hm
  generalize Lib.indexByte (sgL b).data.toList c.toUInt8 = ri at *
  generalize sgL b = sg at *
  by_cases c1 : c = 10
  · have hr : wr c b = [92, 110] := by unfold wr; rw [h, if_neg (by decide), if_pos c1]
    rw [hr]
    have f1 : ((c : Int) == 10) = true := by simp; omega
    clear h hr c1
    go_enter Tryd.func37, Tryd.ntmps37
    go_wp2_with (go_at_call 55; refine (hi _).mono ?_; rintro e w1 ⟨rfl, hw⟩; obtain rfl := hw.symm)
    go_ret
    exact ⟨rfl, Below.refl _ _⟩
  · have f1 : ((c : Int) == 10) = false := by simp; omega
    by_cases c2 : c = 9
    · have hr : wr c b = [92, 116] := by unfold wr; rw [h, if_neg (by decide), if_neg c1, if_pos c2]
      rw [hr]
      have f2 : ((c : Int) == 9) = true := by simp; omega
      clear h hr c1 c2
      go_enter Tryd.func37, Tryd.ntmps37
      go_wp2_with (go_at_call 55; refine (hi _).mono ?_; rintro e w1 ⟨rfl, hw⟩; obtain rfl := hw.symm)
      go_ret
      exact ⟨rfl, Below.refl _ _⟩
    · have f2 : ((c : Int) == 9) = false := by simp; omega
      by_cases c3 : c = 13
      · have hr : wr c b = [92, 114] := by unfold wr; rw [h, if_neg (by decide), if_neg c1, if_neg c2, if_pos c3]
        rw [hr]
        have f3 : ((c : Int) == 13) = true := by simp; omega
        clear h hr c1 c2 c3
        go_enter Tryd.func37, Tryd.ntmps37
        go_wp2_with (go_at_call 55; refine (hi _).mono ?_; rintro e w1 ⟨rfl, hw⟩; obtain rfl := hw.symm)
        go_ret
        exact ⟨rfl, Below.refl _ _⟩
      · have f3 : ((c : Int) == 13) = false := by simp; omega
        by_cases c4 : 33 ≤ c ∧ c ≤ 126
        · have hr : wr c b = [UInt8.ofNat c] := by unfold wr; rw [h, if_neg (by decide), if_neg c1, if_neg c2, if_neg c3, if_pos c4]
          rw [hr]
          have f4 : decide ((32 : Int) < (c : Int)) = true := decide_eq_true (by omega)
          have f5 : decide ((c : Int) ≤ 126) = true := decide_eq_true (by omega)
          have hk := conv1 w c hc
          generalize bs [UInt8.ofNat c] = t at *
          clear h hr c1 c2 c3 c4
          go_enter Tryd.func37, Tryd.ntmps37
          go_wp2_with (go_at_call 55; refine (hi _).mono ?_; rintro e w1 ⟨rfl, hw⟩; obtain rfl := hw.symm)
          go_ret
          exact ⟨rfl, below_alloc _ _⟩
        · have hr : wr c b = [92, 120] ++ [hx (c / 16), hx (c % 16)] := by unfold wr; rw [h, if_neg (by decide), if_neg c1, if_neg c2, if_neg c3, if_neg c4]; rfl
          rw [hr, ← bs_append]
          have ha := index_hex (c / 16) (by omega) (kd := .u8)
          have hb := index_hex (c % 16) (by omega) (kd := .u8)
          have la := hxN_lt (c / 16) (by omega)
          have lb := hxN_lt (c % 16) (by omega)
          have hk := conv2 w.drew _ _ la lb
          have e1 : bs [92, 120] = ⟨#[92, 120]⟩ := rfl
          have e2 : [hx (c / 16), hx (c % 16)] = [UInt8.ofNat (hxN (c / 16)), UInt8.ofNat (hxN (c % 16))] := rfl
          rw [e1, e2]
          have hsz : (bs [UInt8.ofNat (hxN (c / 16)), UInt8.ofNat (hxN (c % 16))]).size = 2 := by rw [bs_size]; rfl
          have hk2 : (convert 40 9 (.slice (some ⟨w.heap.size, 0, none⟩) 2 2)).run Tryd.prog (w.alloc (.cells #[.int .u8 (hxN (c / 16) : Nat), .int .u8 (hxN (c % 16) : Nat)] 5)).drew = .ok (.string (bs [UInt8.ofNat (hxN (c / 16)), UInt8.ofNat (hxN (c % 16))])) (w.alloc (.cells #[.int .u8 (hxN (c / 16) : Nat), .int .u8 (hxN (c % 16) : Nat)] 5)).drew := hk
          have hk3 : (convert 40 9 (.slice (some ⟨w.heap.size, 0, none⟩) 2 2)).run Tryd.prog (w.drew.alloc (.cells #[.int .u8 (hxN (c / 16) : Nat), .int .u8 (hxN (c % 16) : Nat)] 5)) = .ok (.string (bs [UInt8.ofNat (hxN (c / 16)), UInt8.ofNat (hxN (c % 16))])) (w.drew.alloc (.cells #[.int .u8 (hxN (c / 16) : Nat), .int .u8 (hxN (c % 16) : Nat)] 5)) := hk
          generalize bs [UInt8.ofNat (hxN (c / 16)), UInt8.ofNat (hxN (c % 16))] = t at *
          generalize hxN (c / 16) = xa at *
          generalize hxN (c % 16) = xb at *
          have hz : ¬ 9223372036854775807 < (⟨#[92, 120]⟩ : ByteArray).size + t.size := by rw [hsz]; decide
          have g0 : (c : Int) / 2 ^ (4 : Int).toNat = ((c / 16 : Nat) : Int) := by
            have : (2 : Int) ^ (4 : Int).toNat = 16 := by decide
            rw [this]; omega
          have g3 : bits .and .u8 (c : Int) 15 = ((c % 16 : Nat) : Int) := by
            have := u8_and_nat c 15 hc (by decide)
            rw [show c &&& 15 = c % 16 from Nat.and_two_pow_sub_one_eq_mod c 4] at this
            exact this
          have g1 : (c : Int) / 16 = ((c / 16 : Nat) : Int) := by omega
          have g2 : (c : Int) % 16 = ((c % 16 : Nat) : Int) := by omega
          have C4 := (show Hid (¬ (33 ≤ c ∧ c ≤ 126)) from c4)
          clear e2 hsz
          have h16 : c / 16 < 16 := by omega
          have h17 : c % 16 < 16 := by omega
          clear hr c4
          generalize c / 16 = qa at *
          generalize c % 16 = qb at *
          by_cases c5 : 32 < c
          · have f4 : decide ((32 : Int) < (c : Int)) = true := decide_eq_true (by omega)
            have f5 : decide ((c : Int) ≤ 126) = false := decide_eq_false (by have := C4.out; omega)
            clear h c1 c2 c3
            go_enter Tryd.func37, Tryd.ntmps37
            go_wp2_with (go_at_call 55; refine (hi _).mono ?_; rintro e w1 ⟨rfl, hw⟩; obtain rfl := hw.symm)
            go_region_with (fail)
            all_goals go_wp2
            all_goals go_ret
            all_goals exact ⟨rfl, Below.drew (below_alloc _ _)⟩
          · have f4 : decide ((32 : Int) < (c : Int)) = false := decide_eq_false (by have := C4.out; omega)
            clear h c1 c2 c3
            go_enter Tryd.func37, Tryd.ntmps37
            go_wp2_with (go_at_call 55; refine (hi _).mono ?_; rintro e w1 ⟨rfl, hw⟩; obtain rfl := hw.symm)
            go_region_with (fail)
            all_goals go_wp2
            all_goals go_ret
            all_goals exact ⟨rfl, Below.drew (below_alloc _ _)⟩
theorem byte_any (c : Nat) (b : Bool) (hc : c < 256) (r : L8) (hr : r = wr c b) : ByteIs c b r := by
  subst hr
  cases h : (isSign c || (b && (decide (c = 45) || decide (c = 47))))
  · exact byte_n c b hc h
  · exact byte_sign c b hc h
end Go.Proofs.YtfclidcfhadohaaDoor.rp
