/-
  Contracts over this program: the document's text of a byte (Sign, letter, written).
-/
import Derived.Test.YtfclidcfhadohaaDoorPc

namespace Go.Proofs.YtfclidcfhadohaaDoor.rp
open Go.Proofs.YtfclidcfhadohaaDoor.st
open Go.Proofs.YtfclidcfhadohaaDoor.sp (chain)
open Go.ChangeShapes Go.WideShapes Go.ChangeAt Go.RowKit
set_option linter.unusedVariables false

def SignIs (c : Int) (r : Bool) : Prop := ∀ w, Calls Tryd.prog 59 #[.int .i64 c] w fun e w' => e = .returned (.bool r) ∧ RowKit.Below w.heap.size w w'
def signRow : Obj := .cells #[.int .u8 92, .int .u8 40, .int .u8 41, .int .u8 91, .int .u8 93, .int .u8 123, .int .u8 125, .int .u8 46, .int .u8 42, .int .u8 43, .int .u8 63, .int .u8 124, .int .u8 94, .int .u8 36] 5 (14, 15)
theorem convert_row (w : World) : (convert 40 40 (.slice (some ⟨w.heap.size, 0, none⟩) 14 14)).run Tryd.prog (w.alloc (.cells #[.int .u8 92, .int .u8 40, .int .u8 41, .int .u8 91, .int .u8 93, .int .u8 123, .int .u8 125, .int .u8 46, .int .u8 42, .int .u8 43, .int .u8 63, .int .u8 124, .int .u8 94, .int .u8 36] 5)) = .ok (.slice (some ⟨w.heap.size, 0, none⟩) 14 14) (w.alloc (.cells #[.int .u8 92, .int .u8 40, .int .u8 41, .int .u8 91, .int .u8 93, .int .u8 123, .int .u8 125, .int .u8 46, .int .u8 42, .int .u8 43, .int .u8 63, .int .u8 124, .int .u8 94, .int .u8 36] 5 (14, 15))) :=
  Lib.run_convert_bytes_const w 40 5 _ 14 14 Tryd.underlying40 Tryd.underlying5
theorem sign_cell (w : World) (k : Nat) (hk : k < 14) : ∃ s : Nat, s < 256 ∧ sgs[k]? = some s ∧ (w.alloc signRow).cell? ⟨w.heap.size, k, none⟩ = some (.int .u8 s) := by
  have h : (w.alloc signRow).heap[w.heap.size]? = some signRow := heap_alloc_new w _
  have hc : (w.alloc signRow).cell? ⟨w.heap.size, k, none⟩ = _ := Lib.cell_of_heap h k
  rw [hc]
  match k, hk with
  | 0, _ => exact ⟨_, by decide, rfl, rfl⟩
  | 1, _ => exact ⟨_, by decide, rfl, rfl⟩
  | 2, _ => exact ⟨_, by decide, rfl, rfl⟩
  | 3, _ => exact ⟨_, by decide, rfl, rfl⟩
  | 4, _ => exact ⟨_, by decide, rfl, rfl⟩
  | 5, _ => exact ⟨_, by decide, rfl, rfl⟩
  | 6, _ => exact ⟨_, by decide, rfl, rfl⟩
  | 7, _ => exact ⟨_, by decide, rfl, rfl⟩
  | 8, _ => exact ⟨_, by decide, rfl, rfl⟩
  | 9, _ => exact ⟨_, by decide, rfl, rfl⟩
  | 10, _ => exact ⟨_, by decide, rfl, rfl⟩
  | 11, _ => exact ⟨_, by decide, rfl, rfl⟩
  | 12, _ => exact ⟨_, by decide, rfl, rfl⟩
  | 13, _ => exact ⟨_, by decide, rfl, rfl⟩
set_option maxHeartbeats 1000000 in
theorem sign_any (c : Int) (r : Bool) (hr : r = decide (∃ s ∈ sgs, (s : Int) = c)) : SignIs c r := by
  intro w
  have hcv := convert_row w
  have HR : Hid (r = decide (∃ s ∈ sgs, (s : Int) = c)) := hr
  clear hr
  go_enter Tryd.func59, Tryd.ntmps59
  go_wp2
  obtain ⟨W, hW⟩ : ∃ W, W = w.alloc (.cells #[.int .u8 92, .int .u8 40, .int .u8 41, .int .u8 91, .int .u8 93, .int .u8 123, .int .u8 125, .int .u8 46, .int .u8 42, .int .u8 43, .int .u8 63, .int .u8 124, .int .u8 94, .int .u8 36] 5 (14, 15)) := ⟨_, rfl⟩
  have hB : RowKit.Below w.heap.size w W := by rw [hW]; exact below_alloc _ _
  have hcell : ∀ k, k < 14 → ∃ s : Nat, s < 256 ∧ sgs[k]? = some s ∧ W.cell? ⟨w.heap.size, k, none⟩ = some (.int .u8 s) := by rw [hW]; exact sign_cell w
  rw [← hW]
  clear hW hcv
  go_loopw [8] (fun x wr => ∃ k : Nat, x = .int .i64 k ∧ k ≤ 14 ∧ wr = W ∧ ∀ j, j < k → ∀ s, sgs[j]? = some s → (s : Int) ≠ c) (fun x _ => 14 - (intOf x).toNat)
  case atStart => exact ⟨0, rfl, by omega, rfl, fun j hj => absurd hj (Nat.not_lt_zero _)⟩
  case round =>
    obtain ⟨k, rfl, hk, rfl, hall⟩ := hrel
    by_cases hk14 : k < 14
    · obtain ⟨s, hs, hsk, hc⟩ := hcell k hk14
      by_cases he : (s : Int) = c
      · have f : ((s : Int) == c) = true := by simpa using he
        have : decide (∃ s ∈ sgs, (s : Int) = c) = true := by rw [decide_eq_true_eq]; exact ⟨s, List.mem_of_getElem? hsk, he⟩
        rw [this] at HR
        obtain rfl : r = true := HR.out
        clear hall he this HR hcell
        go_wp2
        go_ret
        exact ⟨rfl, hB⟩
      · have f : ((s : Int) == c) = false := by simpa using he
        clear HR
        go_wp2
        go_roundw
        case rel => exact ⟨k + 1, rfl, by omega, trivial, fun j hj t ht => by
            by_cases hjk : j = k
            · subst hjk; rw [hsk] at ht; cases ht; exact he
            · exact hall j (by omega) t ht⟩
        case measure => simp [intOf]; omega
    · have : k = 14 := by omega
      subst this
      have : decide (∃ s ∈ sgs, (s : Int) = c) = false := by
        rw [decide_eq_false_iff_not]
        rintro ⟨s, hs, he⟩
        obtain ⟨j, hj⟩ := List.getElem?_of_mem hs
        have hj14 : j < 14 := (List.getElem?_eq_some_iff.1 hj).1
        exact hall j hj14 s hj he
      rw [this] at HR
      obtain rfl : r = false := HR.out
      clear hall this HR hcell
      go_wp2
      go_ret
      exact ⟨rfl, hB⟩

theorem sgs_is (c : Nat) : decide (∃ s ∈ sgs, (s : Int) = (c : Int)) = isSign c := by
  unfold isSign
  rw [decide_eq_decide]
  constructor
  · rintro ⟨s, hs, he⟩
    obtain rfl : s = c := by omega
    exact hs
  · intro h
    exact ⟨c, h, rfl⟩

def LetterIs (k : Nat) : Prop := ∀ w, Calls Tryd.prog 60 #[.int .u8 k] w fun e w' => e = .returned (.string (bs [hx k])) ∧ Below w.heap.size w w'
theorem letter_any (k : Nat) (hk : k < 16) : LetterIs k := by
  intro w
  by_cases h : k < 10
  · have hr : hx k = UInt8.ofNat (48 + k) := by unfold hx; rw [if_pos h]
    rw [hr]
    have hv := conv1 w (48 + k) (by omega)
    generalize bs [UInt8.ofNat (48 + k)] = t at *
    have f : decide ((k : Int) < 10) = true := decide_eq_true (by omega)
    have e : (48 : Int) + (k : Int) = ((48 + k : Nat) : Int) := by omega
    have hlt : 48 + k < 256 := by omega
    generalize 48 + k = x at *
    go_enter Tryd.func60, Tryd.ntmps60
    go_wp2
    go_ret
    exact ⟨rfl, below_alloc _ _⟩
  · have hr : hx k = UInt8.ofNat (87 + k) := by unfold hx; rw [if_neg h]
    rw [hr]
    have hv := conv1 w (87 + k) (by omega)
    generalize bs [UInt8.ofNat (87 + k)] = t at *
    have f : decide ((k : Int) < 10) = false := decide_eq_false (by omega)
    have e : (97 : Int) + (k : Int) - 10 = ((87 + k : Nat) : Int) := by omega
    have hlt : 87 + k < 256 := by omega
    generalize 87 + k = x at *
    go_enter Tryd.func60, Tryd.ntmps60
    go_wp2
    go_ret
    exact ⟨rfl, below_alloc _ _⟩

def WrittenIs (c : Nat) (b : Bool) (r : L8) : Prop := ∀ w, Calls Tryd.prog 43 #[.int .u8 c, .bool b] w fun e w' => e = .returned (.string (bs r)) ∧ Below w.heap.size w w'
set_option maxHeartbeats 2000000 in
set_option maxRecDepth 100000 in
theorem written_any (c : Nat) (b : Bool) (hc : c < 256) (r : L8) (hr0 : r = wr c b) : WrittenIs c b r := by
  intro w
  subst hr0
  have hs := sign_any (c : Int) (isSign c) (sgs_is c).symm
  by_cases c1 : c = 10
  · subst c1
    have hr : wr 10 b = [92, 110] := by cases b <;> rfl
    rw [hr]
    clear hs hr
    go_enter Tryd.func43, Tryd.ntmps43
    go_wp2
    go_ret
    exact ⟨rfl, Below.refl _ _⟩
  · have f1 : ((c : Int) == 10) = false := by simp; omega
    by_cases c2 : c = 9
    · subst c2
      have hr : wr 9 b = [92, 116] := by cases b <;> rfl
      rw [hr]
      clear hs hr
      go_enter Tryd.func43, Tryd.ntmps43
      go_wp2
      go_ret
      exact ⟨rfl, Below.refl _ _⟩
    · have f2 : ((c : Int) == 9) = false := by simp; omega
      by_cases c3 : c = 13
      · subst c3
        have hr : wr 13 b = [92, 114] := by cases b <;> rfl
        rw [hr]
        clear hs hr
        go_enter Tryd.func43, Tryd.ntmps43
        go_wp2
        go_ret
        exact ⟨rfl, Below.refl _ _⟩
      · have f3 : ((c : Int) == 13) = false := by simp; omega
        cases h : (isSign c || (b && (decide (c = 45) || decide (c = 47))))
        · -- not escaped
          have hg : isSign c = false := by cases hx : isSign c <;> simp [hx] at h ⊢
          rw [hg] at hs
          by_cases c4 : 33 ≤ c ∧ c ≤ 126
          · have hr : wr c b = [UInt8.ofNat c] := by unfold wr; rw [h, if_neg (by decide), if_neg c1, if_neg c2, if_neg c3, if_pos c4]
            rw [hr]
            have f4 : decide ((33 : Int) ≤ (c : Int)) = true := decide_eq_true (by omega)
            have f5 : decide ((c : Int) ≤ 126) = true := decide_eq_true (by omega)
            have hk := fun W => conv1 W c hc
            generalize bs [UInt8.ofNat c] = t at *
            cases b
            · clear h hr c1 c2 c3 c4 hg
              go_enter Tryd.func43, Tryd.ntmps43
              go_wp2_with (go_at_call 59; refine (hs _).mono ?_; rintro e w1 ⟨rfl, b1⟩)
              go_ret
              exact ⟨rfl, chain b1 (below_alloc _ _)⟩
            · have c5 : c ≠ 45 := by rintro rfl; simp at h
              have c6 : c ≠ 47 := by rintro rfl; simp at h
              have f6 : ((c : Int) == 45) = false := by simp; omega
              have f7 : ((c : Int) == 47) = false := by simp; omega
              clear h hr c1 c2 c3 c4 c5 c6 hg
              go_enter Tryd.func43, Tryd.ntmps43
              go_wp2_with (go_at_call 59; refine (hs _).mono ?_; rintro e w1 ⟨rfl, b1⟩)
              go_ret
              exact ⟨rfl, chain b1 (below_alloc _ _)⟩
          · have hr : wr c b = ([92, 120] ++ [hx (c / 16)]) ++ [hx (c % 16)] := by unfold wr; rw [h, if_neg (by decide), if_neg c1, if_neg c2, if_neg c3, if_neg c4]; rfl
            rw [hr, ← bs_append, ← bs_append]
            have C4 := (show Hid (¬ (33 ≤ c ∧ c ≤ 126)) from c4)
            have ha := letter_any (c / 16) (by omega)
            have hb := letter_any (c % 16) (by omega)
            have e1 : bs [92, 120] = ⟨#[92, 120]⟩ := rfl
            rw [e1]
            have z1 : (bs [hx (c / 16)]).size = 1 := by rw [bs_size]; rfl
            have z2 : (bs [hx (c % 16)]).size = 1 := by rw [bs_size]; rfl
            unfold LetterIs at ha hb
            generalize bs [hx (c / 16)] = ta at *
            generalize bs [hx (c % 16)] = tb at *
            have hz : ¬ 9223372036854775807 < (⟨#[92, 120]⟩ : ByteArray).size + ta.size := by rw [z1]; decide
            have hz2 : ¬ 9223372036854775807 < ((⟨#[92, 120]⟩ : ByteArray) ++ ta).size + tb.size := by rw [ByteArray.size_append, z1, z2]; decide
            have g1 : (c : Int) / 16 = ((c / 16 : Nat) : Int) := by omega
            have g2 : (c : Int) % 16 = ((c % 16 : Nat) : Int) := by omega
            have g3 : Int.tdiv (c : Int) 16 = ((c / 16 : Nat) : Int) := by rw [Int.tdiv_eq_ediv_of_nonneg (by omega)]; exact g1
            have g4 : Int.tmod (c : Int) 16 = ((c % 16 : Nat) : Int) := by rw [Int.tmod_eq_emod_of_nonneg (by omega)]; exact g2
            have h16 : c / 16 < 16 := by omega
            have h17 : c % 16 < 16 := by omega
            have B45 : Hid (b = true → c ≠ 45 ∧ c ≠ 47) := by
              rintro rfl
              exact ⟨by rintro rfl; simp at h, by rintro rfl; simp at h⟩
            clear hr h hg c1 c2 c3 c4
            generalize c / 16 = qa at *
            generalize c % 16 = qb at *
            by_cases c5 : 33 ≤ c
            · have f4 : decide ((33 : Int) ≤ (c : Int)) = true := decide_eq_true (by omega)
              have f5 : decide ((c : Int) ≤ 126) = false := decide_eq_false (by have := C4.out; omega)
              cases b
              · clear c5
                go_enter Tryd.func43, Tryd.ntmps43
                go_wp2_with (first | (go_at_call 59; refine (hs _).mono ?_; rintro e w1 ⟨rfl, b1⟩) | (go_at_call 60; (with_reducible refine (ha _).mono ?_); rintro e w2 ⟨rfl, b2⟩) | (go_at_call 60; (with_reducible refine (hb _).mono ?_); rintro e w3 ⟨rfl, b3⟩))
                go_ret
                exact ⟨rfl, chain (chain b1 b2) b3⟩
              · clear c5
                have f6 : ((c : Int) == 45) = false := by have := B45.out rfl; simp; omega
                have f7 : ((c : Int) == 47) = false := by have := B45.out rfl; simp; omega
                go_enter Tryd.func43, Tryd.ntmps43
                go_wp2_with (first | (go_at_call 59; refine (hs _).mono ?_; rintro e w1 ⟨rfl, b1⟩) | (go_at_call 60; (with_reducible refine (ha _).mono ?_); rintro e w2 ⟨rfl, b2⟩) | (go_at_call 60; (with_reducible refine (hb _).mono ?_); rintro e w3 ⟨rfl, b3⟩))
                go_ret
                exact ⟨rfl, chain (chain b1 b2) b3⟩
            · have f4 : decide ((33 : Int) ≤ (c : Int)) = false := decide_eq_false (by omega)
              cases b
              · clear c5
                go_enter Tryd.func43, Tryd.ntmps43
                go_wp2_with (first | (go_at_call 59; refine (hs _).mono ?_; rintro e w1 ⟨rfl, b1⟩) | (go_at_call 60; (with_reducible refine (ha _).mono ?_); rintro e w2 ⟨rfl, b2⟩) | (go_at_call 60; (with_reducible refine (hb _).mono ?_); rintro e w3 ⟨rfl, b3⟩))
                go_ret
                exact ⟨rfl, chain (chain b1 b2) b3⟩
              · clear c5
                have f6 : ((c : Int) == 45) = false := by have := B45.out rfl; simp; omega
                have f7 : ((c : Int) == 47) = false := by have := B45.out rfl; simp; omega
                go_enter Tryd.func43, Tryd.ntmps43
                go_wp2_with (first | (go_at_call 59; refine (hs _).mono ?_; rintro e w1 ⟨rfl, b1⟩) | (go_at_call 60; (with_reducible refine (ha _).mono ?_); rintro e w2 ⟨rfl, b2⟩) | (go_at_call 60; (with_reducible refine (hb _).mono ?_); rintro e w3 ⟨rfl, b3⟩))
                go_ret
                exact ⟨rfl, chain (chain b1 b2) b3⟩
        · by_cases hg : isSign c = true
          · have hr : wr c b = [92] ++ [UInt8.ofNat c] := by unfold wr; rw [if_pos h]; rfl
            rw [hr, ← bs_append]
            rw [hg] at hs
            have hk := fun W => conv1 W c hc
            have e1 : bs [92] = ⟨#[92]⟩ := rfl
            rw [e1]
            have hsz : (bs [UInt8.ofNat c]).size = 1 := by rw [bs_size]; rfl
            generalize bs [UInt8.ofNat c] = t at *
            have hz : ¬ 9223372036854775807 < (⟨#[92]⟩ : ByteArray).size + t.size := by rw [hsz]; decide
            clear h hr c1 c2 c3 hg
            go_enter Tryd.func43, Tryd.ntmps43
            go_wp2_with (go_at_call 59; refine (hs _).mono ?_; rintro e w1 ⟨rfl, b1⟩)
            go_ret
            exact ⟨rfl, chain b1 (below_alloc _ _)⟩
          · have hg : isSign c = false := by simpa using hg
            rw [hg] at hs
            rw [hg, Bool.false_or, Bool.and_eq_true, Bool.or_eq_true, decide_eq_true_eq, decide_eq_true_eq] at h
            obtain ⟨rfl, h45⟩ := h
            rcases h45 with rfl | rfl
            · have hr : wr 45 true = [92] ++ [45] := rfl
              rw [hr, ← bs_append]
              have hk : ∀ W : World, (convert 40 9 (.slice (some ⟨W.heap.size, 0, none⟩) 1 1)).run Tryd.prog (W.alloc (.cells #[.int .u8 45] 5)) = .ok (.string (bs [45])) (W.alloc (.cells #[.int .u8 45] 5)) := fun W => conv1 W 45 (by decide)
              have e1 : bs [92] = ⟨#[92]⟩ := rfl
              rw [e1]
              have hsz : (bs [45]).size = 1 := by rw [bs_size]; rfl
              generalize bs [45] = t at *
              have hz : ¬ 9223372036854775807 < (⟨#[92]⟩ : ByteArray).size + t.size := by rw [hsz]; decide
              clear hr c1 c2 c3 hg
              go_enter Tryd.func43, Tryd.ntmps43
              go_wp2_with (go_at_call 59; refine (hs _).mono ?_; rintro e w1 ⟨rfl, b1⟩)
              go_ret
              exact ⟨rfl, chain b1 (below_alloc _ _)⟩
            · have hr : wr 47 true = [92] ++ [47] := rfl
              rw [hr, ← bs_append]
              have hk : ∀ W : World, (convert 40 9 (.slice (some ⟨W.heap.size, 0, none⟩) 1 1)).run Tryd.prog (W.alloc (.cells #[.int .u8 47] 5)) = .ok (.string (bs [47])) (W.alloc (.cells #[.int .u8 47] 5)) := fun W => conv1 W 47 (by decide)
              have e1 : bs [92] = ⟨#[92]⟩ := rfl
              rw [e1]
              have hsz : (bs [47]).size = 1 := by rw [bs_size]; rfl
              generalize bs [47] = t at *
              have hz : ¬ 9223372036854775807 < (⟨#[92]⟩ : ByteArray).size + t.size := by rw [hsz]; decide
              clear hr c1 c2 c3 hg
              go_enter Tryd.func43, Tryd.ntmps43
              go_wp2_with (go_at_call 59; refine (hs _).mono ?_; rintro e w1 ⟨rfl, b1⟩)
              go_ret
              exact ⟨rfl, chain b1 (below_alloc _ _)⟩
end Go.Proofs.YtfclidcfhadohaaDoor.rp
