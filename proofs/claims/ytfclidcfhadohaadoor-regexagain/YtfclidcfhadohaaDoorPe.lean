/-
  Contracts over this program: how many bytes stand one behind the other (regex.inRow).
-/
import Derived.Test.YtfclidcfhadohaaDoorPc
import Derived.Deep.QuietTactic
import Derived.BigQuiet
namespace Go.Proofs.YtfclidcfhadohaaDoor.rp
open Go.Proofs.YtfclidcfhadohaaDoor.st
open Go.Proofs.YtfclidcfhadohaaDoor.sp (chain)
open Go.ChangeShapes Go.WideShapes Go.ChangeAt Go.RowKit
set_option linter.unusedVariables false

/-- bytes that rise, as a text -/
def tx (l : List Nat) : ByteArray := bs (l.map UInt8.ofNat)
theorem tx_size (l : List Nat) : (tx l).size = l.length := by unfold tx; rw [bs_size, List.length_map]
def Rise (l : List Nat) : Prop := (∀ x ∈ l, x < 256) ∧ ∀ i j (hi : i < l.length) (hj : j < l.length), i < j → l[i] < l[j]
theorem Rise.drop {l : List Nat} (h : Rise l) (n : Nat) : Rise (l.drop n) :=
  ⟨fun x hx => h.1 x (List.mem_of_mem_drop hx), fun i j hi hj hij => by
    rw [List.getElem_drop, List.getElem_drop]
    exact h.2 _ _ _ _ (by omega)⟩
theorem rise_mem (q : Q4) : Rise (mem q) := by
  constructor
  · intro x hx; exact mem_lt hx
  · have hp : (mem q).Pairwise (· < ·) := by
      unfold mem
      exact List.Pairwise.filter _ List.pairwise_lt_range
    intro i j hi hj hij
    exact List.pairwise_iff_getElem.1 hp i j hi hj hij
theorem tx_text (q : Q4) : sp.text q = tx (mem q) := rfl
theorem tx_at (l : List Nat) (h : Rise l) (i : Nat) (hi : i < l.length) (hs : i < (tx l).size) : ((tx l)[i]'hs).toNat = l[i] := by
  have hlt := h.1 l[i] (List.getElem_mem hi)
  have e : (tx l)[i]'hs = (l.map UInt8.ofNat)[i]'(by simpa using hi) := rfl
  rw [e]
  simp [Nat.mod_eq_of_lt hlt]
theorem tx_drop (l : List Nat) (n : Nat) : (tx l).extract n (tx l).size = tx (l.drop n) := by
  apply ByteArray.ext
  simp [tx, bs, ByteArray.size]
  rw [List.take_of_length_le (by simp)]

def rowN : List Nat → Nat
  | [] => 0
  | c :: l => rn c l + 1
theorem rowN_eq (l : List Nat) (n : Nat) (h0 : 0 < l.length) (h1 : 1 ≤ n) (hn : n ≤ l.length) (ha : ∀ i, i < n → (hl : i < l.length) → l[i] = l[0] + i) (hb : (hl : n < l.length) → l[n] ≠ l[0] + n) : rowN l = n := by
  cases l with
  | nil => simp at h0
  | cons c l =>
    simp only [List.length_cons] at hn
    have := rn_eq c l (n - 1) (by omega) (fun i hi hl => by
      have := ha (i + 1) (by omega) (by simp; omega)
      simp only [List.getElem_cons_succ, List.getElem_cons_zero] at this
      omega) (fun hl => by
      have := hb (by simp; omega)
      obtain ⟨m, rfl⟩ : ∃ m, n = m + 1 := ⟨n - 1, by omega⟩
      simp only [List.getElem_cons_succ, List.getElem_cons_zero] at this
      simp only [Nat.add_sub_cancel]
      omega)
    show rn c l + 1 = n
    omega

theorem below_drewN {B : Nat} {a w : World} (h : Below B a w) (n : Nat) : Below B a (w.drewN n) := ⟨h.os, h.tape, h.output, h.size, h.block⟩
def RowIs (u : ByteArray) (r : Nat) : Prop := ∀ w, Calls Tryd.prog 57 #[.string u] w fun e w' => e = .returned (.int .i64 r) ∧ Below w.heap.size w w'
set_option maxHeartbeats 1000000 in
set_option maxRecDepth 100000 in
theorem row_any (l : List Nat) (h : Rise l) (h0 : 0 < l.length) (h256 : l.length ≤ 256) (r : Nat) (hr : r = rowN l) : RowIs (tx l) r := by
  intro w
  have HR : Hid (r = rowN l) := hr
  have HA : Hid (∀ i (hi : i < l.length) (hs : i < (tx l).size), ((tx l)[i]'hs).toNat = l[i]) := fun i hi hs => tx_at l h i hi hs
  have HH : Hid (Rise l) := h
  have hsz := tx_size l
  clear h hr
  generalize hu : tx l = u at *
  clear hu
  go_enter Tryd.func57, Tryd.ntmps57
  go_wp2
  go_loopw [3] (fun x wr => ∃ m : Nat, x = .int .i64 ((m + 1 : Nat) : Int) ∧ m + 1 ≤ l.length ∧ Below w.heap.size w wr ∧ Hid (∀ i, i < m + 1 → (hl : i < l.length) → l[i] = l[0] + i)) (fun x _ => 300 - (intOf x).toNat)
  case atStart => exact ⟨0, rfl, by omega, Below.refl _ _, fun i hi hl => by obtain rfl : i = 0 := by omega
                                                                             rfl⟩
  case round =>
    obtain ⟨m, rfl, hm, hB, HI⟩ := hrel
    by_cases hin : m + 1 < l.length
    · have g0 : decide ((m : Int) + 1 < (l.length : Int)) = true := decide_eq_true (by omega)
      have hx1 : m + 1 < u.size := by omega
      have hx2 : m < u.size := by omega
      have ea := HA.out (m + 1) hin hx1
      have eb := HA.out m (by omega) hx2
      have hlt := HH.out.2 m (m + 1) (by omega) hin (by omega)
      have hlt2 := HH.out.1 _ (List.getElem_mem hin)
      rw [← ea, ← eb] at hlt
      rw [← ea] at hlt2
      have HE := (show Hid (u[m + 1].toNat = l[m + 1] ∧ u[m].toNat = l[m]) from ⟨ea, eb⟩)
      clear ea eb
      have e1 : ((m : Int) + 1 - 1) = (m : Int) := by omega
      generalize hp : u[m + 1].toNat = p at *
      generalize hq : u[m].toNat = q at *
      by_cases heq : p = q + 1
      · have f : ((p : Int) == (q : Int) + 1) = true := by simp; omega
        have HN : Hid (∀ i, i < m + 1 + 1 → (hl : i < l.length) → l[i] = l[0] + i) := fun i hi hl => by
          by_cases hi2 : i < m + 1
          · exact HI.out i hi2 hl
          · obtain rfl : i = m + 1 := by omega
            have := HI.out m (by omega) (by omega)
            have := HE.out
            omega
        go_wp2
        go_quiet (fail)
        go_wp2
        go_roundw
        case rel => exact ⟨m + 1, by go_num, by omega, below_drewN hB _, HN⟩
        case measure => simp [intOf]; omega
      · have f : ((p : Int) == (q : Int) + 1) = false := by simp; omega
        have HF : Hid (r = m + 1) := by
          show _ = _
          rw [HR.out]
          exact rowN_eq l (m + 1) h0 (by omega) (by omega) HI.out (fun hl => by
            have := HI.out m (by omega) (by omega)
            have := HE.out
            omega)
        go_wp2
        go_quiet (fail)
        go_wp2
        go_ret
        exact ⟨by rw [HF.out]; rfl, below_drewN hB _⟩
    · have g0 : decide ((m : Int) + 1 < (l.length : Int)) = false := decide_eq_false (by omega)
      have HF : Hid (r = m + 1) := by
        show _ = _
        rw [HR.out]
        exact rowN_eq l (m + 1) h0 (by omega) (by omega) HI.out (fun hl => by omega)
      go_wp2
      go_quiet (fail)
      go_wp2
      go_ret
      exact ⟨by rw [HF.out]; rfl, below_drewN hB _⟩
end Go.Proofs.YtfclidcfhadohaaDoor.rp
