/-
  Contracts over this program: whether a row's elements are states or none (dfa.goOn).
-/
import Derived.Test.YtkdkibnjfgcppaaDa
namespace Go.Proofs.Ytkdkibnjfgcppaa.df
open Go.ChangeShapes Go.WideShapes Go.ChangeAt Go.RowKit
set_option linter.unusedVariables false

theorem all_take {α : Type} (p : α → Bool) (l : List α) (i : Nat) (h : i < l.length) : (l.take (i + 1)).all p = ((l.take i).all p && p l[i]) := by
  rw [List.take_add_one, List.getElem?_eq_getElem h, List.all_append]
  simp only [Option.toList_some, List.all_cons, List.all_nil, Bool.and_true]
theorem all_no {α : Type} (p : α → Bool) (l : List α) (i : Nat) (h : i < l.length) (hp : p l[i] = false) : l.all p = false := by
  rw [List.all_eq_false]
  exact ⟨l[i], List.getElem_mem h, by simp [hp]⟩

def GoIs (n : Nat) (r : List Int) (a : Bool) : Prop := ∀ o cap w, Row (In w) w iv o cap r → Calls Try.prog 37 #[.slice o r.length cap, .int .i64 (n : Int)] w fun e w' => e = .returned (.bool a) ∧ w' = w
set_option maxHeartbeats 1000000 in
theorem goOn_any (n : Nat) (hn : n ≤ 400) (r : List Int) (a : Bool) (ha : a = goOn n r) : GoIs n r a := by
  intro o cap w hR
  have hfit := hR.fit
  have htop := hR.top
  have HR : Hid (Row (In w) w iv o cap r) := hR
  have HA : Hid (a = goOn n r) := ha
  clear hR ha
  go_enter Try.func37, Try.ntmps37
  go_wp2
  go_loop [9] (fun y => ∃ i : Nat, y = .int .i64 i ∧ i ≤ r.length ∧ Hid ((r.take i).all (fun x => decide (-1 ≤ x) && decide (x < (n : Int))) = true)) (fun y => r.length - (intOf y).toNat)
  case atStart => exact ⟨0, rfl, by omega, by show _ = _; simp⟩
  case round =>
    obtain ⟨i, rfl, hil, HI⟩ := hrel
    by_cases hend : i < r.length
    · obtain ⟨b, off, rfl, hb, hc⟩ := HR.out.lie i hend
      have hall := all_take (fun x => decide (-1 ≤ x) && decide (x < (n : Int))) r i hend
      have hno := all_no (fun x => decide (-1 ≤ x) && decide (x < (n : Int))) r i hend
      rw [HI.out, Bool.true_and] at hall
      unfold In at hb
      obtain ⟨x, hx⟩ : ∃ x, x = r[i] := ⟨_, rfl⟩
      rw [← hx] at hc hall hno
      clear hx
      have HA2 : Hid (a = goOn n r) := HA
      unfold goOn at HA2
      have HNO : Hid ((decide (-1 ≤ x) && decide (x < (n : Int))) = false → a = false) := fun h => HA2.out.trans (hno h)
      have HALL : Hid ((r.take (i + 1)).all (fun x => decide (-1 ≤ x) && decide (x < (n : Int))) = (decide (-1 ≤ x) && decide (x < (n : Int)))) := hall
      clear hno hall HA2
      by_cases g0 : x < -1
      · have f0 : decide (x < -1) = true := decide_eq_true g0
        have HF : Hid (a = false) := HNO.out (by simp; omega)
        clear g0 HNO HALL
        go_wp2
        go_ret
        exact ⟨by rw [HF.out]; rfl, rfl⟩
      · have f0 : decide (x < -1) = false := decide_eq_false g0
        by_cases g1 : (n : Int) ≤ x
        · have f1 : decide ((n : Int) ≤ x) = true := decide_eq_true g1
          have HF : Hid (a = false) := HNO.out (by simp; omega)
          clear g0 g1 HNO HALL
          go_wp2
          go_ret
          exact ⟨by rw [HF.out]; rfl, rfl⟩
        · have f1 : decide ((n : Int) ≤ x) = false := decide_eq_false g1
          have HT : Hid ((r.take (i + 1)).all (fun x => decide (-1 ≤ x) && decide (x < (n : Int))) = true) := by show _ = _; rw [HALL.out]; simp; omega
          clear g0 g1 HNO HALL
          go_wp2
          go_round
          case rel => exact ⟨i + 1, by go_num, by omega, HT⟩
          case measure => simp [intOf]; omega
    · have HF : Hid (a = true) := by
        show _ = _
        have := HI.out
        rw [List.take_of_length_le (by omega)] at this
        rw [HA.out]
        exact this
      go_wp2
      go_ret
      exact ⟨by rw [HF.out]; rfl, rfl⟩
end Go.Proofs.Ytkdkibnjfgcppaa.df
