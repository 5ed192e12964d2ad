/-
  Plain: keys that rise by steps; and over this program: the hash made of them is one that may be.
-/
import Derived.Test.YtfpkjgalokbkcaaIj
namespace Go.Proofs.Ytfpkjgalokbkcaa.hs
open Go.ChangeShapes Go.WideShapes Go.ChangeAt Go.RowKit
set_option linter.unusedVariables false

def tot (l : List Nat) : Nat → Nat
  | 0 => 0
  | i + 1 => tot l i + (l.getD i 0 + 1)
def kks (l : List Nat) (n : Nat) : List Nat := (List.range n).map fun j => tot l (j + 1)
def vvs (n : Nat) : List Nat := (List.range n).map fun j => j + 7
theorem kks_len (l : List Nat) (n : Nat) : (kks l n).length = n := by simp [kks]
theorem vvs_len (n : Nat) : (vvs n).length = n := by simp [vvs]
theorem kks_succ (l : List Nat) (n : Nat) : kks l (n + 1) = kks l n ++ [tot l (n + 1)] := by simp [kks, List.range_succ]
theorem vvs_succ (n : Nat) : vvs (n + 1) = vvs n ++ [n + 7] := by simp [vvs, List.range_succ]
theorem kks_get (l : List Nat) {n i : Nat} (h : i < n) : (kks l n).getD i 0 = tot l (i + 1) := by simp [kks, List.getD, h]
theorem vvs_get {n i : Nat} (h : i < n) : (vvs n).getD i 0 = i + 7 := by simp [vvs, List.getD, h]
theorem tot_le (l : List Nat) (h : ∀ x ∈ l, x < 65536) (n : Nat) : tot l n ≤ n * 65536 := by
  induction n with
  | zero => simp [tot]
  | succ n ih => have := getD_lt h (by omega) n; simp only [tot]; omega
theorem kks_rise (l : List Nat) (n : Nat) : Rise (kks l n) := fun i hi => by
  rw [kks_len] at hi
  rw [kks_get l (by omega), kks_get l hi]
  show tot l (i + 1) < tot l (i + 1) + (l.getD (i + 1) 0 + 1)
  omega
/-- the hash that is made -/
def made (l : List Nat) (n : Nat) : Hh := ⟨[], kks l n, vvs n⟩
theorem made_home (l : List Nat) (n : Nat) {i : Nat} (hi : i < n) : place (made l n) (tot l (i + 1)) = i := by
  have := (kks_rise l n).home (h := made l n) rfl i (by show i < (kks l n).length; rw [kks_len]; exact hi)
  rw [show (made l n).keys = kks l n from rfl, kks_get l hi] at this
  exact this
theorem made_good (l : List Nat) (n : Nat) (hn : n ≤ 4096) : good (made l n) = true :=
  good_yes ⟨by show (kks l n).length ≤ _; rw [kks_len]; exact hn, by show 0 ≤ _; omega, by show (vvs n).length = (kks l n).length; rw [kks_len, vvs_len], fun _ => kks_rise l n, fun h => absurd rfl h⟩
theorem made_getB (l : List Nat) (n : Nat) {i : Nat} (hi : i < n) : getB (made l n) (tot l (i + 1)) = true := by
  rw [getB_iff, made_home l n hi]
  refine ⟨?_, ?_, ?_, ?_⟩
  · show (kks l n).length ≠ 0; rw [kks_len]; omega
  · show (vvs n).length = (kks l n).length; rw [kks_len, vvs_len]
  · show i < (kks l n).length; rw [kks_len]; exact hi
  · exact kks_get l hi
theorem made_getV (l : List Nat) (n : Nat) {i : Nat} (hi : i < n) : getV (made l n) (tot l (i + 1)) = i + 7 := by
  rw [getV_yes (made_getB l n hi), made_home l n hi]
  exact vvs_get hi
theorem made_other (l : List Nat) (n k : Nat) : getB (made l n) k = true ↔ ∃ j, j < n ∧ tot l (j + 1) = k := by
  constructor
  · intro h
    obtain ⟨h1, h2, h3, h4⟩ := getB_iff.1 h
    have h3' : place (made l n) k < n := by have := h3; rw [show (made l n).keys = kks l n from rfl, kks_len] at this; exact this
    refine ⟨place (made l n) k, h3', ?_⟩
    rw [show (made l n).keys = kks l n from rfl, kks_get l h3'] at h4
    exact h4
  · rintro ⟨j, hj, rfl⟩
    exact made_getB l n hj

theorem row_own {w : World} {B : Nat} {v : Value} {l : List Nat} (h : w.ownsRow B 27 1 v l.length (l.map qv)) : ∃ o cap, v = .slice o l.length cap ∧ Row (In w) w qv o cap l := by
  rcases h.2 with ⟨rfl, h0⟩ | ⟨b, cap, cur, rfl, hb, hg, h1, h2, h3, h4⟩
  · have : l = [] := List.length_eq_zero_iff.1 h0
    subst this
    exact ⟨none, 0, rfl, Nat.le_refl _, by omega, fun i h => by simp at h⟩
  · refine ⟨_, cap, rfl, h1, by unfold maxLen at h2; omega, fun i hi => ⟨b, 0, rfl, (Array.getElem?_eq_some_iff.1 hg).1, ?_⟩⟩
    rw [Lib.cell_of_heap hg, Nat.zero_add]
    have e1 : (cur.toList.take (l.length * 1))[i]? = (l.map qv)[i]? := by rw [← h4]
    rw [Nat.mul_one, List.getElem?_take_of_lt hi, Array.getElem?_toList] at e1
    rw [e1]
    simp [hi]
theorem Mk.hat {B hb : Nat} {vk vv : Value} {l : List Nat} {n : Nat} {w : World} (h : Mk B hb vk vv (kks l n) (vvs n) w) (hl : ∀ x ∈ l, x < 65536) (hn : n ≤ 1000) : ∃ p, Box w hb (made l n) p ∧ HAt (In w) w (made l n) p := by
  obtain ⟨ko, kc, e1, r1⟩ := row_own h.ok
  obtain ⟨vo, vc, e2, r2⟩ := row_own h.ov
  subst e1 e2
  refine ⟨⟨none, 0, ko, kc, vo, vc⟩, h.box, ⟨Nat.le_refl _, Nat.zero_le _, fun i h => by simp [made] at h⟩, r1, r2, fun x hx => by simp [made] at hx, fun x hx => ?_, fun x hx => ?_⟩
  · obtain ⟨j, hj, rfl⟩ := List.mem_map.1 hx
    have := tot_le l hl (j + 1)
    have := List.mem_range.1 hj
    omega
  · obtain ⟨j, hj, rfl⟩ := List.mem_map.1 hx
    have := List.mem_range.1 hj
    omega
set_option maxRecDepth 100000 in
theorem open43 {H : Type} {enc : TypeId × Value → H} {W : World} {base : Nat} {v : Value} {d : DataW H} {q : List MemPlace} (hok : Value.okWide Try.prog W .any base 43 v) (h : DataW.Trod enc Try.prog W 0 (fun _ => true) true 43 v d q) :
    ∃ (o : Option Addr) (cap : Nat) (l : List Nat), v = .slice o l.length cap ∧ Row (In W) W hv16 o cap l ∧ (∀ x ∈ l, x < 65536) ∧ (l = [] ∨ ∃ es sp, d = .slice es sp ∧ es.length = l.length) := by
  obtain ⟨a, len, cap, rfl⟩ := okWide_slice Try.underlying43 hok
  obtain ⟨fuel, hf⟩ := h
  obtain ⟨o, c, l, h1, h2, h3, h4⟩ := steps_of hf
  simp [Value.cells] at h1
  obtain ⟨rfl, rfl, rfl⟩ := h1
  exact ⟨_, _, l, rfl, h2, h3, h4⟩
set_option maxRecDepth 100000 in
theorem open23 {H : Type} {enc : TypeId × Value → H} {W : World} {base : Nat} {v : Value} {d : DataW H} {q : List MemPlace} (hok : Value.okWide Try.prog W .any base 23 v) (h : DataW.Trod enc Try.prog W 0 (fun _ => true) true 23 v d q) :
    ∃ (o : Option Addr) (cap : Nat) (l : List Nat), v = .slice o l.length cap ∧ Row (In W) W qv o cap l ∧ (∀ x ∈ l, x < 18446744073709551616) ∧ (l = [] ∨ ∃ es sp, d = .slice es sp ∧ es.length = l.length) := by
  obtain ⟨a, len, cap, rfl⟩ := okWide_slice Try.underlying23 hok
  obtain ⟨fuel, hf⟩ := h
  obtain ⟨o, c, l, h1, h2, h3, h4⟩ := nums_of hf
  simp [Value.cells] at h1
  obtain ⟨rfl, rfl, rfl⟩ := h1
  exact ⟨_, _, l, rfl, h2, h3, h4⟩
end Go.Proofs.Ytfpkjgalokbkcaa.hs
