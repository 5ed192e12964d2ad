/-
  Plain mathematics, no program: a text's bytes as numbers, the set of what is told by a test, and of a range.
-/
import Derived.Test.YtfclidcfhadohaaDoorSets
namespace Go.Proofs.YtfclidcfhadohaaDoor.st
set_option linter.unusedVariables false

/-- the set of what is told by a test -/
def suchThat (p : Nat → Bool) : Q4 := ofl ((List.range 256).filter p)
theorem has_such (p : Nat → Bool) (n : Nat) (h : n < 256) : has (suchThat p) n = p n := by
  unfold suchThat
  rw [has_ofl _ _ h]
  cases hp : p n <;> simp [hp, h]
theorem fits_such (p : Nat → Bool) : Fits (suchThat p) := fits_ofl _
def rng (lo hi : Nat) : Q4 := suchThat (fun n => decide (lo ≤ n) && decide (n ≤ hi))
theorem fits_rng (lo hi : Nat) : Fits (rng lo hi) := fits_such _

def codes (s : ByteArray) : List Nat := s.data.toList.map UInt8.toNat
theorem codes_take (s : ByteArray) (i : Nat) (h : i < s.size) : (codes s).take (i + 1) = (codes s).take i ++ [s[i].toNat] := by
  have hl : i < s.data.toList.length := by simpa using h
  unfold codes
  rw [← List.map_take, ← List.map_take, List.take_succ_eq_append_getElem hl, List.map_append]
  rfl
theorem codes_length (s : ByteArray) : (codes s).length = s.size := by unfold codes; simp
theorem ofl_snoc (l : List Nat) (n : Nat) : ofl (l ++ [n]) = wth (ofl l) n := by unfold ofl; rw [List.foldl_append]; rfl

/-- what is left of a text from a place on -/
def suf (u : ByteArray) (p : Nat) : List Nat := (codes u).drop p
theorem suf_in (u : ByteArray) (p : Nat) (h : p < u.size) : suf u p = u[p].toNat :: suf u (p + 1) := by
  have hl : p < u.data.toList.length := by simpa using h
  unfold suf codes
  rw [← List.map_drop, ← List.map_drop, List.drop_eq_getElem_cons hl, List.map_cons]
  rfl
theorem suf_out (u : ByteArray) (p : Nat) (h : u.size ≤ p) : suf u p = [] := List.drop_eq_nil_of_le (by rw [codes_length]; exact h)
theorem suf_length (u : ByteArray) (p : Nat) : (suf u p).length = u.size - p := by unfold suf; rw [List.length_drop, codes_length]
theorem suf_zero (u : ByteArray) : suf u 0 = codes u := rfl
theorem suf_tail (u : ByteArray) (p : Nat) (h : p < u.size) : (suf u p).tail = suf u (p + 1) := by rw [suf_in u p h]; rfl
theorem suf_inj (u : ByteArray) (p q : Nat) (hp : p ≤ u.size) (hq : q ≤ u.size) (h : suf u p = suf u q) : p = q := by
  have := congrArg List.length h
  rw [suf_length, suf_length] at this
  omega
end Go.Proofs.YtfclidcfhadohaaDoor.st
