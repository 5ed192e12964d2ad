/-
  Plain mathematics: the places at which what a dfa takes may end.
-/
import Derived.Test.YtkdkibnjfgcppaaM01
namespace Go.Proofs.Ytkdkibnjfgcppaa.df
set_option linter.unusedVariables false

def nxt (d : Dfa) (q c : Nat) : Int := (d.next[q]?.getD [])[c]?.getD (-1)
def acpt (d : Dfa) (q : Nat) : Bool := d.acc[q]?.getD false
def byteAt (s : ByteArray) (i : Nat) : Nat := (s[i]?.getD 0).toNat
def here (d : Dfa) (q at' : Nat) : List Int := if acpt d q then [(at' : Int)] else []
def ends (d : Dfa) (s : ByteArray) : Nat → Int → Nat → List Int
  | 0, q, at' => if q < 0 then [] else here d q.toNat at'
  | f + 1, q, at' => if q < 0 then [] else here d q.toNat at' ++ ends d s f (nxt d q.toNat (d.cls (byteAt s at'))) (at' + 1)

theorem ends_neg (d : Dfa) (s : ByteArray) (f : Nat) (q : Int) (at' : Nat) (h : q < 0) : ends d s f q at' = [] := by
  cases f <;> simp [ends, h]
theorem ends_zero (d : Dfa) (s : ByteArray) (q at' : Nat) : ends d s 0 (q : Int) at' = here d q at' := by
  have : ¬ ((q : Int) < 0) := by omega
  simp [ends, this]
theorem ends_succ (d : Dfa) (s : ByteArray) (f q at' : Nat) : ends d s (f + 1) (q : Int) at' = here d q at' ++ ends d s f (nxt d q (d.cls (byteAt s at'))) (at' + 1) := by
  have : ¬ ((q : Int) < 0) := by omega
  simp [ends, this]
theorem here_len (d : Dfa) (q at' : Nat) : (here d q at').length ≤ 1 := by unfold here; split <;> simp
theorem ends_len (d : Dfa) (s : ByteArray) : ∀ f q at', (ends d s f q at').length ≤ f + 1
  | 0, q, at' => by
    unfold ends
    split
    · simp
    · exact here_len _ _ _
  | f + 1, q, at' => by
    unfold ends
    split
    · simp
    · have := here_len d q.toNat at'
      have := ends_len d s f (nxt d q.toNat (d.cls (byteAt s at'))) (at' + 1)
      rw [List.length_append]
      omega

structure Ok (d : Dfa) : Prop where
  one : 1 ≤ d.next.length
  most : d.next.length ≤ 400
  accs : d.acc.length = d.next.length
  cl : ∀ i, i < 256 → d.cls i < width d
  wide : ∀ i (h : i < d.next.length), d.next[i].length = width d
  k256 : width d ≤ 256
  st : ∀ i (h : i < d.next.length) j (hj : j < d.next[i].length), -1 ≤ d.next[i][j] ∧ d.next[i][j] < (d.next.length : Int)
theorem ok_of (d : Dfa) (h : right d = true) : Ok d := by
  unfold right at h
  simp only [Bool.and_eq_true, decide_eq_true_eq, beq_iff_eq] at h
  obtain ⟨⟨⟨⟨⟨⟨h1, h2⟩, h3⟩, h4⟩, h5⟩, h6⟩, h7⟩ := h
  unfold clsOk at h7
  rw [List.all_eq_true] at h6 h7
  have hrow : ∀ i (h : i < d.next.length), rowOk d.next.length (width d) d.next[i] = true := fun i h => h6 _ (List.getElem_mem h)
  refine ⟨h1, h2, h3, fun i hi => by simpa using h7 i (List.mem_range.2 hi), fun i hi => ?_, h5, fun i hi j hj => ?_⟩
  · have := hrow i hi
    unfold rowOk at this
    simp only [Bool.and_eq_true, beq_iff_eq] at this
    exact this.1
  · have := hrow i hi
    unfold rowOk goOn at this
    simp only [Bool.and_eq_true, beq_iff_eq, List.all_eq_true, decide_eq_true_eq] at this
    exact this.2 _ (List.getElem_mem hj)
theorem byte_lt (s : ByteArray) (i : Nat) : byteAt s i < 256 := by unfold byteAt; exact UInt8.toNat_lt _
theorem byte_eq (s : ByteArray) (i : Nat) (h : i < s.size) : byteAt s i = s[i].toNat := by
  unfold byteAt
  rw [getElem?_pos s i h]
  rfl
theorem nxt_ok {d : Dfa} (h : Ok d) (q c : Nat) (hq : q < d.next.length) (hc : c < width d) : -1 ≤ nxt d q c ∧ nxt d q c < (d.next.length : Int) := by
  unfold nxt
  rw [List.getElem?_eq_getElem hq]
  have hw := h.wide q hq
  have := h.st q hq c (by omega)
  rw [Option.getD_some, List.getElem?_eq_getElem (by omega)]
  exact this
end Go.Proofs.Ytkdkibnjfgcppaa.df
