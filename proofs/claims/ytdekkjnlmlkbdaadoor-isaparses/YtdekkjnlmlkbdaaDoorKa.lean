/-
  Plain mathematics: how lines of instructions are read.
-/
import Derived.Test.YtdekkjnlmlkbdaaDoorHa
namespace Go.Proofs.YtdekkjnlmlkbdaaDoor.is

/-- the parts of a line between blanks: what is gathered, and what is left -/
def cutG : List UInt8 → List UInt8 → List (List UInt8)
  | acc, [] => [acc]
  | acc, b :: r => if b = 32 then acc :: cutG [] r else cutG (acc ++ [b]) r
theorem cutG_more (x : List UInt8) (h : ∀ b ∈ x, b ≠ 32) (acc r : List UInt8) : cutG acc (x ++ r) = cutG (acc ++ x) r := by
  induction x generalizing acc with
  | nil => simp
  | cons b x ih =>
    rw [List.cons_append, cutG, if_neg (h b (by simp)), ih fun c hc => h c (by simp [hc])]
    simp
theorem cutG_ne (acc l : List UInt8) : cutG acc l ≠ [] := by
  induction l generalizing acc with
  | nil => simp [cutG]
  | cons b r ih => rw [cutG]; split <;> simp [ih]

/-- the Op of a word, or 0 -/
def opW (w : List UInt8) : Nat := ((List.range' 1 17).find? (fun o => wrd o == w)).getD 0
theorem opW_at (o : Nat) (h1 : 1 ≤ o) (h2 : o ≤ 17) : opW (wrd o) = o := by
  rcases (by omega : o = 1 ∨ o = 2 ∨ o = 3 ∨ o = 4 ∨ o = 5 ∨ o = 6 ∨ o = 7 ∨ o = 8 ∨ o = 9 ∨ o = 10 ∨ o = 11 ∨ o = 12 ∨ o = 13 ∨ o = 14 ∨ o = 15 ∨ o = 16 ∨ o = 17) with
    rfl | rfl | rfl | rfl | rfl | rfl | rfl | rfl | rfl | rfl | rfl | rfl | rfl | rfl | rfl | rfl | rfl <;> decide
theorem opW_no (w : List UInt8) (h : ∀ o, 1 ≤ o → o ≤ 17 → wrd o ≠ w) : opW w = 0 := by
  unfold opW
  rw [List.find?_eq_none.2 fun o ho => by rw [List.mem_range'_1] at ho; simpa using h o (by omega) (by omega)]
  rfl
theorem opW_le (w : List UInt8) : opW w ≤ 17 ∧ (1 ≤ opW w → wrd (opW w) = w) := by
  unfold opW
  cases h : (List.range' 1 17).find? (fun o => wrd o == w) with
  | none => simp
  | some o =>
    have h1 := List.find?_some h
    have h2 := List.mem_of_find?_eq_some h
    rw [List.mem_range'_1] at h2
    simp only [Option.getD_some]
    exact ⟨by omega, fun _ => by simpa using h1⟩

def digB (b : UInt8) : Bool := decide (48 ≤ b.toNat) && decide (b.toNat ≤ 57)
/-- digits up to a bound -/
def numG (m : Nat) : Nat → List UInt8 → Option Nat
  | a, [] => some a
  | a, b :: r => if digB b = true then (if m < 10 * a + (b.toNat - 48) then none else numG m (10 * a + (b.toNat - 48)) r) else none
def lead (s : List UInt8) : Bool := decide (s = []) || (decide (s.headD 0 = 48) && decide (1 < s.length))
def numV (m : Nat) (s : List UInt8) : Option Nat := if lead s = true then none else numG m 0 s
def fieldV (k : Nat) (s : List UInt8) : Option Nat := if s.take (sgn k).length = sgn k then numV (most k) (s.drop (sgn k).length) else none

/-- the named fields from f on, and their kinds -/
def namedK (op f : Nat) : List (Nat × Nat) := (named op f).map fun g => (g, kd op g)
theorem namedK_end (op : Nat) : namedK op 4 = [] := rfl
theorem namedK_skip {op f : Nat} (hf : f < 4) (h : kd op f = 0) : namedK op f = namedK op (f + 1) := by unfold namedK; rw [named_skip hf h]
theorem namedK_take {op f : Nat} (hf : f < 4) (h : kd op f ≠ 0) : namedK op f = (f, kd op f) :: namedK op (f + 1) := by unfold namedK; rw [named_take hf h]; rfl

def readF : List (Nat × Nat) → List (List UInt8) → In → Option In
  | [], [], i => some i
  | [], _ :: _, _ => none
  | _ :: _, [], _ => none
  | (f, k) :: r, p :: ps, i => match fieldV k p with
    | none => none
    | some v => readF r ps (setF i f v)
theorem readF_nil (ps : List (List UInt8)) (i : In) : readF [] ps i = if ps.length = 0 then some i else none := by cases ps <;> rfl
theorem readF_short (f k : Nat) (r : List (Nat × Nat)) (i : In) : readF ((f, k) :: r) [] i = none := rfl
theorem readF_bad {f k : Nat} {r : List (Nat × Nat)} {p : List UInt8} {ps : List (List UInt8)} {i : In} (h : fieldV k p = none) : readF ((f, k) :: r) (p :: ps) i = none := by rw [readF, h]
theorem readF_ok {f k : Nat} {r : List (Nat × Nat)} {p : List UInt8} {ps : List (List UInt8)} {i : In} {v : Nat} (h : fieldV k p = some v) : readF ((f, k) :: r) (p :: ps) i = readF r ps (setF i f v) := by rw [readF, h]

/-- a line -/
def readL (line : List UInt8) : Option In :=
  match cutG [] line with
  | [] => none
  | w :: ps => if opW w = 0 then none else readF (namedK (opW w) 0) ps ⟨opW w, 0, 0, 0, 0⟩
theorem readL_no {line w : List UInt8} {ps : List (List UInt8)} (h : cutG [] line = w :: ps) (ho : opW w = 0) : readL line = none := by unfold readL; rw [h]; simp [ho]
theorem readL_at {line w : List UInt8} {ps : List (List UInt8)} (h : cutG [] line = w :: ps) (ho : opW w ≠ 0) : readL line = readF (namedK (opW w) 0) ps ⟨opW w, 0, 0, 0, 0⟩ := by unfold readL; rw [h]; simp [ho]

/-- all lines: what is gathered, what is left, the instructions -/
def parG : List UInt8 → List UInt8 → List In → List In × Nat × Nat
  | acc, [], done => if acc = [] then (done, 0, 0) else ([], 211, done.length + 1)
  | acc, b :: r, done => if b = 10 then (match readL acc with
      | none => ([], 211, done.length + 1)
      | some i => if done.length = 4096 then ([], 211, done.length + 1) else parG [] r (done ++ [i]))
    else parG (acc ++ [b]) r done
theorem parG_more (x : List UInt8) (h : ∀ b ∈ x, b ≠ 10) (acc r : List UInt8) (done : List In) : parG acc (x ++ r) done = parG (acc ++ x) r done := by
  induction x generalizing acc with
  | nil => simp
  | cons b x ih =>
    rw [List.cons_append, parG, if_neg (h b (by simp)), ih fun c hc => h c (by simp [hc])]
    simp
theorem parG_bad {acc r : List UInt8} {done : List In} (h : readL acc = none) : parG acc (10 :: r) done = ([], 211, done.length + 1) := by rw [parG, if_pos rfl, h]
theorem parG_many {acc r : List UInt8} {done : List In} {i : In} (h : readL acc = some i) (hd : done.length = 4096) : parG acc (10 :: r) done = ([], 211, done.length + 1) := by rw [parG, if_pos rfl, h]; simp [hd]
theorem parG_ok {acc r : List UInt8} {done : List In} {i : In} (h : readL acc = some i) (hd : done.length ≠ 4096) : parG acc (10 :: r) done = parG [] r (done ++ [i]) := by rw [parG, if_pos rfl, h]; simp [hd]
def parA (s : List UInt8) : List In × Nat × Nat := if 262144 < s.length then ([], 2, 0) else parG [] s []

/-! numbers and digits -/
theorem numG_append (m : Nat) (x y : List UInt8) (a : Nat) : numG m a (x ++ y) = (numG m a x).bind fun n => numG m n y := by
  induction x generalizing a with
  | nil => rfl
  | cons b x ih =>
    rw [List.cons_append, numG, numG]
    by_cases h : digB b = true
    · rw [if_pos h, if_pos h]
      by_cases h2 : m < 10 * a + (b.toNat - 48)
      · rw [if_pos h2, if_pos h2]; rfl
      · rw [if_neg h2, if_neg h2, ih]
    · rw [if_neg h, if_neg h]; rfl
theorem byte_nat (d : Nat) (h : d < 10) : (UInt8.ofNat (48 + d)).toNat = 48 + d := by rw [UInt8.toNat_ofNat']; omega
theorem numG_one (m a d : Nat) (h : d < 10) (hm : 10 * a + d ≤ m) : numG m a [UInt8.ofNat (48 + d)] = some (10 * a + d) := by
  rw [numG, if_pos (by unfold digB; rw [byte_nat d h]; simp; omega), byte_nat d h, if_neg (by omega)]
  show some _ = _
  congr 1
  omega
theorem numG_dec (m : Nat) (v : Nat) (h : v ≤ m) : numG m 0 (Lib.decDigits v) = some v := by
  induction v using Nat.strongRecOn with
  | ind v ih =>
    by_cases hs : v < 10
    · rw [Lib.decDigits_one hs, numG_one m 0 v hs (by omega)]
      simp
    · rw [Lib.decDigits, dif_neg hs, numG_append, ih (v / 10) (by omega) (by omega)]
      show numG m (v / 10) _ = _
      rw [numG_one m (v / 10) (v % 10) (by omega) (by omega)]
      congr 1
      omega
theorem dec_ne (v : Nat) : Lib.decDigits v ≠ [] := by
  rw [Lib.decDigits]; split <;> simp
theorem dec_head (v : Nat) (h : 1 ≤ v) : (Lib.decDigits v).headD 0 ≠ 48 := by
  induction v using Nat.strongRecOn with
  | ind v ih =>
    by_cases hs : v < 10
    · rw [Lib.decDigits_one hs]
      simp only [List.headD_cons]
      intro e
      have := congrArg UInt8.toNat e
      rw [byte_nat v hs] at this
      simp at this
      omega
    · rw [Lib.decDigits, dif_neg hs]
      have hi := ih (v / 10) (by omega) (by omega)
      have hn := dec_ne (v / 10)
      cases hx : Lib.decDigits (v / 10) with
      | nil => exact absurd hx hn
      | cons b r => rw [hx] at hi; simpa using hi
theorem dec_lead (v : Nat) : lead (Lib.decDigits v) = false := by
  unfold lead
  by_cases h0 : v = 0
  · subst h0; rw [Lib.decDigits_one (by omega)]; simp
  · have h1 := dec_ne v
    have h2 := dec_head v (by omega)
    rw [decide_eq_false h1, decide_eq_false h2]; rfl
theorem numV_dec (m v : Nat) (h : v ≤ m) : numV m (Lib.decDigits v) = some v := by
  unfold numV; rw [dec_lead v, numG_dec m v h]; rfl
theorem dec_dig (v : Nat) : ∀ b ∈ Lib.decDigits v, digB b = true := by
  induction v using Nat.strongRecOn with
  | ind v ih =>
    by_cases hs : v < 10
    · rw [Lib.decDigits_one hs]; intro b hb; rw [List.mem_singleton.1 hb]; unfold digB; rw [byte_nat v hs]; simp; omega
    · rw [Lib.decDigits, dif_neg hs]
      intro b hb
      rcases List.mem_append.1 hb with h | h
      · exact ih (v / 10) (by omega) b h
      · rw [List.mem_singleton.1 h]; unfold digB; rw [byte_nat (v % 10) (by omega)]; simp; omega
end Go.Proofs.YtdekkjnlmlkbdaaDoor.is
