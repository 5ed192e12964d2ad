/-
  Plain mathematics: how instructions are written, as bytes and as lines.
-/
import Derived.Test.YtdekkjnlmlkbdaaDoorGa
import Derived.Lib.ItoaNum
namespace Go.Proofs.YtdekkjnlmlkbdaaDoor.is
open Go.Proofs.YtdekkjnlmlkbdaaDoor.num

/-- the named fields from f on -/
def named (op f : Nat) : List Nat := (List.range' f (4 - f)).filter (fun g => kd op g != 0)
theorem fromF_named (op f : Nat) : fromF op f = (named op f).map fun g => (g, most (kd op g)) := rfl
theorem named_end (op : Nat) : named op 4 = [] := rfl
theorem named_skip {op f : Nat} (hf : f < 4) (h : kd op f = 0) : named op f = named op (f + 1) := by
  unfold named
  rw [show 4 - f = (4 - (f + 1)) + 1 from by omega, List.range'_succ, List.filter_cons_of_neg (by simp [h])]
theorem named_take {op f : Nat} (hf : f < 4) (h : kd op f ≠ 0) : named op f = f :: named op (f + 1) := by
  unfold named
  rw [show 4 - f = (4 - (f + 1)) + 1 from by omega, List.range'_succ, List.filter_cons_of_pos (by simp [h])]
theorem lets_fld (op : Nat) (h : op < 18) : (lets op).map fldC = named op 0 := by
  have : ∀ x : Fin 18, (lets x).map fldC = named x 0 := by decide
  exact this ⟨op, h⟩
theorem named_lt (op f : Nat) : ∀ g ∈ named op f, g < 4 ∧ kd op g ≠ 0 := by
  intro g hg
  unfold named at hg
  rw [List.mem_filter, List.mem_range'_1] at hg
  exact ⟨by omega, by simpa using hg.2⟩
theorem named_len (op f : Nat) : (named op f).length ≤ 4 := by
  unfold named
  have := List.length_filter_le (fun g => kd op g != 0) (List.range' f (4 - f))
  rw [List.length_range'] at this
  omega

def putI (i : In) : List UInt8 := digs i.op.toNat ++ (named i.op.toNat 0).flatMap fun g => digs (fld i g).toNat
def putL (l : List In) : List UInt8 := digs l.length ++ l.flatMap putI
def fieldT (i : In) (g : Nat) : List UInt8 := 32 :: (sgn (kd i.op.toNat g) ++ Lib.decDigits (fld i g).toNat)
def lineI (i : In) : List UInt8 := wrd i.op.toNat ++ (named i.op.toNat 0).flatMap (fieldT i)
def textL (l : List In) : List UInt8 := l.flatMap fun i => lineI i ++ [10]
/-- whether they may be written: 0, or the error -/
def allE (l : List In) : Nat := if 4096 < l.length then 2 else if l.all okI then 0 else 210

theorem okI_op {i : In} (h : okI i = true) : 1 ≤ i.op ∧ i.op ≤ 17 := by
  simp only [okI, okOp, Bool.and_eq_true, decide_eq_true_eq] at h
  exact h.1.1.1.1
theorem okI_fld {i : In} (h : okI i = true) (f : Nat) (hf : f < 4) : 0 ≤ fld i f ∧ fld i f ≤ most (kd i.op.toNat f) := by
  simp only [okI, okF, Bool.and_eq_true, decide_eq_true_eq] at h
  rcases (by omega : f = 0 ∨ f = 1 ∨ f = 2 ∨ f = 3) with rfl | rfl | rfl | rfl
  · exact h.1.1.1.2
  · exact h.1.1.2
  · exact h.1.2
  · exact h.2
theorem okI_small {i : In} (h : okI i = true) (f : Nat) (hf : f < 4) : (fld i f).toNat ≤ 1073741824 := by
  have := okI_fld h f hf
  have := most_lt (kd i.op.toNat f)
  omega

theorem digs_short (n : Nat) (h : n ≤ 1073741824) : (digs n).length ≤ 10 := by
  have := rd_digs n [] (by omega)
  exact (rd_ok this).2.2.1
theorem flat_le {α : Type} (l : List α) (f : α → List UInt8) (m : Nat) (h : ∀ x ∈ l, (f x).length ≤ m) : (l.flatMap f).length ≤ l.length * m := by
  induction l with
  | nil => simp
  | cons a l ih =>
    rw [List.flatMap_cons, List.length_append, List.length_cons, Nat.add_mul, Nat.one_mul]
    have h1 := h a (by simp)
    have h2 := ih fun x hx => h x (by simp [hx])
    omega
theorem putI_le {i : In} (h : okI i = true) : (putI i).length ≤ 50 := by
  unfold putI
  rw [List.length_append]
  have h1 := digs_short i.op.toNat (by have := okI_op h; omega)
  have h2 := flat_le (named i.op.toNat 0) (fun g => digs (fld i g).toNat) 10 fun g hg => digs_short _ (okI_small h g (named_lt _ _ g hg).1)
  have h3 := named_len i.op.toNat 0
  omega
theorem all_ok {l : List In} (h : allE l = 0) : l.length ≤ 4096 ∧ ∀ i ∈ l, okI i = true := by
  unfold allE at h
  by_cases h1 : 4096 < l.length
  · rw [if_pos h1] at h; omega
  · rw [if_neg h1] at h
    by_cases h2 : l.all okI = true
    · exact ⟨by omega, List.all_eq_true.1 h2⟩
    · rw [if_neg h2] at h; omega
theorem putL_le {l : List In} (h : allE l = 0) : (putL l).length ≤ 300000 := by
  obtain ⟨h1, h2⟩ := all_ok h
  unfold putL
  rw [List.length_append]
  have h3 := digs_short l.length (by omega)
  have h4 := flat_le l putI 50 fun i hi => putI_le (h2 i hi)
  have h5 : l.length * 50 ≤ 4096 * 50 := Nat.mul_le_mul_right _ h1
  omega
theorem dec_len (n : Nat) (h : n ≤ 1073741824) : (Lib.decDigits n).length ≤ 10 := by
  have key : ∀ (k : Nat), ∀ n, n < 10 ^ (k + 1) → (Lib.decDigits n).length ≤ k + 1 := by
    intro k
    induction k with
    | zero => intro n hn; rw [Lib.decDigits_one (by simpa using hn)]; simp
    | succ k ih =>
      intro n hn
      by_cases hs : n < 10
      · rw [Lib.decDigits_one hs]; simp
      · rw [Lib.decDigits, dif_neg hs, List.length_append]
        have := ih (n / 10) (by rw [Nat.pow_succ] at hn; omega)
        simp
        omega
  exact key 9 n (by omega)
theorem sgn_le (k : Nat) : (sgn k).length ≤ 1 := by
  by_cases h : k < 6
  · have : ∀ x : Fin 6, (sgn x).length ≤ 1 := by decide
    exact this ⟨k, h⟩
  · unfold sgn
    rw [List.getD_eq_getElem?_getD, List.getElem?_eq_none (by simp [sgns]; omega)]
    simp
theorem wrd_le (o : Nat) : (wrd o).length ≤ 4 := by
  by_cases h : o < 18
  · have : ∀ x : Fin 18, (wrd x).length ≤ 4 := by decide
    exact this ⟨o, h⟩
  · unfold wrd
    rw [List.getD_eq_getElem?_getD, List.getElem?_eq_none (by simp [wrds]; omega)]
    simp
theorem fieldT_le {i : In} (h : okI i = true) (g : Nat) (hg : g < 4) : (fieldT i g).length ≤ 12 := by
  unfold fieldT
  have h1 := sgn_le (kd i.op.toNat g)
  have h2 := dec_len _ (okI_small h g hg)
  simp
  omega
theorem lineI_le {i : In} (h : okI i = true) : (lineI i).length ≤ 52 := by
  unfold lineI
  rw [List.length_append]
  have h1 := wrd_le i.op.toNat
  have h2 := flat_le (named i.op.toNat 0) (fieldT i) 12 fun g hg => fieldT_le h g (named_lt _ _ g hg).1
  have h3 := named_len i.op.toNat 0
  omega
theorem textL_le {l : List In} (h : allE l = 0) : (textL l).length ≤ 300000 := by
  obtain ⟨h1, h2⟩ := all_ok h
  unfold textL
  have h4 := flat_le l (fun i => lineI i ++ [10]) 53 fun i hi => by have := lineI_le (h2 i hi); simp; omega
  have h5 : l.length * 53 ≤ 4096 * 53 := Nat.mul_le_mul_right _ h1
  omega
end Go.Proofs.YtdekkjnlmlkbdaaDoor.is
