/-
  Plain mathematics: how instructions stand as bytes; how they are read.
-/
import Derived.Test.YtdekkjnlmlkbdaaDoorIa
import Derived.Test.YtdekkjnlmlkbdaaDoorGets
namespace Go.Proofs.YtdekkjnlmlkbdaaDoor.is
open Go.Proofs.YtdekkjnlmlkbdaaDoor.num

/-- the named fields from f on: the field and its bound -/
def fromF (op f : Nat) : List (Nat × Nat) := ((List.range' f (4 - f)).filter (fun g => kd op g != 0)).map fun g => (g, most (kd op g))
theorem fromF_end (op : Nat) : fromF op 4 = [] := rfl
theorem fromF_skip {op f : Nat} (hf : f < 4) (h : kd op f = 0) : fromF op f = fromF op (f + 1) := by
  unfold fromF
  rw [show 4 - f = (4 - (f + 1)) + 1 from by omega, List.range'_succ, List.filter_cons_of_neg (by simp [h])]
theorem fromF_take {op f : Nat} (hf : f < 4) (h : kd op f ≠ 0) : fromF op f = (f, most (kd op f)) :: fromF op (f + 1) := by
  unfold fromF
  rw [show 4 - f = (4 - (f + 1)) + 1 from by omega, List.range'_succ, List.filter_cons_of_pos (by simp [h])]
  rfl

def setF (i : In) (f : Nat) (v : Int) : In :=
  if f = 0 then ⟨i.op, v, i.b, i.c, i.d⟩ else if f = 1 then ⟨i.op, i.a, v, i.c, i.d⟩ else if f = 2 then ⟨i.op, i.a, i.b, v, i.d⟩ else ⟨i.op, i.a, i.b, i.c, v⟩
def fldC (c : Nat) : Nat := if c = 97 ∨ c = 107 then 0 else if c = 98 ∨ c = 110 then 1 else if c = 112 then 2 else 3
theorem lets_named (op : Nat) (h : op < 18) : (lets op).map (fun c => (fldC c, mostC c)) = fromF op 0 := by
  have : ∀ x : Fin 18, (lets x).map (fun c => (fldC c, mostC c)) = fromF x 0 := by decide
  exact this ⟨op, h⟩
theorem lets_known (op : Nat) (h : op < 18) : ∀ c ∈ lets op, c = 97 ∨ c = 107 ∨ c = 98 ∨ c = 110 ∨ c = 112 ∨ c = 116 := by
  have : ∀ x : Fin 18, ∀ c ∈ lets x, c = 97 ∨ c = 107 ∨ c = 98 ∨ c = 110 ∨ c = 112 ∨ c = 116 := by decide
  exact this ⟨op, h⟩
theorem with_set (i : In) (c : Nat) (v : Int) (h : c = 97 ∨ c = 107 ∨ c = 98 ∨ c = 110 ∨ c = 112 ∨ c = 116) : withC i c v = setF i (fldC c) v := by
  rcases h with rfl | rfl | rfl | rfl | rfl | rfl <;> rfl
theorem val_fld (i : In) (c : Nat) (h : c = 97 ∨ c = 107 ∨ c = 98 ∨ c = 110 ∨ c = 112 ∨ c = 116) : valC i c = fld i (fldC c) := by
  rcases h with rfl | rfl | rfl | rfl | rfl | rfl <;> rfl
theorem fldC_lt (c : Nat) : fldC c < 4 := by unfold fldC; split <;> (try split) <;> (try split) <;> omega

def zI : In := ⟨0, 0, 0, 0, 0⟩
/-- the fields, one after the other -/
def rdF (l : List UInt8) : List (Nat × Nat) → In → Nat → In × Nat × Nat
  | [], i, p => (i, p, 0)
  | (f, m) :: r, i, p => if (gets l p).2.2 ≠ 0 then (zI, 0, (gets l p).2.2) else if m < (gets l p).1 then (zI, 0, 210) else rdF l r (setF i f (gets l p).1) (gets l p).2.1
/-- the instruction at a place -/
def rdI (l : List UInt8) (p : Nat) : In × Nat × Nat :=
  if (gets l p).2.2 ≠ 0 then (zI, 0, (gets l p).2.2) else if (gets l p).1 < 1 ∨ 17 < (gets l p).1 then (zI, 0, 210) else rdF l (fromF (gets l p).1 0) ⟨(gets l p).1, 0, 0, 0, 0⟩ (gets l p).2.1
/-- so many instructions from a place on, behind those that are there -/
def rdL (l : List UInt8) : Nat → Nat → List In → List In × Nat × Nat
  | 0, p, acc => (acc, p, 0)
  | n + 1, p, acc => if (rdI l p).2.2 ≠ 0 then ([], 0, (rdI l p).2.2) else rdL l n (rdI l p).2.1 (acc ++ [(rdI l p).1])
/-- all -/
def rdA (l : List UInt8) : List In × Nat :=
  if (gets l 0).2.2 ≠ 0 then ([], (gets l 0).2.2) else if 4096 < (gets l 0).1 then ([], 2)
  else if (rdL l (gets l 0).1 (gets l 0).2.1 []).2.2 ≠ 0 then ([], (rdL l (gets l 0).1 (gets l 0).2.1 []).2.2)
  else if (rdL l (gets l 0).1 (gets l 0).2.1 []).2.1 ≠ l.length then ([], 210) else ((rdL l (gets l 0).1 (gets l 0).2.1 []).1, 0)

theorem gets_le {l : List UInt8} {p n to : Nat} (hp : p ≤ l.length) (h : gets l p = (n, to, 0)) : p < to ∧ to ≤ l.length ∧ n < 18446744073709551616 := by
  unfold gets at h
  by_cases h0 : (rd (l.drop p)).2.2 = 0
  · rw [if_pos h0] at h
    simp only [Prod.mk.injEq] at h
    obtain ⟨rfl, rfl, _⟩ := h
    have e : rd (l.drop p) = ((rd (l.drop p)).1, (rd (l.drop p)).2.1, 0) := by rw [← h0]
    obtain ⟨_, h1, _, h3, h4⟩ := rd_ok e
    rw [List.length_drop] at h3
    exact ⟨by omega, by omega, h4⟩
  · rw [if_neg h0] at h
    simp only [Prod.mk.injEq] at h
    exact absurd h.2.2 h0
theorem gets_lt {l : List UInt8} {p : Nat} : (gets l p).2.2 < 256 := by
  unfold gets
  rcases rd_err (l.drop p) with h | h | h
  · rw [if_pos h]; simp
  · rw [h]; simp
  · rw [h]; simp
theorem gets_bad {l : List UInt8} {p n to e : Nat} (h : gets l p = (n, to, e)) (he : e ≠ 0) : n = 0 ∧ to = 0 := by
  unfold gets at h
  rcases rd_err (l.drop p) with h2 | h2 | h2
  · rw [if_pos h2] at h; simp only [Prod.mk.injEq] at h; omega
  · rw [h2] at h; simp at h; omega
  · rw [h2] at h; simp at h; omega

theorem rdF_bad {l : List UInt8} {f m : Nat} {r : List (Nat × Nat)} {i : In} {p n to e : Nat} (h : gets l p = (n, to, e)) (he : e ≠ 0) : rdF l ((f, m) :: r) i p = (zI, 0, e) := by
  rw [rdF, h, if_pos he]
theorem rdF_far {l : List UInt8} {f m : Nat} {r : List (Nat × Nat)} {i : In} {p n to : Nat} (h : gets l p = (n, to, 0)) (hm : m < n) : rdF l ((f, m) :: r) i p = (zI, 0, 210) := by
  rw [rdF, h, if_neg (by simp), if_pos hm]
theorem rdF_ok {l : List UInt8} {f m : Nat} {r : List (Nat × Nat)} {i : In} {p n to : Nat} (h : gets l p = (n, to, 0)) (hm : ¬ m < n) : rdF l ((f, m) :: r) i p = rdF l r (setF i f n) to := by
  rw [rdF, h, if_neg (by simp), if_neg hm]
theorem rdI_bad {l : List UInt8} {p n to e : Nat} (h : gets l p = (n, to, e)) (he : e ≠ 0) : rdI l p = (zI, 0, e) := by rw [rdI, h, if_pos he]
theorem rdI_far {l : List UInt8} {p n to : Nat} (h : gets l p = (n, to, 0)) (hn : n < 1 ∨ 17 < n) : rdI l p = (zI, 0, 210) := by rw [rdI, h, if_neg (by simp), if_pos hn]
theorem rdI_ok {l : List UInt8} {p n to : Nat} (h : gets l p = (n, to, 0)) (hn : ¬ (n < 1 ∨ 17 < n)) : rdI l p = rdF l (fromF n 0) ⟨n, 0, 0, 0, 0⟩ to := by rw [rdI, h, if_neg (by simp), if_neg hn]

theorem rdF_le (l : List UInt8) : ∀ (r : List (Nat × Nat)) (i : In) (p : Nat), p ≤ l.length → (rdF l r i p).2.2 = 0 → p ≤ (rdF l r i p).2.1 ∧ (rdF l r i p).2.1 ≤ l.length
  | [], i, p, hp, _ => ⟨Nat.le_refl _, hp⟩
  | (f, m) :: r, i, p, hp, h => by
    obtain ⟨n, to, e, hg⟩ : ∃ n to e, gets l p = (n, to, e) := ⟨_, _, _, rfl⟩
    by_cases he : e = 0
    · subst he
      by_cases hm : m < n
      · rw [rdF_far hg hm] at h; simp at h
      · rw [rdF_ok hg hm] at h ⊢
        have h1 := gets_le hp hg
        have h2 := rdF_le l r _ to h1.2.1 h
        exact ⟨by omega, h2.2⟩
    · rw [rdF_bad hg he] at h; exact absurd h he
theorem rdI_le (l : List UInt8) (p : Nat) (hp : p ≤ l.length) (h : (rdI l p).2.2 = 0) : p < (rdI l p).2.1 ∧ (rdI l p).2.1 ≤ l.length := by
  obtain ⟨n, to, e, hg⟩ : ∃ n to e, gets l p = (n, to, e) := ⟨_, _, _, rfl⟩
  by_cases he : e = 0
  · subst he
    by_cases hn : n < 1 ∨ 17 < n
    · rw [rdI_far hg hn] at h; simp at h
    · rw [rdI_ok hg hn] at h ⊢
      have h1 := gets_le hp hg
      have h2 := rdF_le l _ _ to h1.2.1 h
      exact ⟨by omega, h2.2⟩
  · rw [rdI_bad hg he] at h; exact absurd h he
theorem rdL_bad {l : List UInt8} {n p : Nat} {acc : List In} {i : In} {to e : Nat} (h : rdI l p = (i, to, e)) (he : e ≠ 0) : rdL l (n + 1) p acc = ([], 0, e) := by rw [rdL, h, if_pos he]
theorem rdL_ok {l : List UInt8} {n p : Nat} {acc : List In} {i : In} {to : Nat} (h : rdI l p = (i, to, 0)) : rdL l (n + 1) p acc = rdL l n to (acc ++ [i]) := by rw [rdL, h, if_neg (by simp)]
theorem rdI_zero {l : List UInt8} {p : Nat} {i : In} {to e : Nat} (h : rdI l p = (i, to, e)) (he : e ≠ 0) : i = zI ∧ to = 0 := by
  obtain ⟨n, t, e', hg⟩ : ∃ n to e, gets l p = (n, to, e) := ⟨_, _, _, rfl⟩
  by_cases he' : e' = 0
  · subst he'
    by_cases hn : n < 1 ∨ 17 < n
    · rw [rdI_far hg hn] at h; simp at h; exact ⟨h.1.symm, by omega⟩
    · rw [rdI_ok hg hn] at h
      have : ∀ (r : List (Nat × Nat)) (j : In) (q : Nat), rdF l r j q = (i, to, e) → i = zI ∧ to = 0 := by
        intro r
        induction r with
        | nil => intro j q h2; simp [rdF] at h2; omega
        | cons x r ih =>
          intro j q h2
          obtain ⟨f, m⟩ := x
          obtain ⟨n2, t2, e2, hg2⟩ : ∃ n to e, gets l q = (n, to, e) := ⟨_, _, _, rfl⟩
          by_cases he2 : e2 = 0
          · subst he2
            by_cases hm : m < n2
            · rw [rdF_far hg2 hm] at h2; simp at h2; exact ⟨h2.1.symm, by omega⟩
            · rw [rdF_ok hg2 hm] at h2; exact ih _ _ h2
          · rw [rdF_bad hg2 he2] at h2; simp at h2; exact ⟨h2.1.symm, by omega⟩
      exact this _ _ _ h
  · rw [rdI_bad hg he'] at h; simp at h; exact ⟨h.1.symm, by omega⟩
end Go.Proofs.YtdekkjnlmlkbdaaDoor.is
