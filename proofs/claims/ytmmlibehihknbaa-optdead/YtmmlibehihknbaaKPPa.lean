/-
  Plain mathematics: what a dfa takes from a state at a place on; the bits of places from which nothing is taken; the pieces of a text.
-/
import Derived.Test.YtmmlibehihknbaaM13
import Derived.Test.YtmmlibehihknbaaM14
namespace Go.Proofs.Ytmmlibehihknbaa.pc
open df (Dfa ends nxt acpt byteAt here Ok right width endsOf)
set_option linter.unusedVariables false

/-- what is taken from a state at a place on -/
def E (d : Dfa) (s : ByteArray) (q : Int) (t : Nat) : List Int := ends d s (s.size - t) q t
theorem E_none (d : Dfa) (s : ByteArray) (q : Int) (t : Nat) (h : q < 0) : E d s q t = [] := df.ends_neg d s _ q t h
/-- where one goes from a state at a place -/
def to' (d : Dfa) (s : ByteArray) (t q : Nat) : Int := if t = s.size then -1 else nxt d q (d.cls (byteAt s t))
theorem E_step (d : Dfa) (s : ByteArray) (q t : Nat) (h : t ≤ s.size) : E d s (q : Int) t = here d q t ++ E d s (to' d s t q) (t + 1) := by
  unfold E to'
  by_cases e : t = s.size
  · rw [if_pos e, df.ends_end d s q t e, df.ends_neg d s _ (-1) _ (by omega), List.append_nil]
  · rw [if_neg e, df.ends_more d s q t (by omega), df.byte_eq s t (by omega)]
theorem E_yes (d : Dfa) (s : ByteArray) (q t : Nat) (h : t ≤ s.size) (ha : acpt d q = true) : E d s (q : Int) t = (t : Int) :: E d s (to' d s t q) (t + 1) := by
  rw [E_step d s q t h, df.here_yes d q t ha]; rfl
theorem E_no (d : Dfa) (s : ByteArray) (q t : Nat) (h : t ≤ s.size) (ha : acpt d q = false) : E d s (q : Int) t = E d s (to' d s t q) (t + 1) := by
  rw [E_step d s q t h, df.here_no d q t ha]; rfl
theorem to_ok {d : Dfa} (h : Ok d) (s : ByteArray) (t q : Nat) (hq : q < d.next.length) : -1 ≤ to' d s t q ∧ to' d s t q < (d.next.length : Int) := by
  unfold to'
  split
  · have := h.one; omega
  · exact df.nxt_ok h q _ hq (h.cl _ (df.byte_lt s t))
theorem to_end (d : Dfa) (s : ByteArray) (t q : Nat) (h : 0 ≤ to' d s t q) (ht : t ≤ s.size) : t + 1 ≤ s.size := by
  unfold to' at h
  split at h
  · omega
  · omega
def lastOr (l : List Int) (z : Int) : Int := l.getLast?.getD z
theorem lastOr_cons (x : Int) (l : List Int) (z : Int) : lastOr (x :: l) z = lastOr l x := by
  unfold lastOr
  rw [List.getLast?_cons]
  rfl
theorem lastOr_nil (z : Int) : lastOr [] z = z := rfl

/-! bits -/
def bitOn (ws : List Nat) (k : Nat) : Bool := (ws.getD (k / 64) 0).testBit (k % 64)
def putBit (ws : List Nat) (k : Nat) : List Nat := ws.set (k / 64) (ws.getD (k / 64) 0 ||| 2 ^ (k % 64))
theorem putBit_len (ws : List Nat) (k : Nat) : (putBit ws k).length = ws.length := by simp [putBit]
theorem putBit_on (ws : List Nat) (k j : Nat) (h : bitOn (putBit ws k) j = true) : j = k ∨ bitOn ws j = true := by
  unfold bitOn putBit at h
  by_cases e : j / 64 = k / 64
  · by_cases hl : k / 64 < ws.length
    · rw [List.getD_eq_getElem?_getD, e, List.getElem?_set_self hl, Option.getD_some, Nat.testBit_or, Bool.or_eq_true] at h
      rcases h with h | h
      · right; unfold bitOn; rw [e]; exact h
      · left
        rw [Nat.testBit_two_pow] at h
        have : k % 64 = j % 64 := by simpa using h
        omega
    · rw [List.set_eq_of_length_le (by omega)] at h
      exact .inr h
  · rw [List.getD_eq_getElem?_getD, List.getElem?_set_ne (Ne.symm e), ← List.getD_eq_getElem?_getD] at h
    exact .inr h
theorem putBit_lt (ws : List Nat) (k : Nat) (h : ∀ x ∈ ws, x < 18446744073709551616) : ∀ x ∈ putBit ws k, x < 18446744073709551616 := by
  intro x hx
  unfold putBit at hx
  rcases List.mem_or_eq_of_mem_set hx with hx | rfl
  · exact h x hx
  · have h1 : ws.getD (k / 64) 0 < 2 ^ 64 := by
      rw [List.getD_eq_getElem?_getD]
      cases hq : ws[k / 64]? with
      | none => simp
      | some y => simpa using h y (List.mem_of_getElem? hq)
    have h2 : 2 ^ (k % 64) < 2 ^ 64 := Nat.pow_lt_pow_right (by omega) (Nat.mod_lt _ (by omega))
    exact Nat.or_lt_two_pow h1 h2
/-- from marked places nothing is taken -/
def Sound (d : Dfa) (s : ByteArray) (ws : List Nat) : Prop := ∀ t q : Nat, t ≤ s.size → q < d.next.length → bitOn ws (t * d.next.length + q) = true → E d s (q : Int) t = []
theorem key_inj {N t q t0 q0 : Nat} (h : q < N) (h0 : q0 < N) (e : t * N + q = t0 * N + q0) : t = t0 ∧ q = q0 := by
  have hN : 0 < N := by omega
  have e1 : (t * N + q) / N = t := by rw [Nat.mul_comm, Nat.mul_add_div hN, Nat.div_eq_of_lt h]; omega
  have e2 : (t0 * N + q0) / N = t0 := by rw [Nat.mul_comm, Nat.mul_add_div hN, Nat.div_eq_of_lt h0]; omega
  have : t = t0 := by rw [← e1, ← e2, e]
  subst this
  omega
theorem Sound.put {d : Dfa} {s : ByteArray} {ws : List Nat} (h : Sound d s ws) {t0 q0 : Nat} (h0 : q0 < d.next.length) (he : E d s (q0 : Int) t0 = []) : Sound d s (putBit ws (t0 * d.next.length + q0)) := by
  intro t q ht hq hb
  rcases putBit_on ws _ _ hb with e | e
  · obtain ⟨rfl, rfl⟩ := key_inj hq h0 e
    exact he
  · exact h t q ht hq e
theorem sound_none (d : Dfa) (s : ByteArray) (n : Nat) : Sound d s (List.replicate n 0) := by
  intro t q _ _ hb
  unfold bitOn at hb
  rw [List.getD_eq_getElem?_getD, List.getElem?_replicate] at hb
  split at hb <;> simp at hb

/-- the walk from a place on: at a place, in a state, behind the last one that accepts -/
structure Go (d : Dfa) (s : ByteArray) (fr t : Nat) (q z : Int) (si : List Int) : Prop where
  len : z + 1 + (si.length : Int) = (t : Int)
  lo : (fr : Int) - 1 ≤ z
  q1 : -1 ≤ q
  q2 : q < (d.next.length : Int)
  t1 : 0 ≤ q → t ≤ s.size
  t2 : t ≤ s.size + 1
  eq : lastOr (E d s 0 fr) ((fr : Int) - 1) = lastOr (E d s q t) z
  st : ∀ i (h : i < si.length), ∃ k : Nat, si[i] = (k : Int) ∧ k < d.next.length ∧ E d s (k : Int) ((z + 1 + (i : Int)).toNat) = E d s q t
theorem Go.start {d : Dfa} (h : Ok d) (s : ByteArray) (fr : Nat) (hf : fr ≤ s.size) : Go d s fr fr 0 ((fr : Int) - 1) [] :=
  ⟨by simp, Int.le_refl _, by omega, by have := h.one; omega, fun _ => hf, by omega, rfl, fun i hi => by simp at hi⟩
theorem Go.yes {d : Dfa} (hk : Ok d) {s : ByteArray} {fr t q : Nat} {z : Int} {si : List Int} (g : Go d s fr t (q : Int) z si) (ha : acpt d q = true) : Go d s fr (t + 1) (to' d s t q) (t : Int) [] := by
  have ht := g.t1 (by omega)
  have hq : q < d.next.length := by have := g.q2; omega
  obtain ⟨a, b⟩ := to_ok hk s t q hq
  refine ⟨by simp, by have := g.lo; have := g.len; omega, a, b, fun h => to_end d s t q h ht, by omega, ?_, fun i hi => by simp at hi⟩
  rw [g.eq, E_yes d s q t ht ha, lastOr_cons]
theorem Go.no {d : Dfa} (hk : Ok d) {s : ByteArray} {fr t q : Nat} {z : Int} {si : List Int} (g : Go d s fr t (q : Int) z si) (ha : acpt d q = false) : Go d s fr (t + 1) (to' d s t q) z (si ++ [(q : Int)]) := by
  have ht := g.t1 (by omega)
  have hq : q < d.next.length := by have := g.q2; omega
  obtain ⟨a, b⟩ := to_ok hk s t q hq
  have he := E_no d s q t ht ha
  have hl := g.len
  refine ⟨by rw [List.length_append]; simp; omega, g.lo, a, b, fun h => to_end d s t q h ht, by omega, by rw [g.eq, he], fun i hi => ?_⟩
  by_cases h : i < si.length
  · rw [List.getElem_append_left h, ← he]
    exact g.st i h
  · rw [List.length_append] at hi
    have e : i = si.length := by simp at hi; omega
    subst e
    refine ⟨q, by simp, hq, ?_⟩
    rw [hl, Int.toNat_natCast, he]
theorem Go.done {d : Dfa} {s : ByteArray} {fr t : Nat} {q z : Int} {si : List Int} (g : Go d s fr t q z si) (h : E d s q t = []) : lastOr (E d s 0 fr) ((fr : Int) - 1) = z ∧ ∀ i (h : i < si.length), ∃ k : Nat, si[i] = (k : Int) ∧ k < d.next.length ∧ E d s (k : Int) ((z + 1 + (i : Int)).toNat) = [] := by
  refine ⟨by rw [g.eq, h, lastOr_nil], fun i hi => ?_⟩
  obtain ⟨k, a, b, c⟩ := g.st i hi
  exact ⟨k, a, b, c.trans h⟩

/-! the pieces -/
theorem E_le (d : Dfa) (s : ByteArray) : ∀ f q t, t + f ≤ s.size → ∀ x ∈ ends d s f q t, x ≤ (s.size : Int)
  | 0, q, t, h, x, hx => by
    unfold ends at hx
    split at hx
    · simp at hx
    · have := df.here_mem d _ _ x hx; omega
  | f + 1, q, t, h, x, hx => by
    unfold ends at hx
    split at hx
    · simp at hx
    · rcases List.mem_append.1 hx with hx | hx
      · have := df.here_mem d _ _ x hx; omega
      · exact E_le d s f _ (t + 1) (by omega) x hx
theorem last_mem {l : List Int} {z : Int} : lastOr l z = z ∨ lastOr l z ∈ l := by
  unfold lastOr
  cases h : l.getLast? with
  | none => exact .inl rfl
  | some y => exact .inr (List.mem_of_getLast? h)
/-- where a piece ends that begins at a place -/
def stop (d : Dfa) (s : ByteArray) (t : Nat) : Nat := (max (lastOr (E d s 0 t) ((t : Int) - 1)) ((t : Int) + 1)).toNat
theorem stop_gt (d : Dfa) (s : ByteArray) (t : Nat) : t < stop d s t := by unfold stop; omega
theorem stop_eq (d : Dfa) (s : ByteArray) (t : Nat) : ((stop d s t : Nat) : Int) = max (lastOr (E d s 0 t) ((t : Int) - 1)) ((t : Int) + 1) := by unfold stop; omega
theorem stop_le (d : Dfa) (s : ByteArray) (t : Nat) (h : t < s.size) : stop d s t ≤ s.size := by
  have h1 : lastOr (E d s 0 t) ((t : Int) - 1) ≤ (s.size : Int) := by
    rcases last_mem (l := E d s 0 t) (z := (t : Int) - 1) with e | e
    · omega
    · exact E_le d s (s.size - t) 0 t (by omega) _ e
  unfold stop
  omega
/-- the places at which the pieces begin and end, from a place on -/
def pcs (d : Dfa) (s : ByteArray) : Nat → Nat → List (Nat × Nat)
  | 0, _ => []
  | f + 1, t => if t < s.size then (t, stop d s t) :: pcs d s f (stop d s t) else []
theorem pcs_more (d : Dfa) (s : ByteArray) : ∀ f t g, s.size ≤ t + f → s.size ≤ t + g → pcs d s f t = pcs d s g t
  | 0, t, 0, _, _ => rfl
  | 0, t, g + 1, h, _ => by simp [pcs]; omega
  | f + 1, t, 0, _, h => by simp [pcs]; omega
  | f + 1, t, g + 1, h1, h2 => by
    unfold pcs
    split
    · have := stop_gt d s t
      rw [pcs_more d s f (stop d s t) g (by omega) (by omega)]
    · rfl
def all (d : Dfa) (s : ByteArray) (t : Nat) : List (Nat × Nat) := pcs d s (s.size - t) t
theorem all_end (d : Dfa) (s : ByteArray) (t : Nat) (h : s.size ≤ t) : all d s t = [] := by
  unfold all
  rw [show s.size - t = 0 by omega]
  rfl
theorem all_more (d : Dfa) (s : ByteArray) (t : Nat) (h : t < s.size) : all d s t = (t, stop d s t) :: all d s (stop d s t) := by
  unfold all
  rw [show s.size - t = (s.size - t - 1) + 1 by omega, pcs, if_pos h]
  have := stop_gt d s t
  rw [pcs_more d s (s.size - t - 1) (stop d s t) (s.size - stop d s t) (by omega) (by omega)]
theorem all_len (d : Dfa) (s : ByteArray) : ∀ f t, s.size ≤ t + f → (all d s t).length ≤ f
  | 0, t, h => by rw [all_end d s t (by omega)]; simp
  | f + 1, t, h => by
    by_cases e : t < s.size
    · rw [all_more d s t e]
      have := stop_gt d s t
      have := all_len d s f (stop d s t) (by omega)
      simp; omega
    · rw [all_end d s t (by omega)]; simp
end Go.Proofs.Ytmmlibehihknbaa.pc
