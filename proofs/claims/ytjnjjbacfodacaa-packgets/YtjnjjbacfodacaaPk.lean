/-
  Plain mathematics: sections, their bytes, what is read of bytes section by section, and a pack.
-/
import Derived.Test.YtjnjjbacfodacaaFours
import Derived.Test.YtjnjjbacfodacaaTexts
import Derived.Test.YtjnjjbacfodacaaBurst
namespace Go.Proofs.Ytjnjjbacfodacaa.pk
open Go.ChangeShapes Go.WideShapes Go.ChangeAt Go.RowKit
set_option linter.unusedVariables false

structure Sec where
  kind : Nat
  body : ByteArray

/-- a section that a memory can hold -/
def Fits (x : Sec) : Prop := x.kind < 18446744073709551616 ∧ x.body.size ≤ 140737488351232

def secBytes (x : Sec) : List UInt8 := num.digs x.kind ++ (num.digs x.body.size ++ x.body.data.toList)
def secs : List Sec → List UInt8
  | [] => []
  | x :: l => secBytes x ++ secs l
def total : List Sec → Nat
  | [] => 0
  | x :: l => x.body.size + total l
def over (k : Option Nat) (n : Nat) : Bool := match k with
  | none => true
  | some j => decide (j < n)
def rises : Option Nat → List Sec → Bool
  | _, [] => true
  | k, x :: l => over k x.kind && rises (some x.kind) l
def lastKind (l : List Sec) : Option Nat := l.getLast?.map Sec.kind
def magic : List UInt8 := [70, 83, 65, 87, 1]
def csum (l : List UInt8) : Nat := 4294967295 - crc.reg 4294967295 l
theorem csum_lt (l : List UInt8) : csum l < 4294967296 := by unfold csum; omega
def core (l : List Sec) : List UInt8 := magic ++ (num.digs l.length ++ secs l)
def sealed (l : List UInt8) : List UInt8 := l ++ num.four (csum l)
def packed (l : List Sec) : ByteArray := ⟨(sealed (core l)).toArray⟩
theorem packed_list (l : List Sec) : (packed l).data.toList = sealed (core l) := by simp [packed]

theorem secs_append (a b : List Sec) : secs (a ++ b) = secs a ++ secs b := by
  induction a with
  | nil => rfl
  | cons x a ih => rw [List.cons_append, secs, secs, ih, List.append_assoc]
theorem total_append (a b : List Sec) : total (a ++ b) = total a + total b := by
  induction a with
  | nil => simp [total]
  | cons x a ih => rw [List.cons_append, total, total, ih, Nat.add_assoc]
theorem last_append (l : List Sec) (x : Sec) : lastKind (l ++ [x]) = some x.kind := by simp [lastKind]
theorem last_nil : lastKind [] = none := rfl

theorem secBytes_length (x : Sec) (h : Fits x) : (secBytes x).length ≤ 20 + x.body.size := by
  have h1 := num.digs_length x.kind h.1
  have h2 := num.digs_length x.body.size (by have := h.2; omega)
  unfold secBytes
  rw [List.length_append, List.length_append, num.size_list]
  omega
theorem secs_length (l : List Sec) (h : ∀ x ∈ l, Fits x) : (secs l).length ≤ 20 * l.length + total l := by
  induction l with
  | nil => simp [secs, total]
  | cons x l ih =>
    have h1 := secBytes_length x (h x (by simp))
    have h2 := ih (fun y hy => h y (by simp [hy]))
    rw [secs, total, List.length_append, List.length_cons]
    omega

/-- a text behind its length, at a place -/
def getT (s : ByteArray) (p : Nat) : ByteArray × Nat × Nat :=
  if (num.gets s.data.toList p).2.2 ≠ 0 then (⟨#[]⟩, 0, (num.gets s.data.toList p).2.2)
  else if 8388608 < (num.gets s.data.toList p).1 then (⟨#[]⟩, 0, 2)
  else if s.size < (num.gets s.data.toList p).2.1 + (num.gets s.data.toList p).1 then (⟨#[]⟩, 0, 20)
  else (s.extract (num.gets s.data.toList p).2.1 ((num.gets s.data.toList p).2.1 + (num.gets s.data.toList p).1), (num.gets s.data.toList p).2.1 + (num.gets s.data.toList p).1, 0)

theorem text_both (s : ByteArray) (p : Nat) (hs : s.size ≤ 140737488351232) (hp : p ≤ s.size) (t : ByteArray) (to e : Nat) (h : getT s p = (t, to, e)) :
    num.GetTextIs s p 8388608 t to e ∧ num.RGetTextIs s p 8388608 t to e ∧ ((e = 0 ∧ p < to ∧ to ≤ s.size ∧ t.size ≤ 8388608 ∧ num.digs t.size ++ t.data.toList = (s.data.toList.take to).drop p) ∨ ((e = 2 ∨ e = 20 ∨ e = 21) ∧ t = ⟨#[]⟩ ∧ to = 0)) := by
  obtain ⟨n, q, f, hg⟩ : ∃ n q f, num.gets s.data.toList p = (n, q, f) := ⟨_, _, _, rfl⟩
  have hb := num.gets_bounds hg (by rw [num.size_list]; exact hp)
  have g := num.get_in s p (by omega) hp n q f hg
  have r := num.rget_in s p hs hp n q f hg
  unfold getT at h
  rw [hg] at h
  simp only at h
  by_cases h0 : f = 0
  · subst h0
    rw [if_neg (by simp)] at h
    have hq : p < q ∧ q ≤ s.size ∧ num.rd (s.data.toList.drop p) = (n, q - p, 0) := by
      rw [num.size_list] at hb
      rcases hb.2 with h1 | h1
      · exact ⟨h1.2.1, h1.2.2.2.1, h1.2.2.2.2⟩
      · omega
    by_cases h1 : 8388608 < n
    · rw [if_pos h1] at h
      simp only [Prod.mk.injEq] at h
      obtain ⟨rfl, rfl, rfl⟩ := h
      exact ⟨num.text_err s p _ 0 0 2 (num.size_long s p 8388608 n q hb.1 (by omega) g (by omega)) (by omega), num.rtext_long s p 8388608 n q hb.1 (by omega) r (by omega), .inr ⟨by omega, rfl, rfl⟩⟩
    · rw [if_neg h1] at h
      by_cases h2 : s.size < q + n
      · rw [if_pos h2] at h
        simp only [Prod.mk.injEq] at h
        obtain ⟨rfl, rfl, rfl⟩ := h
        exact ⟨num.text_short s p _ n q (by omega) hq.2.1 (num.size_ok s p 8388608 n q hb.1 (by omega) g (by omega)) h2, num.rtext_short s p 8388608 n q hs hb.1 (by omega) r hq.2.1 (by omega) h2, .inr ⟨by omega, rfl, rfl⟩⟩
      · rw [if_neg h2] at h
        simp only [Prod.mk.injEq] at h
        obtain ⟨rfl, rfl, rfl⟩ := h
        refine ⟨num.text_ok s p _ n q (by omega) (by omega) (num.size_ok s p 8388608 n q hb.1 (by omega) g (by omega)) (by omega), num.rtext_ok s p 8388608 n q hs hb.1 (by omega) r (by omega) (by omega), .inl ⟨rfl, by omega, by omega, ?_, ?_⟩⟩
        · rw [ByteArray.size_extract]; omega
        · have hk := (num.rd_ok hq.2.2).1
          have e1 : (s.extract q (q + n)).size = n := by rw [ByteArray.size_extract]; omega
          rw [e1, hk, num.cut_list]
          have e2 : (s.data.toList.take (q + n)).drop p = ((s.data.toList.take (q + n)).drop p).take (q - p) ++ ((s.data.toList.take (q + n)).drop p).drop (q - p) := (List.take_append_drop _ _).symm
          rw [e2, List.drop_drop, show p + (q - p) = q from by omega]
          congr 1
          rw [List.drop_take, List.take_take, show min (q - p) (q + n - p) = q - p from by omega]
  · rw [if_pos h0] at h
    simp only [Prod.mk.injEq] at h
    obtain ⟨rfl, rfl, rfl⟩ := h
    refine ⟨num.text_err s p _ 0 0 f (num.size_err s p _ n q f g h0) h0, num.rtext_err s p _ n q f r h0, .inr ⟨?_, rfl, rfl⟩⟩
    rcases hb.2 with h1 | h1
    · omega
    · omega

/-- section by section: how many are left, the kind ahead, the place -/
def rdS (s : ByteArray) : Nat → Option Nat → Nat → List Sec × Nat × Nat
  | 0, _, p => ([], p, 0)
  | m + 1, k, p =>
    if (num.gets s.data.toList p).2.2 ≠ 0 then ([], 0, (num.gets s.data.toList p).2.2)
    else if over k (num.gets s.data.toList p).1 = false then ([], 0, 21)
    else if (getT s (num.gets s.data.toList p).2.1).2.2 ≠ 0 then ([], 0, (getT s (num.gets s.data.toList p).2.1).2.2)
    else if (rdS s m (some (num.gets s.data.toList p).1) (getT s (num.gets s.data.toList p).2.1).2.1).2.2 ≠ 0 then ([], 0, (rdS s m (some (num.gets s.data.toList p).1) (getT s (num.gets s.data.toList p).2.1).2.1).2.2)
    else (⟨(num.gets s.data.toList p).1, (getT s (num.gets s.data.toList p).2.1).1⟩ :: (rdS s m (some (num.gets s.data.toList p).1) (getT s (num.gets s.data.toList p).2.1).2.1).1, (rdS s m (some (num.gets s.data.toList p).1) (getT s (num.gets s.data.toList p).2.1).2.1).2.1, 0)

def jn (acc : List Sec) (r : List Sec × Nat × Nat) : List Sec × Nat × Nat := if r.2.2 = 0 then (acc ++ r.1, r.2.1, 0) else ([], 0, r.2.2)
theorem jn_end (s : ByteArray) (acc : List Sec) (k : Option Nat) (p : Nat) : jn acc (rdS s 0 k p) = (acc, p, 0) := by simp [jn, rdS]
theorem jn_num {s : ByteArray} {acc : List Sec} {k : Option Nat} {m p n q e : Nat} (h : num.gets s.data.toList p = (n, q, e)) (he : e ≠ 0) : jn acc (rdS s (m + 1) k p) = ([], 0, e) := by
  rw [rdS, h]; simp [he, jn]
theorem jn_kind {s : ByteArray} {acc : List Sec} {k : Option Nat} {m p n q : Nat} (h : num.gets s.data.toList p = (n, q, 0)) (hk : over k n = false) : jn acc (rdS s (m + 1) k p) = ([], 0, 21) := by
  rw [rdS, h]; simp [hk, jn]
theorem jn_text {s : ByteArray} {acc : List Sec} {k : Option Nat} {m p n q r e : Nat} {t : ByteArray} (h : num.gets s.data.toList p = (n, q, 0)) (hk : over k n = true) (ht : getT s q = (t, r, e)) (he : e ≠ 0) : jn acc (rdS s (m + 1) k p) = ([], 0, e) := by
  rw [rdS, h]; simp only; rw [ht]; simp [hk, he, jn]
theorem jn_ok {s : ByteArray} {acc : List Sec} {k : Option Nat} {m p n q r : Nat} {t : ByteArray} (h : num.gets s.data.toList p = (n, q, 0)) (hk : over k n = true) (ht : getT s q = (t, r, 0)) : jn acc (rdS s (m + 1) k p) = jn (acc ++ [⟨n, t⟩]) (rdS s m (some n) r) := by
  rw [rdS, h]; simp only; rw [ht]
  by_cases h0 : (rdS s m (some n) r).2.2 = 0
  · simp [hk, h0, jn]
  · simp [hk, h0, jn]

/-- what is written is read again -/
theorem rdS_secs (s : ByteArray) (l : List Sec) (k : Option Nat) (p : Nat) (r : List UInt8) (hs : s.size ≤ 140737488351232) (hl : ∀ x ∈ l, Fits x ∧ x.body.size ≤ 8388608) (hk : rises k l = true) (hd : s.data.toList.drop p = secs l ++ r) :
    rdS s l.length k p = (l, p + (secs l).length, 0) := by
  induction l generalizing k p with
  | nil => simp [rdS, secs]
  | cons x l ih =>
    have hx := hl x (by simp)
    rw [rises, Bool.and_eq_true] at hk
    have hg : num.gets s.data.toList p = (x.kind, p + (num.digs x.kind).length, 0) := by
      refine num.gets_ok ?_
      rw [hd, secs, secBytes, List.append_assoc, List.append_assoc]
      exact num.rd_digs _ _ hx.1.1
    have hd2 : s.data.toList.drop (p + (num.digs x.kind).length) = num.digs x.body.size ++ (x.body.data.toList ++ (secs l ++ r)) := by
      rw [← List.drop_drop, hd, secs, secBytes, List.append_assoc, List.append_assoc, List.drop_left, List.append_assoc]
    have hg2 : num.gets s.data.toList (p + (num.digs x.kind).length) = (x.body.size, p + (num.digs x.kind).length + (num.digs x.body.size).length, 0) := by
      refine num.gets_ok ?_
      rw [hd2]
      exact num.rd_digs _ _ (by have := hx.2; omega)
    have hd3 : s.data.toList.drop (p + (num.digs x.kind).length + (num.digs x.body.size).length) = x.body.data.toList ++ (secs l ++ r) := by
      rw [← List.drop_drop, hd2, List.drop_left]
    have hlen : p + (num.digs x.kind).length + (num.digs x.body.size).length + x.body.size ≤ s.size := by
      have h1 := congrArg List.length hd3
      rw [List.length_drop, List.length_append, num.size_list, num.size_list] at h1
      have h2 := num.digs_pos x.kind
      have h3 := congrArg List.length hd
      rw [List.length_drop, num.size_list, secs, secBytes, List.length_append, List.length_append, List.length_append, List.length_append, num.size_list] at h3
      omega
    have hT : getT s (p + (num.digs x.kind).length) = (x.body, p + (num.digs x.kind).length + (num.digs x.body.size).length + x.body.size, 0) := by
      unfold getT
      rw [hg2]
      simp only
      rw [if_neg (by simp), if_neg (by have := hx.2; omega), if_neg (by omega)]
      have e : s.extract (p + (num.digs x.kind).length + (num.digs x.body.size).length) (p + (num.digs x.kind).length + (num.digs x.body.size).length + x.body.size) = x.body := by
        refine num.bytes_ext ?_
        rw [num.cut_list, List.drop_take, hd3, Nat.add_sub_cancel_left, ← num.size_list, List.take_left]
      rw [e]
    have hr := ih (some x.kind) (p + (num.digs x.kind).length + (num.digs x.body.size).length + x.body.size) (fun y hy => hl y (by simp [hy])) hk.2 (by
      rw [← List.drop_drop, hd3, ← num.size_list, List.drop_left])
    rw [List.length_cons, rdS, hg]
    simp only
    rw [hT]
    simp only
    rw [hr]
    simp only [hk.1]
    rw [if_neg (by simp), if_neg (by simp), if_neg (by simp), if_neg (by simp)]
    congr 2
    rw [secs, secBytes, List.length_append, List.length_append, List.length_append, num.size_list]
    omega

/-- what is read, written again, is what was read -/
theorem secs_rdS (s : ByteArray) (m : Nat) (k : Option Nat) (p : Nat) (hs : s.size ≤ 140737488351232) (hp : p ≤ s.size) (ls : List Sec) (z : Nat) (h : rdS s m k p = (ls, z, 0)) :
    ls.length = m ∧ p ≤ z ∧ z ≤ s.size ∧ secs ls = (s.data.toList.take z).drop p ∧ rises k ls = true ∧ ∀ x ∈ ls, Fits x ∧ x.body.size ≤ 8388608 := by
  induction m generalizing k p ls z with
  | zero =>
    simp only [rdS, Prod.mk.injEq] at h
    obtain ⟨rfl, rfl, _⟩ := h
    refine ⟨rfl, by omega, hp, ?_, rfl, by simp⟩
    rw [secs, List.drop_eq_nil_of_le (by rw [List.length_take]; omega)]
  | succ m ih =>
    obtain ⟨n, q, e, hg⟩ : ∃ n q e, num.gets s.data.toList p = (n, q, e) := ⟨_, _, _, rfl⟩
    have hb := num.gets_bounds hg (by rw [num.size_list]; exact hp)
    rw [num.size_list] at hb
    rw [rdS, hg] at h
    simp only at h
    by_cases h0 : e = 0
    · subst h0
      rw [if_neg (by simp)] at h
      have hq : p < q ∧ q ≤ s.size ∧ num.rd (s.data.toList.drop p) = (n, q - p, 0) := by
        rcases hb.2 with h1 | h1
        · exact ⟨h1.2.1, h1.2.2.2.1, h1.2.2.2.2⟩
        · omega
      by_cases h1 : over k n = false
      · rw [if_pos h1] at h
        simp at h
      · rw [if_neg h1] at h
        obtain ⟨t, r, f, ht⟩ : ∃ t r f, getT s q = (t, r, f) := ⟨_, _, _, rfl⟩
        have hT := (text_both s q hs hq.2.1 t r f ht).2.2
        rw [ht] at h
        simp only at h
        by_cases h2 : f = 0
        · subst h2
          rw [if_neg (by simp)] at h
          obtain ⟨l2, z2, f2, hr⟩ : ∃ l2 z2 f2, rdS s m (some n) r = (l2, z2, f2) := ⟨_, _, _, rfl⟩
          rw [hr] at h
          simp only at h
          by_cases h3 : f2 = 0
          · subst h3
            rw [if_neg (by simp)] at h
            simp only [Prod.mk.injEq] at h
            obtain ⟨rfl, rfl, _⟩ := h
            rcases hT with ⟨_, t1, t2, t3, t4⟩ | ⟨h4, _⟩
            · obtain ⟨i1, i2, i3, i4, i5, i6⟩ := ih (some n) r t2 l2 z2 hr
              have hk := (num.rd_ok hq.2.2).1
              refine ⟨by rw [List.length_cons, i1], by omega, i3, ?_, ?_, ?_⟩
              · rw [secs, secBytes, t4, i4]
                simp only
                rw [hk]
                have e1 : (s.data.toList.take z2).drop p = ((s.data.toList.take z2).drop p).take (q - p) ++ ((s.data.toList.take z2).drop p).drop (q - p) := (List.take_append_drop _ _).symm
                have e2 : (s.data.toList.take z2).drop q = ((s.data.toList.take z2).drop q).take (r - q) ++ ((s.data.toList.take z2).drop q).drop (r - q) := (List.take_append_drop _ _).symm
                rw [e1, List.drop_drop, show p + (q - p) = q from by omega, e2, List.drop_drop, show q + (r - q) = r from by omega, List.append_assoc]
                congr 1
                · rw [List.drop_take, List.take_take, show min (q - p) (z2 - p) = q - p from by omega]
                · congr 1
                  rw [List.drop_take, List.drop_take, List.take_take, show min (r - q) (z2 - q) = r - q from by omega]
              · rw [rises, i5]
                cases hov : over k n
                · exact absurd hov h1
                · rfl
              · intro x hx
                rcases List.mem_cons.1 hx with rfl | hx
                · exact ⟨⟨hb.1, by show t.size ≤ _; omega⟩, t3⟩
                · exact i6 x hx
            · omega
          · rw [if_pos h3] at h
            simp only [Prod.mk.injEq] at h
            omega
        · rw [if_pos h2] at h
          simp only [Prod.mk.injEq] at h
          omega
    · rw [if_pos h0] at h
      simp only [Prod.mk.injEq] at h
      omega
end Go.Proofs.Ytjnjjbacfodacaa.pk
