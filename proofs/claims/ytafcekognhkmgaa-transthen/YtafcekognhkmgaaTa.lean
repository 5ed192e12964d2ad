/-
  Plain mathematics: a machine, which may be, what it puts.
-/
import Derived.WalkKit
import Derived.Below
import Derived.Lib.OthersKept
namespace Go.Proofs.Ytafcekognhkmgaa.tr
set_option linter.unusedVariables false

structure Mc where
  next : List (List Int)
  put : List (List Int)
  fin : List Int
  txt : List ByteArray

def inB (n : Nat) (x : Int) : Bool := decide (0 ≤ x) && decide (x < (n : Int))
def below (n : Nat) (r : List Int) : Bool := r.all (inB n)
def rowOk (n : Nat) (r : List Int) : Bool := (r.length == 256) && below n r
def rows (n : Nat) (l : List (List Int)) : Bool := l.all (rowOk n)
def fits (t : ByteArray) : Bool := decide (t.size ≤ 4096)
def texts (l : List ByteArray) : Bool := l.all fits
def right (m : Mc) : Bool :=
  decide (1 ≤ m.next.length) && decide (m.next.length ≤ 1200) && (m.put.length == m.next.length) && (m.fin.length == m.next.length) && decide (m.txt.length ≤ 4096) && texts m.txt && rows m.next.length m.next && rows (2 * m.txt.length) m.put && below m.txt.length m.fin

theorem inB_iff {n : Nat} {x : Int} : inB n x = true ↔ 0 ≤ x ∧ x < (n : Int) := by simp [inB]
structure Right (m : Mc) : Prop where
  one : 1 ≤ m.next.length
  most : m.next.length ≤ 1200
  puts : m.put.length = m.next.length
  fins : m.fin.length = m.next.length
  few : m.txt.length ≤ 4096
  fit : ∀ t ∈ m.txt, t.size ≤ 4096
  nxs : ∀ r ∈ m.next, r.length = 256 ∧ ∀ x ∈ r, 0 ≤ x ∧ x < (m.next.length : Int)
  pts : ∀ r ∈ m.put, r.length = 256 ∧ ∀ x ∈ r, 0 ≤ x ∧ x < ((2 * m.txt.length : Nat) : Int)
  ens : ∀ x ∈ m.fin, 0 ≤ x ∧ x < (m.txt.length : Int)
theorem right_iff {m : Mc} : right m = true ↔ Right m := by
  constructor
  · intro h
    simp only [right, Bool.and_eq_true, decide_eq_true_eq, beq_iff_eq, texts, rows, below, List.all_eq_true, rowOk, inB_iff, fits] at h
    obtain ⟨⟨⟨⟨⟨⟨⟨⟨h1, h2⟩, h3⟩, h4⟩, h5⟩, h6⟩, h7⟩, h8⟩, h9⟩ := h
    exact ⟨h1, h2, h3, h4, h5, h6, h7, h8, h9⟩
  · intro h
    simp only [right, Bool.and_eq_true, decide_eq_true_eq, beq_iff_eq, texts, rows, below, List.all_eq_true, rowOk, inB_iff, fits]
    exact ⟨⟨⟨⟨⟨⟨⟨⟨h.one, h.most⟩, h.puts⟩, h.fins⟩, h.few⟩, h.fit⟩, h.nxs⟩, h.pts⟩, h.ens⟩

def nx (m : Mc) (s b : Nat) : Nat := ((m.next.getD s []).getD b 0).toNat
def pt (m : Mc) (s b : Nat) : Nat := ((m.put.getD s []).getD b 0).toNat
def en (m : Mc) (s : Nat) : Nat := (m.fin.getD s 0).toNat
def tx (m : Mc) (k : Nat) : ByteArray := m.txt.getD k ⟨#[]⟩

section
variable {m : Mc} (h : Right m) {s b : Nat}
include h
theorem Right.next_row (hs : s < m.next.length) : ∃ r, m.next[s]? = some r ∧ r.length = 256 ∧ ∀ b, b < 256 → r[b]? = some (nx m s b : Int) := by
  have hr := h.nxs _ (List.getElem_mem hs)
  refine ⟨m.next[s], List.getElem?_eq_getElem hs, hr.1, fun b hb => ?_⟩
  have hb' : b < m.next[s].length := by omega
  have h0 := (hr.2 _ (List.getElem_mem hb')).1
  rw [List.getElem?_eq_getElem hb']
  unfold nx
  simp [List.getD_eq_getElem?_getD, List.getElem?_eq_getElem hs, List.getElem?_eq_getElem hb']
  omega
theorem Right.put_row (hs : s < m.next.length) : ∃ r, m.put[s]? = some r ∧ r.length = 256 ∧ ∀ b, b < 256 → r[b]? = some (pt m s b : Int) := by
  have hs' : s < m.put.length := by rw [h.puts]; exact hs
  have hr := h.pts _ (List.getElem_mem hs')
  refine ⟨m.put[s], List.getElem?_eq_getElem hs', hr.1, fun b hb => ?_⟩
  have hb' : b < m.put[s].length := by omega
  have h0 := (hr.2 _ (List.getElem_mem hb')).1
  rw [List.getElem?_eq_getElem hb']
  unfold pt
  simp [List.getD_eq_getElem?_getD, List.getElem?_eq_getElem hs', List.getElem?_eq_getElem hb']
  omega
theorem Right.nx_lt (hs : s < m.next.length) (hb : b < 256) : nx m s b < m.next.length := by
  obtain ⟨r, h1, h2, h3⟩ := h.next_row hs
  have := (h.nxs r (List.mem_of_getElem? h1)).2 _ (List.mem_of_getElem? (h3 b hb))
  omega
theorem Right.pt_lt (hs : s < m.next.length) (hb : b < 256) : pt m s b < 2 * m.txt.length := by
  obtain ⟨r, h1, h2, h3⟩ := h.put_row hs
  have := (h.pts r (List.mem_of_getElem? h1)).2 _ (List.mem_of_getElem? (h3 b hb))
  omega
theorem Right.fin_at (hs : s < m.next.length) : m.fin[s]? = some (en m s : Int) := by
  have hs' : s < m.fin.length := by rw [h.fins]; exact hs
  have h0 := (h.ens _ (List.getElem_mem hs')).1
  rw [List.getElem?_eq_getElem hs']
  unfold en
  simp [List.getD_eq_getElem?_getD, List.getElem?_eq_getElem hs']
  omega
theorem Right.en_lt (hs : s < m.next.length) : en m s < m.txt.length := by
  have := h.ens _ (List.mem_of_getElem? (h.fin_at hs))
  omega
theorem Right.tx_le (k : Nat) : (tx m k).size ≤ 4096 := by
  unfold tx
  rw [List.getD_eq_getElem?_getD]
  by_cases hk : k < m.txt.length
  · rw [List.getElem?_eq_getElem hk]
    exact h.fit _ (List.getElem_mem hk)
  · rw [List.getElem?_eq_none (by omega)]
    decide
end
theorem tx_at {m : Mc} {k : Nat} (hk : k < m.txt.length) : m.txt[k]? = some (tx m k) := by
  unfold tx
  rw [List.getD_eq_getElem?_getD, List.getElem?_eq_getElem hk]
  rfl

theorem list_len (s : ByteArray) : s.data.toList.length = s.size := by cases s; rfl

/-- what is put at a byte -/
def outp (m : Mc) (s : Nat) (b : UInt8) : List UInt8 := (tx m (pt m s b.toNat / 2)).data.toList ++ (if pt m s b.toNat % 2 = 1 then [b] else [])
def go (m : Mc) : Nat → List UInt8 → List UInt8 × Nat
  | s, [] => ([], s)
  | s, b :: r => (outp m s b ++ (go m (nx m s b.toNat) r).1, (go m (nx m s b.toNat) r).2)
def total (m : Mc) (s : Nat) (l : List UInt8) : List UInt8 := (go m s l).1 ++ (tx m (en m (go m s l).2)).data.toList

theorem go_append (m : Mc) (s : Nat) (l r : List UInt8) : go m s (l ++ r) = ((go m s l).1 ++ (go m (go m s l).2 r).1, (go m (go m s l).2 r).2) := by
  induction l generalizing s with
  | nil => rfl
  | cons b l ih => simp only [List.cons_append, go, ih, List.append_assoc]
theorem go_snoc (m : Mc) (s : Nat) (l : List UInt8) (b : UInt8) : go m s (l ++ [b]) = ((go m s l).1 ++ outp m (go m s l).2 b, nx m (go m s l).2 b.toNat) := by
  rw [go_append]
  simp [go]
theorem go_lt {m : Mc} (h : Right m) {s : Nat} (hs : s < m.next.length) (l : List UInt8) : (go m s l).2 < m.next.length := by
  induction l generalizing s with
  | nil => exact hs
  | cons b l ih => exact ih (h.nx_lt hs b.toNat_lt)
theorem go_take_le (m : Mc) (s : Nat) (l : List UInt8) (i : Nat) : (go m s (l.take i)).1.length ≤ (go m s l).1.length := by
  have e := go_append m s (l.take i) (l.drop i)
  rw [List.take_append_drop] at e
  rw [e]
  simp
theorem outp_len {m : Mc} (h : Right m) (s : Nat) (b : UInt8) : (outp m s b).length ≤ 4097 := by
  have := h.tx_le (pt m s b.toNat / 2)
  unfold outp
  rw [List.length_append, list_len]
  split <;> simp <;> omega
theorem take_succ_go (m : Mc) (s : Nat) (l : List UInt8) (i : Nat) (hi : i < l.length) : go m s (l.take (i + 1)) = ((go m s (l.take i)).1 ++ outp m (go m s (l.take i)).2 l[i], nx m (go m s (l.take i)).2 l[i].toNat) := by
  rw [List.take_add_one, List.getElem?_eq_getElem hi, ← go_snoc]
  rfl

/-- what Run answers -/
def runE (m : Mc) (s : ByteArray) : Nat := if right m = true then (if s.size ≤ 4096 ∧ (total m 0 s.data.toList).length ≤ 262144 then 0 else 2) else 120
def runT (m : Mc) (s : ByteArray) : ByteArray := if right m = true ∧ s.size ≤ 4096 ∧ (total m 0 s.data.toList).length ≤ 262144 then ⟨(total m 0 s.data.toList).toArray⟩ else ⟨#[]⟩
end Go.Proofs.Ytafcekognhkmgaa.tr
