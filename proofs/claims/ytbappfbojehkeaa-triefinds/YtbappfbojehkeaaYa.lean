/-
  Plain: a trie as three lists of numbers, where one goes, which trie may be, what one tells; and such a trie in memory.
-/
import Derived.Test.YtbappfbojehkeaaRows
import Derived.WalkKit
import Derived.ChangeAt
import Derived.Below
import Derived.Lib.OthersKept
import Derived.Laws.Rows
import Derived.Laws.Bits64b
import Derived.WalkLawsBesides
import Derived.Deep.QuietTactic
import Derived.Deep.RegionHeld3
import Derived.WalkSmall
import Derived.BigQuiet
import Derived.SizedLaws
import Derived.Laws.IdiomArrays
import Derived.Deep.Slices
import Derived.ChangeOld
import Derived.OpenShut
import Derived.ProofKit
namespace Go.Proofs.Ytbappfbojehkeaa.ti
open Go.ChangeShapes Go.WideShapes Go.ChangeAt Go.RowKit
set_option linter.unusedVariables false

theorem below_alloc (w : World) (o : Obj) : Below w.heap.size w (w.alloc o) := (Below.refl _ _).alloc (Nat.le_refl _) o
theorem chain {w w1 w2 : World} (h1 : Below w.heap.size w w1) (h2 : Below w1.heap.size w1 w2) : Below w.heap.size w w2 := h1.trans (h2.mono h1.size)
theorem below_drewN {B : Nat} {a w : World} (h : Below B a w) (n : Nat) : Below B a (w.drewN n) := ⟨h.os, h.tape, h.output, h.size, h.block⟩


structure Tr where
  base : List Int
  check : List Int
  word : List Int
def right (t : Tr) : Bool := decide (1 ≤ t.base.length ∧ t.base.length ≤ 400000 ∧ t.check.length = t.base.length ∧ t.word.length = t.base.length)
/-- where one goes from a state by a byte; -1: nowhere -/
def fro (t : Tr) (q b : Nat) : Int :=
  if t.base.getD q 0 < -400000 ∨ 400000 < t.base.getD q 0 then -1
  else if t.base.getD q 0 + b + 1 ≤ 0 ∨ (t.check.length : Int) ≤ t.base.getD q 0 + b + 1 ∨ t.check.getD (t.base.getD q 0 + b + 1).toNat 0 ≠ q then -1
  else t.base.getD q 0 + b + 1
theorem fro_lt (t : Tr) (q b : Nat) : -1 ≤ fro t q b ∧ (0 ≤ fro t q b → fro t q b < t.check.length) := by
  unfold fro
  split
  · omega
  · split
    · omega
    · omega
def byte (s : ByteArray) (i : Nat) : Nat := (s.data[i]?.getD 0).toNat
theorem byte_eq (s : ByteArray) (i : Nat) (h : i < s.size) : byte s i = s[i].toNat := by
  unfold byte
  have : i < s.data.size := h
  rw [Array.getElem?_eq_getElem this]
  rfl
/-- the states gone through from a state on, each with the bytes gone, k more bytes at most -/
def prs (t : Tr) (f : Nat → Nat) : Nat → Nat → Nat → List (Nat × Nat)
  | 0, e, q => [(e, q)]
  | k + 1, e, q => (e, q) :: (if 0 ≤ fro t q (f e) then prs t f k (e + 1) (fro t q (f e)).toNat else [])
/-- the state behind k more bytes; -1: one does not get there -/
def run (t : Tr) (f : Nat → Nat) : Nat → Nat → Nat → Int
  | 0, _, q => q
  | k + 1, e, q => if 0 ≤ fro t q (f e) then run t f k (e + 1) (fro t q (f e)).toNat else -1
def num (t : Tr) (f : Nat → Nat) (k e q : Nat) : Int := if run t f k e q < 0 ∨ t.word.getD (run t f k e q).toNat 0 < 0 then -1 else t.word.getD (run t f k e q).toNat 0
theorem run_ext (t : Tr) (f g : Nat → Nat) : ∀ k e q, (∀ i, e ≤ i → i < e + k → f i = g i) → run t f k e q = run t g k e q := by
  intro k
  induction k with
  | zero => intro e q h; rfl
  | succ k ih =>
    intro e q h
    simp only [run]
    rw [h e (by omega) (by omega), ih (e + 1) _ (fun i h1 h2 => h i (by omega) (by omega))]
theorem num_ext (t : Tr) (f g : Nat → Nat) (k e q : Nat) (h : ∀ i, e ≤ i → i < e + k → f i = g i) : num t f k e q = num t g k e q := by
  unfold num; rw [run_ext t f g k e q h]
theorem prs_ext (t : Tr) (f g : Nat → Nat) : ∀ k e q, (∀ i, e ≤ i → i < e + k → f i = g i) → prs t f k e q = prs t g k e q := by
  intro k
  induction k with
  | zero => intro e q h; rfl
  | succ k ih =>
    intro e q h
    simp only [prs]
    rw [h e (by omega) (by omega), ih (e + 1) _ (fun i h1 h2 => h i (by omega) (by omega))]
theorem run_yes {t : Tr} {f : Nat → Nat} {e q : Nat} (h : 0 ≤ fro t q (f e)) (k : Nat) : run t f (k + 1) e q = run t f k (e + 1) (fro t q (f e)).toNat := by rw [run, if_pos h]
theorem run_no {t : Tr} {f : Nat → Nat} {e q : Nat} (h : ¬ 0 ≤ fro t q (f e)) (k : Nat) : run t f (k + 1) e q = -1 := by rw [run, if_neg h]
theorem prs_yes {t : Tr} {f : Nat → Nat} {e q : Nat} (h : 0 ≤ fro t q (f e)) (k : Nat) : prs t f (k + 1) e q = (e, q) :: prs t f k (e + 1) (fro t q (f e)).toNat := by rw [prs, if_pos h]
theorem prs_no {t : Tr} {f : Nat → Nat} {e q : Nat} (h : ¬ 0 ≤ fro t q (f e)) (k : Nat) : prs t f (k + 1) e q = [(e, q)] := by rw [prs, if_neg h]
theorem prs_zero (t : Tr) (f : Nat → Nat) (e q : Nat) : prs t f 0 e q = [(e, q)] := rfl
theorem run_zero (t : Tr) (f : Nat → Nat) (e q : Nat) : run t f 0 e q = (q : Int) := rfl
theorem num_yes {t : Tr} {f : Nat → Nat} {e q : Nat} (h : 0 ≤ fro t q (f e)) (k : Nat) : num t f (k + 1) e q = num t f k (e + 1) (fro t q (f e)).toNat := by unfold num; rw [run_yes h]
theorem num_no {t : Tr} {f : Nat → Nat} {e q : Nat} (h : ¬ 0 ≤ fro t q (f e)) (k : Nat) : num t f (k + 1) e q = -1 := by unfold num; rw [run_no h, if_pos (.inl (by omega))]
theorem num_zero (t : Tr) (f : Nat → Nat) (e q : Nat) : num t f 0 e q = if t.word.getD q 0 < 0 then -1 else t.word.getD q 0 := by
  unfold num
  rw [run_zero, Int.toNat_natCast]
  by_cases h : t.word.getD q 0 < 0
  · rw [if_pos (.inr h), if_pos h]
  · rw [if_neg (by omega), if_neg h]
theorem prs_snoc (t : Tr) (f : Nat → Nat) : ∀ k e q, prs t f (k + 1) e q = prs t f k e q ++ (if 0 ≤ run t f (k + 1) e q then [(e + (k + 1), (run t f (k + 1) e q).toNat)] else []) := by
  intro k
  induction k with
  | zero =>
    intro e q
    by_cases h : 0 ≤ fro t q (f e)
    · rw [prs_yes h, run_yes h, run_zero, prs_zero, prs_zero, if_pos (by omega), Int.toNat_natCast]; rfl
    · rw [prs_no h, run_no h, if_neg (by omega)]; simp [prs_zero]
  | succ k ih =>
    intro e q
    by_cases h : 0 ≤ fro t q (f e)
    · rw [prs_yes h, prs_yes h, run_yes h, ih, List.cons_append, show e + 1 + (k + 1) = e + (k + 1 + 1) by omega]
    · rw [prs_no h, prs_no h, run_no h, if_neg (by omega)]; simp
theorem prs_len (t : Tr) (f : Nat → Nat) : ∀ k e q, (prs t f k e q).length ≤ k + 1 := by
  intro k
  induction k with
  | zero => intro e q; simp [prs]
  | succ k ih =>
    intro e q
    simp only [prs, List.length_cons]
    split
    · have := ih (e + 1) (fro t q (f e)).toNat; omega
    · simp
theorem prs_lt {t : Tr} (f : Nat → Nat) : ∀ k e q, q < t.check.length → ∀ x ∈ prs t f k e q, x.2 < t.check.length ∧ x.1 ≤ e + k := by
  intro k
  induction k with
  | zero => intro e q hq x hx; simp [prs] at hx; subst hx; exact ⟨hq, by simp⟩
  | succ k ih =>
    intro e q hq x hx
    simp only [prs, List.mem_cons] at hx
    rcases hx with rfl | hx
    · exact ⟨hq, by simp⟩
    · split at hx
      · rename_i h0
        have hl := (fro_lt t q (f e)).2 h0
        obtain ⟨h1, h3⟩ := ih (e + 1) _ (by omega) x hx
        exact ⟨h1, by omega⟩
      · simp at hx
/-- what Find has at the end -/
def lastAt (t : Tr) (n : Nat) (l : List (Nat × Nat)) : Int := l.foldl (fun a x => if x.1 = n then t.word.getD x.2 0 else a) (-1)
theorem lastAt_snoc (t : Tr) (n : Nat) (l : List (Nat × Nat)) (x : Nat × Nat) : lastAt t n (l ++ [x]) = if x.1 = n then t.word.getD x.2 0 else lastAt t n l := by
  unfold lastAt; rw [List.foldl_append]; rfl
theorem lastAt_none (t : Tr) (n : Nat) (f : Nat → Nat) : ∀ k q, k < n → lastAt t n (prs t f k 0 q) = -1 := by
  intro k q
  induction k with
  | zero => intro h; unfold lastAt; simp [prs]; omega
  | succ k ih =>
    intro h
    rw [prs_snoc]
    split
    · rw [lastAt_snoc, if_neg (by simp; omega)]; exact ih (by omega)
    · rw [List.append_nil]; exact ih (by omega)
theorem lastAt_all (t : Tr) (f : Nat → Nat) (n q : Nat) : max (lastAt t n (prs t f n 0 q)) (-1) = num t f n 0 q := by
  cases n with
  | zero =>
    rw [num_zero, prs_zero]
    unfold lastAt
    simp only [List.foldl_cons, List.foldl_nil, if_true]
    split <;> omega
  | succ n =>
    rw [prs_snoc]
    unfold num
    by_cases h : 0 ≤ run t f (n + 1) 0 q
    · rw [if_pos h, lastAt_snoc, if_pos (by simp)]
      show max (t.word.getD (run t f (n + 1) 0 q).toNat 0) (-1) = _
      split <;> omega
    · rw [if_neg h, List.append_nil, lastAt_none t _ f n q (by omega), if_pos (.inl (by omega))]; rfl
/-- what Longest has at the end -/
def far (t : Tr) (at' : Nat) (l : List (Nat × Nat)) : Int × Int := l.foldl (fun a x => if 0 ≤ t.word.getD x.2 0 then (t.word.getD x.2 0, ((at' + x.1 : Nat) : Int)) else a) (-1, -1)
theorem far_snoc (t : Tr) (at' : Nat) (l : List (Nat × Nat)) (x : Nat × Nat) : far t at' (l ++ [x]) = if 0 ≤ t.word.getD x.2 0 then (t.word.getD x.2 0, ((at' + x.1 : Nat) : Int)) else far t at' l := by
  unfold far; rw [List.foldl_append]; rfl
/-- the longest text that has a number, of fewer than m bytes -/
def lng (t : Tr) (f : Nat → Nat) (at' : Nat) : Nat → Int × Int
  | 0 => (-1, -1)
  | m + 1 => if 0 ≤ num t f m 0 0 then (num t f m 0 0, ((at' + m : Nat) : Int)) else lng t f at' m
theorem far_all (t : Tr) (f : Nat → Nat) (at' : Nat) : ∀ m, far t at' (prs t f m 0 0) = lng t f at' (m + 1) := by
  intro m
  induction m with
  | zero =>
    rw [prs_zero, lng, num_zero]
    unfold far
    simp only [List.foldl_cons, List.foldl_nil]
    by_cases h : 0 ≤ t.word.getD 0 0
    · have h2 : ¬ t.word.getD 0 0 < 0 := by omega
      simp only [if_pos h, if_neg h2]
    · have h2 : t.word.getD 0 0 < 0 := by omega
      simp only [if_neg h, if_pos h2]
      rfl
  | succ m ih =>
    rw [prs_snoc, lng, ← ih]
    by_cases h : 0 ≤ run t f (m + 1) 0 0
    · rw [if_pos h, far_snoc]
      simp only [Nat.zero_add]
      by_cases h2 : 0 ≤ t.word.getD (run t f (m + 1) 0 0).toNat 0
      · have hn : num t f (m + 1) 0 0 = t.word.getD (run t f (m + 1) 0 0).toNat 0 := by unfold num; rw [if_neg (by omega)]
        rw [hn, if_pos h2]
      · have hn : num t f (m + 1) 0 0 = -1 := by unfold num; rw [if_pos (.inr (by omega))]
        rw [hn, if_neg h2, if_neg (by omega)]
    · have hn : num t f (m + 1) 0 0 = -1 := by unfold num; rw [if_pos (.inl (by omega))]
      rw [hn, if_neg h, List.append_nil, if_neg (by omega)]
theorem byte_lt (s : ByteArray) (i : Nat) : byte s i < 256 := UInt8.toNat_lt _
theorem byte_extract (s : ByteArray) (a b i : Nat) (h : i < b - a) (hb : b ≤ s.size) : byte (s.extract a b) i = byte s (a + i) := by
  rw [byte_eq _ _ (by rw [ByteArray.size_extract]; omega), byte_eq _ _ (by omega), ByteArray.getElem_extract]

/-! in memory -/
abbrev In (w : World) (b : Nat) : Prop := b < w.heap.size
/-- a row of one cell each, in blocks of which P is said -/
structure Row {α : Type} (P : Nat → Prop) (w : World) (g : α → Value) (o : Option Addr) (cap : Nat) (l : List α) : Prop where
  fit : l.length ≤ cap
  top : cap ≤ 9223372036854775807
  lie : ∀ i (h : i < l.length), ∃ b off, o = some ⟨b, off, none⟩ ∧ P b ∧ w.cell? ⟨b, off + i, none⟩ = some (g l[i])
theorem Row.carry {α : Type} {P Q : Nat → Prop} {w w' : World} {g : α → Value} {o : Option Addr} {cap : Nat} {l : List α} (h : Row P w g o cap l) (hk : ∀ b, P b → w'.heap[b]? = w.heap[b]?) (hq : ∀ b, P b → Q b) : Row Q w' g o cap l :=
  ⟨h.fit, h.top, fun i hi => by
    obtain ⟨b, off, e, hp, hc⟩ := h.lie i hi
    exact ⟨b, off, e, hq b hp, by simp only [World.cell?, hk b hp] at hc ⊢; exact hc⟩⟩
theorem Row.later {α : Type} {w w' : World} {g : α → Value} {o : Option Addr} {cap : Nat} {l : List α} (h : Row (In w) w g o cap l) (b : Below w.heap.size w w') : Row (In w') w' g o cap l :=
  h.carry (fun g hg => b.block g hg) (fun g hg => Nat.lt_of_lt_of_le hg b.size)
abbrev iv (x : Int) : Value := .int .i64 x
theorem getD_at {l : List Int} {i : Nat} (h : i < l.length) : l[i] = l.getD i 0 := by simp [List.getD, h]
theorem Row.at {P : Nat → Prop} {w : World} {g : Int → Value} {o : Option Addr} {cap : Nat} {l : List Int} (h : Row P w g o cap l) {i : Nat} (hi : i < l.length) : ∃ b off, o = some ⟨b, off, none⟩ ∧ P b ∧ w.cell? ⟨b, off + i, none⟩ = some (g (l.getD i 0)) := by
  obtain ⟨b, off, e, hp, hc⟩ := h.lie i hi
  rw [getD_at hi] at hc
  exact ⟨b, off, e, hp, hc⟩
def I64 (x : Int) : Prop := -9223372036854775808 ≤ x ∧ x ≤ 9223372036854775807
theorem getD_I64 {l : List Int} (h : ∀ x ∈ l, I64 x) (i : Nat) : I64 (l.getD i 0) := by
  by_cases hi : i < l.length
  · rw [← getD_at hi]; exact h _ (List.getElem_mem hi)
  · simp [List.getD, hi, I64]
structure Tp where
  bo : Option Addr
  bc : Nat
  co : Option Addr
  cc : Nat
  wo : Option Addr
  wc : Nat
abbrev tv (t : Tr) (p : Tp) : Array Value := #[.slice p.bo t.base.length p.bc, .slice p.co t.check.length p.cc, .slice p.wo t.word.length p.wc]
structure TAt (P : Nat → Prop) (w : World) (t : Tr) (p : Tp) : Prop where
  rb : Row P w iv p.bo p.bc t.base
  rc : Row P w iv p.co p.cc t.check
  rw : Row P w iv p.wo p.wc t.word
  db : ∀ x ∈ t.base, I64 x
  dc : ∀ x ∈ t.check, I64 x
  dw : ∀ x ∈ t.word, I64 x
theorem TAt.carry {P Q : Nat → Prop} {w w' : World} {m : Tr} {p : Tp} (h : TAt P w m p) (hk : ∀ b, P b → w'.heap[b]? = w.heap[b]?) (hq : ∀ b, P b → Q b) : TAt Q w' m p :=
  ⟨h.rb.carry hk hq, h.rc.carry hk hq, h.rw.carry hk hq, h.db, h.dc, h.dw⟩
theorem TAt.later {w w' : World} {m : Tr} {p : Tp} (h : TAt (In w) w m p) (b : Below w.heap.size w w') : TAt (In w') w' m p :=
  h.carry (fun k hk => b.block k hk) (fun k hk => Nat.lt_of_lt_of_le hk b.size)
def Box (w : World) (g : Nat) (m : Tr) (p : Tp) : Prop := w.heap[g]? = some (.cells (tv m p) 24 (0, 0))
section
variable {w w' : World} {g : Nat} {m : Tr} {p : Tp}
theorem Box.lt (h : Box w g m p) : g < w.heap.size := (Array.getElem?_eq_some_iff.1 h).1
theorem Box.later (h : Box w g m p) (b : Below w.heap.size w w') : Box w' g m p := by unfold Box; rw [b.block g h.lt]; exact h
theorem Box.c0 (h : Box w g m p) : w.cell? ⟨g, 0, none⟩ = some (.slice p.bo m.base.length p.bc) := by rw [Lib.cell_of_heap h]; rfl
theorem Box.c1 (h : Box w g m p) : w.cell? ⟨g, 1, none⟩ = some (.slice p.co m.check.length p.cc) := by rw [Lib.cell_of_heap h]; rfl
theorem Box.c2 (h : Box w g m p) : w.cell? ⟨g, 2, none⟩ = some (.slice p.wo m.word.length p.wc) := by rw [Lib.cell_of_heap h]; rfl
end
theorem box_new (w : World) (m : Tr) (p : Tp) : Box (w.alloc (.cells (tv m p) 24)) w.heap.size m p := heap_alloc_new w _
theorem info24 : (Try.prog.info? 24).map (·.size) = some 3 := by kernel_rfl

section
variable {H : Type} {enc : TypeId × Value → H} {W : World} {sp : Nat → Bool} {held : Bool}
theorem row_of {α : Type} [Inhabited α] (g : α → Value) (Pr : α → Prop) {t e : TypeId} (ht : Try.prog.underlying t = some (.slice e)) (hc : Try.prog.cellsOf e = 1)
    (dec : ∀ n V y, DataW.trod enc Try.prog W 0 sp held n e [V] = some y → ∃ x, V = g x ∧ Pr x) {fuel : Nat} {cs : List Value} {x : DataW H × List MemPlace} (h : DataW.trod enc Try.prog W 0 sp held fuel t cs = some x) :
    ∃ (o : Option Addr) (cap : Nat) (l : List α), cs = [.slice o l.length cap] ∧ Row (In W) W g o cap l ∧ (∀ x ∈ l, Pr x) ∧ (l = [] ∨ ∃ es sp, x.1 = .slice es sp ∧ es.length = l.length) := by
  rcases Deep.open_slice1 ht hc h with ⟨rfl, _⟩ | ⟨a, len, cap, m, n, V, D, Pl, rfl, hb, hl, hm, hmm, hxx, hV⟩
  · exact ⟨none, 0, [], rfl, ⟨Nat.le_refl _, by omega, fun i hi => by simp at hi⟩, by simp, .inl rfl⟩
  · have hlm : len ≤ m := by rw [hmm]; split <;> omega
    obtain ⟨f, hf⟩ := Deep.choose_lt (α := α) (p := fun i x => V i = g x ∧ Pr x) (fun i (hi : i < len) => dec n (V i) _ (hV i (by omega)).2)
    have hln : ((List.range len).map f).length = len := by simp
    unfold maxLen at hm
    refine ⟨some a, cap, (List.range len).map f, by rw [hln], ⟨by rw [hln]; exact hl, hm, fun i hi => ?_⟩, fun x hx => ?_, .inr ⟨_, _, by rw [hxx], by simp⟩⟩
    · rw [hln] at hi
      obtain ⟨b, off, spot⟩ := a
      have h1 := (hV i (by omega)).1
      have hspot : spot = none := by simpa [Addr.add] using World.cell?_spot (hV 0 (by omega)).1
      subst hspot
      have hadd : (⟨b, off, none⟩ : Addr).add i = ⟨b, off + i, none⟩ := by simp [Addr.add]
      rw [hadd] at h1
      refine ⟨b, off, rfl, block_lt_of_cell h1, ?_⟩
      rw [h1, (hf i hi).1]
      simp
    · obtain ⟨i, hi, rfl⟩ := List.mem_map.1 hx
      exact (hf i (List.mem_range.1 hi)).2
theorem i64_range {z : Int} (h : (Lit.int .i64 z).wf = true) : I64 z := by
  simp [Lit.wf] at h
  have h1 : IntKind.i64.min = -9223372036854775808 := by kernel_rfl
  have h2 : IntKind.i64.max = 9223372036854775807 := by kernel_rfl
  rw [h1] at h
  exact h
theorem ints_of {fuel : Nat} {cs : List Value} {x : DataW H × List MemPlace} (h : DataW.trod enc Try.prog W 0 sp held fuel 22 cs = some x) :
    ∃ (o : Option Addr) (cap : Nat) (l : List Int), cs = [.slice o l.length cap] ∧ Row (In W) W iv o cap l ∧ (∀ x ∈ l, I64 x) ∧ (l = [] ∨ ∃ es sp, x.1 = .slice es sp ∧ es.length = l.length) :=
  row_of iv I64 Try.underlying22 (by kernel_rfl) (fun n V y h => by
    obtain ⟨z, e, h1, h2⟩ := DataW.trod_int Try.underlying3 h
    simp at e
    exact ⟨z, by rw [e], i64_range h2⟩) h
set_option maxRecDepth 100000 in
theorem open24 {base : Nat} {v : Value} {d : DataW H} {q : List MemPlace} (hok : Value.okWide Try.prog W .any base 24 v) (h : DataW.Trod enc Try.prog W 0 (fun _ => true) true 24 v d q) :
    ∃ (m : Tr) (p : Tp), v = .agg (tv m p) ∧ TAt (In W) W m p := by
  unfold Value.okWide at hok
  rw [Try.underlying24] at hok
  obtain ⟨cs, rfl, _⟩ := hok
  obtain ⟨fuel, hf⟩ := h
  obtain ⟨xs, n, hfu, hx, hl, hlen, hf⟩ := DataW.trod_struct Try.underlying24 hf
  have c24 : Try.prog.cellsOf 24 = 3 := by kernel_rfl
  have c22 : Try.prog.cellsOf 22 = 1 := by kernel_rfl
  rw [c24] at hl
  have hsz : cs.size = 3 := by simpa [Value.cells] using hl
  match xs, hlen with
  | [y0, y1, y2], _ =>
    have f0 : DataW.trod enc Try.prog W 0 _ _ n 22 (List.take (Try.prog.cellsOf 22) (List.drop 0 _)) = some y0 := hf 0 _ rfl
    have f1 : DataW.trod enc Try.prog W 0 _ _ n 22 (List.take (Try.prog.cellsOf 22) (List.drop 1 _)) = some y1 := hf 1 _ rfl
    have f2 : DataW.trod enc Try.prog W 0 _ _ n 22 (List.take (Try.prog.cellsOf 22) (List.drop 2 _)) = some y2 := hf 2 _ rfl
    rw [c22] at f0 f1 f2
    obtain ⟨o0, p0, l0, e0, r0, d0, x0⟩ := ints_of f0
    obtain ⟨o1, p1, l1, e1, r1, d1, x1⟩ := ints_of f1
    obtain ⟨o2, p2, l2, e2, r2, d2, x2⟩ := ints_of f2
    have g0 := congrArg (·[0]?) e0
    have g1 := congrArg (·[0]?) e1
    have g2 := congrArg (·[0]?) e2
    simp [Value.cells] at g0
    simp [Value.cells, List.getElem?_drop] at g1 g2
    refine ⟨⟨l0, l1, l2⟩, ⟨o0, p0, o1, p1, o2, p2⟩, ?_, ⟨r0, r1, r2, d0, d1, d2⟩⟩
    congr 1
    apply Array.ext_getElem?
    intro i
    match i with
    | 0 => rw [g0]; rfl
    | 1 => rw [g1]; rfl
    | 2 => rw [g2]; rfl
    | (k + 3) => rw [Array.getElem?_eq_none (by omega), Array.getElem?_eq_none (by simp)]
end
end Go.Proofs.Ytbappfbojehkeaa.ti
