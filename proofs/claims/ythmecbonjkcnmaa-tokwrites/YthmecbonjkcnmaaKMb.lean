/-
  Over this program: rows of numbers, of texts, lists of merges in memory; isId, the document's Ints, Like, short, Rank.
-/
import Derived.Test.YthmecbonjkcnmaaRows
import Derived.Test.YthmecbonjkcnmaaKMa
import Derived.WalkKit
import Derived.ChangeAt
import Derived.Below
import Derived.Lib.OthersKept
import Derived.Laws.Rows
import Derived.WalkLawsBesides
import Derived.Deep.QuietTactic
import Derived.Deep.RegionHeld3
import Derived.WalkSmall
import Derived.BigQuiet
import Derived.SizedLaws
namespace Go.Proofs.Ythmecbonjkcnmaa.mg
open Go.ChangeShapes Go.WideShapes Go.ChangeAt Go.RowKit
set_option linter.unusedVariables false

theorem below_alloc (w : World) (o : Obj) : Below w.heap.size w (w.alloc o) := (Below.refl _ _).alloc (Nat.le_refl _) o
theorem chain {w w1 w2 : World} (h1 : Below w.heap.size w w1) (h2 : Below w1.heap.size w1 w2) : Below w.heap.size w w2 := h1.trans (h2.mono h1.size)
theorem below_drewN {B : Nat} {a w : World} (h : Below B a w) (n : Nat) : Below B a (w.drewN n) := ⟨h.os, h.tape, h.output, h.size, h.block⟩

abbrev In (w : World) (b : Nat) : Prop := b < w.heap.size
/-- a row of one cell each, in blocks of which P is said -/
structure Row {α : Type} (P : Nat → Prop) (w : World) (g : α → Value) (o : Option Addr) (cap : Nat) (l : List α) : Prop where
  fit : l.length ≤ cap
  top : cap ≤ 9223372036854775807
  lie : ∀ i (h : i < l.length), ∃ b off, o = some ⟨b, off, none⟩ ∧ P b ∧ w.cell? ⟨b, off + i, none⟩ = some (g l[i])
theorem Row.carry {α : Type} {P Q : Nat → Prop} {w w' : World} {g : α → Value} {o : Option Addr} {cap : Nat} {l : List α} (h : Row P w g o cap l) (hk : ∀ b, P b → w'.heap[b]? = w.heap[b]?) (hq : ∀ b, P b → Q b) : Row Q w' g o cap l :=
  ⟨h.fit, h.top, fun i hi => by
    obtain ⟨b, off, e, hp, hc⟩ := h.lie i hi
    exact ⟨b, off, e, hq b hp, by simp only [World.cell?, hk b hp] at hc ⊢; exact hc⟩⟩
theorem Row.later {α : Type} {w w' : World} {g : α → Value} {o : Option Addr} {cap : Nat} {l : List α} (h : Row (In w) w g o cap l) (b : Below w.heap.size w w') : Row (In w') w' g o cap l :=
  h.carry (fun g hg => b.block g hg) (fun g hg => Nat.lt_of_lt_of_le hg b.size)
abbrev iv (x : Int) : Value := .int .i64 x
def RowV {α : Type} (g : α → Value) (w : World) (v : Value) (l : List α) : Prop := ∃ o cap, v = .slice o l.length cap ∧ Row (In w) w g o cap l
abbrev IntsV := RowV iv
abbrev StrsV := RowV Value.string
theorem RowV.later {α : Type} {g : α → Value} {w w' : World} {v : Value} {l : List α} (h : RowV g w v l) (b : Below w.heap.size w w') : RowV g w' v l := by
  obtain ⟨o, cap, e, h⟩ := h
  exact ⟨o, cap, e, h.later b⟩
theorem RowV.nil {α : Type} {g : α → Value} (w : World) : RowV g w (.slice none 0 0) [] := ⟨none, 0, rfl, Nat.le_refl _, by omega, fun i h => by simp at h⟩
theorem RowV.own {α : Type} {g : α → Value} {w : World} {B e : Nat} {v : Value} {l : List α} (h : w.ownsRow B e 1 v l.length (l.map g)) : RowV g w v l := by
  rcases h.2 with ⟨rfl, h0⟩ | ⟨b, cap, cur, rfl, hb, hg, h1, h2, h3, h4⟩
  · have : l = [] := List.length_eq_zero_iff.1 h0
    subst this
    exact RowV.nil w
  · refine ⟨_, cap, rfl, h1, by unfold maxLen at h2; omega, fun i hi => ⟨b, 0, rfl, (Array.getElem?_eq_some_iff.1 hg).1, ?_⟩⟩
    rw [Lib.cell_of_heap hg, Nat.zero_add]
    have e1 : (cur.toList.take (l.length * 1))[i]? = (l.map g)[i]? := by rw [← h4]
    rw [Nat.mul_one, List.getElem?_take_of_lt hi, Array.getElem?_toList] at e1
    rw [e1]
    simp [hi]

/-- a list of merges that is read -/
structure Mgs (w : World) (v : Value) (l : List Mg) : Prop where
  form : ∃ o cap, v = .slice o l.length cap ∧ l.length ≤ cap ∧ cap ≤ 9223372036854775807 ∧ ∀ i (h : i < l.length), ∃ b off, o = some ⟨b, off, none⟩ ∧ b < w.heap.size ∧ w.cell? ⟨b, off + i * 2, none⟩ = some (iv l[i].1) ∧ w.cell? ⟨b, off + i * 2 + 1, none⟩ = some (iv l[i].2)
theorem Mgs.later {w w' : World} {v : Value} {l : List Mg} (h : Mgs w v l) (hb : Below w.heap.size w w') : Mgs w' v l := by
  obtain ⟨o, cap, e, h1, h2, h3⟩ := h.form
  refine ⟨o, cap, e, h1, h2, fun i hi => ?_⟩
  obtain ⟨b, off, e, hlt, c1, c2⟩ := h3 i hi
  exact ⟨b, off, e, Nat.lt_of_lt_of_le hlt hb.size, by rw [hb.cell hlt]; exact c1, by rw [hb.cell hlt]; exact c2⟩
def I64 (x : Int) : Prop := -9223372036854775808 ≤ x ∧ x ≤ 9223372036854775807
def Wide (l : List Mg) : Prop := ∀ m ∈ l, I64 m.1 ∧ I64 m.2

set_option maxHeartbeats 1000000 in
theorem isId_any (x : Int) (n : Nat) (w : World) : Calls Try.prog 40 #[.int .i64 x, .int .i64 (n : Int)] w fun e w' => e = .returned (.bool (decide (InR x n))) ∧ w' = w := by
  by_cases h1 : 0 ≤ x
  · have e : decide (InR x n) = decide (x < (n : Int)) := decide_eq_decide.2 ⟨fun h => h.2, fun h => ⟨h1, h⟩⟩
    rw [e]
    go_enter Try.func40, Try.ntmps40
    go_wp2_with (fail)
    go_ret
    exact ⟨rfl, rfl⟩
  · have e : decide (InR x n) = false := decide_eq_false (fun h => h1 h.1)
    rw [e]
    go_enter Try.func40, Try.ntmps40
    go_wp2_with (fail)
    go_ret
    exact ⟨rfl, rfl⟩

theorem RowV.take {α : Type} {g : α → Value} {w : World} {o : Option Addr} {n cap : Nat} {l : List α} (h : RowV g w (.slice o n cap) l) (m : Nat) (hm : m ≤ n) : n = l.length ∧ RowV g w (.slice o m cap) (l.take m) := by
  obtain ⟨o', cap', e, h⟩ := h
  obtain ⟨rfl, rfl, rfl⟩ : o = o' ∧ n = l.length ∧ cap = cap' := by simpa using e
  refine ⟨rfl, o, cap, by rw [List.length_take, Nat.min_eq_left hm], ⟨?_, h.top, fun i hi => ?_⟩⟩
  · have := h.fit; rw [List.length_take]; omega
  · rw [List.length_take] at hi
    obtain ⟨b, off, e, hp, hc⟩ := h.lie i (by omega)
    exact ⟨b, off, e, hp, by rw [hc]; simp⟩
end Go.Proofs.Ythmecbonjkcnmaa.mg
