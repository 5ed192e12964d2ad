/-
  Over this program: a pile of numbers in memory; which one of the two below may come up (pile.kid).
-/
import Derived.Test.YthcekfmodmnekaaHa
import Derived.WalkKit
import Derived.ChangeAt
import Derived.Below
import Derived.Laws.Rows
import Derived.Laws.OwnMore
import Derived.WalkLawsBesides
import Derived.Deep.QuietTactic
import Derived.Deep.RegionHeld3
import Derived.WalkSmall
import Derived.BigQuiet
namespace Go.Proofs.Ythcekfmodmnekaa.hp
open Go.ChangeShapes Go.WideShapes Go.ChangeAt Go.RowKit
set_option linter.unusedVariables false

abbrev nv (x : Int) : Value := .int .i64 x
abbrev nlt (a b : Int) : Bool := decide (a < b)
theorem nlt_ok : Lt nlt := ⟨fun a b c h1 h2 => by simp [nlt] at *; omega, fun a b h => by simp [nlt] at *; omega⟩
theorem ahead_num (a b : Int) (w : World) : Calls Try.prog 92 #[nv a, nv b] w fun e w' => e = .returned (.bool (nlt a b)) ∧ w' = w := by
  go_enter Try.func92, Try.ntmps92
  go_wp2_with (fail)
  go_ret
  exact ⟨rfl, rfl⟩
theorem method_num (x : Int) (W : World) : Sem.run Try.prog (method 235 75 (nv x) "fretsaw/heap.ahead") W = .ok (92, nv x) W := by kernel_rfl
/-- a pile of numbers: the cell that holds its row, the row -/
structure Pil (w : World) (B b off : Nat) (v : Value) (l : List Int) : Prop where
  cell : w.cell? ⟨b, off, none⟩ = some v
  thaw : w.frozen? ⟨b, off, none⟩ = false
  own : w.ownsRow B 75 1 v l.length (l.map nv)
  apart : some b ≠ v.ownBlock
theorem Pil.form {w : World} {B b off : Nat} {v : Value} {l : List Int} (h : Pil w B b off v l) : ∃ g cap, v = .slice g l.length cap ∧ l.length ≤ cap ∧ cap ≤ 9223372036854775807 := by
  rcases h.own.2 with ⟨rfl, h0⟩ | ⟨gg, cap, cur, rfl, hb, _, h1, h2, _⟩
  · exact ⟨_, _, by rw [h0], by omega, by omega⟩
  · exact ⟨_, _, rfl, h1, by unfold maxLen at h2; omega⟩
theorem Pil.at {w : World} {B b off : Nat} {v : Value} {l : List Int} (h : Pil w B b off v l) (i : Nat) (hi : i < l.length) : ∃ g cap, v = .slice (some ⟨g, 0, none⟩) l.length cap ∧ g < w.heap.size ∧ w.cell? ⟨g, i, none⟩ = some (nv l[i]) := by
  rcases h.own.2 with ⟨rfl, h0⟩ | ⟨gg, cap, cur, rfl, hb, hg, h1, h2, h3, h4⟩
  · omega
  · refine ⟨gg, cap, rfl, (Array.getElem?_eq_some_iff.1 hg).1, ?_⟩
    rw [World.ownsRow.cellAt h.own i (by omega)]
    simp [hi]
theorem own_keep {W W' : World} {B e sz n : Nat} {v : Value} {xs : List Value} (h : W.ownsRow B e sz v n xs) (hh : ∀ g, v.ownBlock = some g → W'.heap[g]? = W.heap[g]?) : W'.ownsRow B e sz v n xs := by
  refine ⟨h.1, ?_⟩
  rcases h.2 with h0 | ⟨g, cap, cur, rfl, hb, hg, hr⟩
  · exact .inl h0
  · exact .inr ⟨g, cap, cur, rfl, hb, (hh g rfl).trans hg, hr⟩
theorem Pil.lt {w : World} {B b off : Nat} {v : Value} {l : List Int} (h : Pil w B b off v l) : b < w.heap.size := World.block_lt_of_cell? w ⟨b, off, none⟩ h.cell
theorem Pil.keep {w w' : World} {B b off : Nat} {v : Value} {l : List Int} (h : Pil w B b off v l) (hb : w'.heap[b]? = w.heap[b]?) (hv : ∀ g, v.ownBlock = some g → w'.heap[g]? = w.heap[g]?) : Pil w' B b off v l :=
  ⟨(World.cell?_of_block (a := ⟨b, off, none⟩) hb).trans h.cell, (World.frozen?_of_block (a := ⟨b, off, none⟩) hb).trans h.thaw, own_keep h.own hv, h.apart⟩
theorem Pil.later {w w' : World} {B b off : Nat} {v : Value} {l : List Int} (h : Pil w B b off v l) (hb : Below w.heap.size w w') : Pil w' B b off v l :=
  h.keep (hb.block b h.lt) fun g eg => hb.block g (h.own.lt g eg).2
theorem below_drewN {B : Nat} {a w : World} (h : Below B a w) (n : Nat) : Below B a (w.drewN n) := ⟨h.os, h.tape, h.output, h.size, h.block⟩

set_option maxHeartbeats 2000000 in
theorem kid_any (l : List Int) (k : Nat) (hk : k ≤ 1000000) (hl : l.length ≤ 1000000) {w : World} {B b off : Nat} {v : Value} (h : Pil w B b off v l) : Calls Try.prog 54 #[.pointer (some ⟨b, off, none⟩), nv k] w fun e w' => e = .returned (nv (kidOf nlt l k : Nat)) ∧ Below w.heap.size w w' := by
  by_cases h1 : l.length ≤ 2 * k + 1
  · rw [kid_none h1]
    obtain ⟨g, cap, rfl, c1, c2⟩ := h.form
    have hc := h.cell
    clear h
    go_enter Try.func54, Try.ntmps54
    go_wp2_with (fail)
    go_ret
    exact ⟨rfl, Below.refl _ _⟩
  · by_cases h2 : 2 * k + 2 < l.length
    · obtain ⟨g, cap, rfl, hg, c1⟩ := h.at (2 * k + 1) (by omega)
      obtain ⟨g', cap', e, hg', c2⟩ := h.at (2 * k + 2) h2
      cases e
      rw [kid_two h2]
      have hc := h.cell
      obtain ⟨_, _, e, f1, f2⟩ := h.form
      cases e
      generalize l[2 * k + 1] = x1 at *
      generalize l[2 * k + 2] = x2 at *
      have d1 : decide (2 * k + 1 + 1 < l.length) = true := by simp; omega
      have w1 : 2 * k + 2 = 2 * k + 1 + 1 := rfl
      rw [w1] at *
      have hw : IntKind.i64.wrap (2 * (k : Int) + 1 + 1) = 2 * (k : Int) + 1 + 1 := IntWalk.i64_in _ (by omega)
      have d2 : decide (2 * (k : Int) + 1 + 1 < (l.length : Int)) = true := decide_eq_true (by omega)
      clear h w1
      generalize l.length = n at *
      have key : ∀ bt : Bool, nlt x2 x1 = bt → Calls Try.prog 54 #[.pointer (some ⟨b, off, none⟩), nv k] w fun e w' => e = .returned (nv ((if bt = true then 2 * k + 1 + 1 else 2 * k + 1 : Nat) : Int)) ∧ Below w.heap.size w w' := by
        intro bt ht
        have ca : ∀ W, Calls Try.prog 92 #[nv x2, nv x1] W fun e w' => e = .returned (.bool bt) ∧ w' = W := fun W => ht ▸ ahead_num x2 x1 W
        clear ht
        have hm := fun W => method_num x2 W
        cases bt
        · go_enter Try.func54, Try.ntmps54
          go_wp2_with (fail)
          go_quiet (refine Calls.quiet_of_same (ca _))
          go_wp2_with (fail)
          go_ret
          exact ⟨rfl, below_drewN (Below.refl _ _) _⟩
        · go_enter Try.func54, Try.ntmps54
          go_wp2_with (fail)
          go_quiet (refine Calls.quiet_of_same (ca _))
          go_wp2_with (fail)
          go_ret
          exact ⟨by go_num, below_drewN (Below.refl _ _) _⟩
      exact key _ rfl
    · rw [kid_one h1 h2]
      obtain ⟨g, cap, rfl, c1, c2⟩ := h.form
      have hc := h.cell
      have d1 : decide (2 * k + 1 + 1 < l.length) = false := by simp; omega
      have hw : IntKind.i64.wrap (2 * (k : Int) + 1 + 1) = 2 * (k : Int) + 1 + 1 := IntWalk.i64_in _ (by omega)
      have d2 : decide (2 * (k : Int) + 1 + 1 < (l.length : Int)) = false := decide_eq_false (by omega)
      clear h h2
      generalize l.length = n at *
      go_enter Try.func54, Try.ntmps54
      go_wp2_with (fail)
      go_quiet (fail)
      go_wp2_with (fail)
      go_ret
      exact ⟨rfl, below_drewN (Below.refl _ _) _⟩
end Go.Proofs.Ythcekfmodmnekaa.hp
