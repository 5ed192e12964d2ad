/-
  Over this program: a pile of pairs in memory; which of two comes ahead (pair.ahead), which one of the two below may come up (pile.kid).
-/
import Derived.Test.YthcekfmodmnekaaHc
import Derived.Lib.QuietBelow
namespace Go.Proofs.Ythcekfmodmnekaa.pp
open Go.ChangeShapes Go.WideShapes Go.ChangeAt Go.RowKit
open Go.Sort
open hp (Lt Heap Up Dn kidOf kid_none kid_one kid_two kid_lt nv own_keep Mv below_drewN)
set_option linter.unusedVariables false
set_option maxRecDepth 100000

abbrev Pr := Int × Int
abbrev pv (p : Pr) : Value := .agg #[.int .i64 p.1, .int .i64 p.2]
def plt (a b : Pr) : Bool := decide (a.1 < b.1) || (decide (a.1 = b.1) && decide (a.2 < b.2))
theorem plt_ok : Lt plt := by
  refine ⟨fun a b c h1 h2 => ?_, fun a b h => ?_⟩
  · simp [plt] at *
    omega
  · simp [plt] at *
    omega
set_option maxHeartbeats 1000000 in
theorem ahead_pair (a1 a2 b1 b2 : Int) (w : World) : Calls Try.prog 93 #[pv (a1, a2), pv (b1, b2)] w fun e w' => e = .returned (.bool (plt (a1, a2) (b1, b2))) ∧ Below w.heap.size w w' := by
  have hb : Below w.heap.size w ((w.alloc (.cells #[.int .i64 a1, .int .i64 a2] 87)).alloc (.cells #[.int .i64 b1, .int .i64 b2] 87)) := ((Below.refl w.heap.size w).alloc (Nat.le_refl _) _).alloc (by simp) _
  by_cases h1 : a1 < b1
  · have e : plt (a1, a2) (b1, b2) = true := by simp [plt, h1]
    have d1 : decide (a1 < b1) = true := decide_eq_true h1
    rw [e]
    clear e h1
    go_enter Try.func93, Try.ntmps93
    go_wp2_with (fail)
    go_ret
    exact ⟨rfl, hb⟩
  · have d1 : decide (a1 < b1) = false := decide_eq_false h1
    by_cases h2 : a1 = b1
    · subst h2
      have e : plt (a1, a2) (a1, b2) = decide (a2 < b2) := by simp [plt]
      have d2 : (a1 == a1) = true := by simp
      rw [e]
      clear e h1
      go_enter Try.func93, Try.ntmps93
      go_wp2_with (fail)
      go_ret
      exact ⟨rfl, hb⟩
    · have e : plt (a1, a2) (b1, b2) = false := by simp [plt, h2]; omega
      have d2 : (a1 == b1) = false := by simp [h2]
      rw [e]
      clear e h1 h2
      go_enter Try.func93, Try.ntmps93
      go_wp2_with (fail)
      go_ret
      exact ⟨rfl, hb⟩
theorem method_pair (x : Pr) (W : World) : Sem.run Try.prog (method 235 87 (pv x) "fretsaw/heap.ahead") W = .ok (93, pv x) W := by kernel_rfl

/-- pairs as cells -/
def cs2 : List Pr → List Value
  | [] => []
  | p :: l => .int .i64 p.1 :: .int .i64 p.2 :: cs2 l
theorem cs2_len (l : List Pr) : (cs2 l).length = l.length * 2 := by
  induction l with
  | nil => rfl
  | cons p l ih => simp [cs2, ih]; omega
theorem cs2_app (l : List Pr) (p : Pr) : cs2 (l ++ [p]) = cs2 l ++ [.int .i64 p.1, .int .i64 p.2] := by
  induction l with
  | nil => rfl
  | cons q l ih => simp [cs2, ih]
theorem cs2_at : ∀ (l : List Pr) (i : Nat) (p : Pr), l[i]? = some p → (cs2 l)[i * 2]? = some (.int .i64 p.1) ∧ (cs2 l)[i * 2 + 1]? = some (.int .i64 p.2) := by
  intro l
  induction l with
  | nil => intro i p h; simp at h
  | cons q l ih =>
    intro i p h
    cases i with
    | zero => simp at h; subst h; exact ⟨rfl, rfl⟩
    | succ i =>
      simp at h
      have := ih i p h
      rw [show (i + 1) * 2 = i * 2 + 1 + 1 by omega]
      simpa [cs2] using this
theorem cs2_set : ∀ (l : List Pr) (i : Nat) (p : Pr), ((cs2 l).set (i * 2) (.int .i64 p.1)).set (i * 2 + 1) (.int .i64 p.2) = cs2 (l.set i p) := by
  intro l
  induction l with
  | nil => intro i p; simp [cs2]
  | cons q l ih =>
    intro i p
    cases i with
    | zero => simp [cs2]
    | succ i =>
      rw [show (i + 1) * 2 = i * 2 + 1 + 1 by omega]
      simp [cs2, ← ih i p]

/-- a pile of pairs: the cell that holds its row, the row -/
structure Pil (w : World) (B b off : Nat) (v : Value) (l : List Pr) : Prop where
  cell : w.cell? ⟨b, off, none⟩ = some v
  thaw : w.frozen? ⟨b, off, none⟩ = false
  own : w.ownsRow B 87 2 v l.length (cs2 l)
  apart : some b ≠ v.ownBlock
theorem Pil.form {w : World} {B b off : Nat} {v : Value} {l : List Pr} (h : Pil w B b off v l) : ∃ g cap, v = .slice g l.length cap ∧ l.length ≤ cap ∧ cap ≤ 9223372036854775807 := by
  rcases h.own.2 with ⟨rfl, h0⟩ | ⟨gg, cap, cur, rfl, hb, _, h1, h2, _⟩
  · exact ⟨_, _, by rw [h0], by omega, by omega⟩
  · exact ⟨_, _, rfl, h1, by unfold maxLen at h2; omega⟩
theorem Pil.lt {w : World} {B b off : Nat} {v : Value} {l : List Pr} (h : Pil w B b off v l) : b < w.heap.size := World.block_lt_of_cell? w ⟨b, off, none⟩ h.cell
theorem Pil.keep {w w' : World} {B b off : Nat} {v : Value} {l : List Pr} (h : Pil w B b off v l) (hb : w'.heap[b]? = w.heap[b]?) (hv : ∀ g, v.ownBlock = some g → w'.heap[g]? = w.heap[g]?) : Pil w' B b off v l :=
  ⟨(World.cell?_of_block (a := ⟨b, off, none⟩) hb).trans h.cell, (World.frozen?_of_block (a := ⟨b, off, none⟩) hb).trans h.thaw, own_keep h.own hv, h.apart⟩
theorem Pil.later {w w' : World} {B b off : Nat} {v : Value} {l : List Pr} (h : Pil w B b off v l) (hb : Below w.heap.size w w') : Pil w' B b off v l :=
  h.keep (hb.block b h.lt) fun g eg => hb.block g (h.own.lt g eg).2
theorem Pil.len {w : World} {B b off n cap : Nat} {o : Option Addr} {l : List Pr} (h : Pil w B b off (.slice o n cap) l) : n = l.length ∧ n ≤ cap ∧ cap ≤ 9223372036854775807 := by
  obtain ⟨_, _, e, h1, h2⟩ := h.form
  cases e
  exact ⟨rfl, h1, h2⟩
theorem Pil.full {w : World} {B b off : Nat} {v : Value} {l : List Pr} (h : Pil w B b off v l) (h0 : 0 < l.length) : ∃ g cap, v = .slice (some ⟨g, 0, none⟩) l.length cap := by
  rcases h.own.2 with ⟨rfl, h0'⟩ | ⟨gg, cap, cur, rfl, _⟩
  · omega
  · exact ⟨gg, cap, rfl⟩
theorem Pil.row {w : World} {B b off g n cap : Nat} {l : List Pr} (h : Pil w B b off (.slice (some ⟨g, 0, none⟩) n cap) l) {i : Nat} {x : Pr} (hx : l[i]? = some x) : w.cell? ⟨g, i * 2, none⟩ = some (.int .i64 x.1) ∧ w.cell? ⟨g, i * 2 + 1, none⟩ = some (.int .i64 x.2) ∧ (∀ j, w.frozen? ⟨g, j, none⟩ = false) ∧ g < w.heap.size := by
  obtain ⟨hl, -⟩ := List.getElem?_eq_some_iff.1 hx
  have e := h.len.1
  subst e
  obtain ⟨q1, q2⟩ := cs2_at l i x hx
  refine ⟨?_, ?_, fun j => h.own.frozenAt j, (h.own.lt g rfl).2⟩
  · rw [World.ownsRow.cellAt h.own (i * 2) (by omega)]; exact q1
  · rw [World.ownsRow.cellAt h.own (i * 2 + 1) (by omega)]; exact q2

set_option maxHeartbeats 2000000 in
theorem kid_any (l : List Pr) (k : Nat) (hk : k ≤ 1000000) (hl : l.length ≤ 1000000) {w : World} {B b off : Nat} {v : Value} (h : Pil w B b off v l) : Calls Try.prog 64 #[.pointer (some ⟨b, off, none⟩), nv k] w fun e w' => e = .returned (nv (kidOf plt l k : Nat)) ∧ Below w.heap.size w w' := by
  by_cases h1 : l.length ≤ 2 * k + 1
  · rw [kid_none h1]
    obtain ⟨g, cap, rfl, c1, c2⟩ := h.form
    have hc := h.cell
    clear h
    go_enter Try.func64, Try.ntmps64
    go_wp2_with (fail)
    go_ret
    exact ⟨rfl, Below.refl _ _⟩
  · by_cases h2 : 2 * k + 2 < l.length
    · obtain ⟨g, cap, rfl⟩ := h.full (by omega)
      obtain ⟨c1, c2, -, -⟩ := h.row (i := 2 * k + 1) (x := l[2 * k + 1]) (List.getElem?_eq_getElem (by omega))
      obtain ⟨c3, c4, -, -⟩ := h.row (i := 2 * k + 1 + 1) (x := l[2 * k + 2]) (List.getElem?_eq_getElem h2)
      rw [kid_two h2]
      have hc := h.cell
      obtain ⟨-, f1, f2⟩ := h.len
      generalize l[2 * k + 1] = x1 at *
      generalize l[2 * k + 2] = x2 at *
      obtain ⟨x11, x12⟩ := x1
      obtain ⟨x21, x22⟩ := x2
      simp only at c1 c2 c3 c4
      have key : ∀ bt : Bool, plt (x21, x22) (x11, x12) = bt → Calls Try.prog 64 #[.pointer (some ⟨b, off, none⟩), nv k] w fun e w' => e = .returned (nv ((if bt = true then 2 * k + 1 + 1 else 2 * k + 1 : Nat) : Int)) ∧ Below w.heap.size w w' := by
        intro bt ht
        have ca : ∀ d os, Calls Try.prog 93 #[pv (x21, x22), pv (x11, x12)] (grow (redrawn w d) os) fun e w'' => e = .returned (.bool bt) ∧ ∃ p : Regrown, w'' = grow (redrawn w p.d) p.os := fun d os => Calls.regrown_of (ht ▸ ahead_pair x21 x22 x11 x12 _)
        have hm := fun W => method_pair (x21, x22) W
        have z0 := cell_regrown hc
        have z1 := cell_regrown c1
        have z2 := cell_regrown c2
        have z3 := cell_regrown c3
        have z4 := cell_regrown c4
        clear ht h
        generalize l.length = n at *
        go_enter Try.func64, Try.ntmps64
        go_wp2_with (fail)
        have e : (2 * (k : Int) + 1) = ((2 * k + 1 : Nat) : Int) := by omega
        rw [e]
        clear e
        have hk2 : 2 * k + 1 ≤ 3000000 := by omega
        have h2' : 2 * k + 1 + 1 < n := h2
        clear h2
        generalize hmm : 2 * k + 1 = m at *
        have HMM := (show Hid (2 * k + 1 = m) from hmm)
        clear hmm
        have d1 : decide ((m : Int) + 1 < (n : Int)) = true := decide_eq_true (by omega)
        refine wp_region_quiet_below (by kernel_rfl) (by kernel_rfl) ?_
        repeat (go_big_quiet_step (first | (with_reducible exact ca _ _)))
        refine wpQuiet_nil ?_
        intro _ hw'
        obtain ⟨⟨dq, osq⟩, hw''⟩ := hw'
        subst hw''
        have b1 := below_regrown w dq osq
        clear ca z0 z1 z2 z3 z4 hm
        generalize grow (redrawn w dq) osq = w1 at *
        cases bt
        · go_wp2_with (fail)
          go_ret
          exact ⟨by show Ending.returned (nv (m : Nat)) = _; rw [← HMM.out]; rfl, b1⟩
        · go_wp2_with (fail)
          go_ret
          exact ⟨by show Ending.returned (nv ((m : Int) + 1)) = _; rw [← HMM.out]; go_num, b1⟩
      exact key _ rfl
    · rw [kid_one h1 h2]
      obtain ⟨g, cap, rfl, c1, c2⟩ := h.form
      have hc := h.cell
      have d1 : decide (2 * k + 1 + 1 < l.length) = false := by simp; omega
      have hw : IntKind.i64.wrap (2 * (k : Int) + 1 + 1) = 2 * (k : Int) + 1 + 1 := IntWalk.i64_in _ (by omega)
      have d2 : decide (2 * (k : Int) + 1 + 1 < (l.length : Int)) = false := decide_eq_false (by omega)
      clear h h2
      generalize l.length = n at *
      go_enter Try.func64, Try.ntmps64
      go_wp2_with (fail)
      go_quiet (fail)
      go_wp2_with (fail)
      go_ret
      exact ⟨rfl, below_drewN (Below.refl _ _) _⟩
end Go.Proofs.Ythcekfmodmnekaa.pp
