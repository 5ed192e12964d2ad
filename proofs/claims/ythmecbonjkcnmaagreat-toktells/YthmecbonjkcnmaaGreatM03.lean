/-
  Texts put together: Over this program: a walk along a text by an nfa, in memory (tok.walk); what has been met there, as bits. Contracts over this program: a place's bits, whether a state has been met at a place, a state is marked there (tok.walk: row, wasIn, mark); whether a byte is in a set (tok.has). Contracts over this program: a state is marked at a place (tok.walk.mark); whether a byte is in a set (tok.has).
-/
import Derived.Test.YthmecbonjkcnmaaGreatM00
import Derived.Test.YthmecbonjkcnmaaGreatM01
import Derived.Test.YthmecbonjkcnmaaGreatM02
import Derived.Laws.BitsAllLaws
import Derived.Lib.Builder
import Derived.ProofKit
import Derived.OpenShut
import Derived.BigQuiet
namespace Go.Proofs.YthmecbonjkcnmaaGreat.wk
open Go.ChangeShapes Go.WideShapes Go.ChangeAt Go.RowKit
open nb (Cf Rl Pa EdR EdS Tx)
open nf (Ed Eds EdAt)
set_option linter.unusedVariables false
set_option maxRecDepth 10000

abbrev iv (x : Nat) : Value := .int .i64 (x : Int)
/-! bits -/
def on (wide : Nat) (bs : List Nat) (c : Cf) : Bool := (bs.getD (c.2 * wide + c.1 / 64) 0).testBit (c.1 % 64)
def put (wide : Nat) (bs : List Nat) (c : Cf) : List Nat := bs.set (c.2 * wide + c.1 / 64) (bs.getD (c.2 * wide + c.1 / 64) 0 ||| 2 ^ (c.1 % 64))
theorem put_len (wide : Nat) (bs : List Nat) (c : Cf) : (put wide bs c).length = bs.length := by simp [put]
theorem key_inj {N t q t0 q0 : Nat} (h : q < N) (h0 : q0 < N) (e : t * N + q = t0 * N + q0) : t = t0 ∧ q = q0 := by
  have hN : 0 < N := by omega
  have e1 : (t * N + q) / N = t := by rw [Nat.mul_comm, Nat.mul_add_div hN, Nat.div_eq_of_lt h]; omega
  have e2 : (t0 * N + q0) / N = t0 := by rw [Nat.mul_comm, Nat.mul_add_div hN, Nat.div_eq_of_lt h0]; omega
  have : t = t0 := by rw [← e1, ← e2, e]
  subst this
  omega
/-- the places of a text of so many bytes, the states -/
def In (n len : Nat) (c : Cf) : Prop := c.1 < n ∧ c.2 ≤ len
theorem idx_lt {n len wide : Nat} {c : Cf} (h : In n len c) (hw : n / 64 < wide) : c.2 * wide + c.1 / 64 < (len + 1) * wide ∧ c.1 / 64 < wide := by
  obtain ⟨h1, h2⟩ := h
  have h3 : c.1 / 64 < wide := Nat.lt_of_le_of_lt (Nat.div_le_div_right (by omega)) hw
  have h4 : c.2 * wide ≤ len * wide := Nat.mul_le_mul_right _ h2
  rw [Nat.add_mul]
  omega
theorem on_put {n len wide : Nat} {bs : List Nat} {c d : Cf} (hc : In n len c) (hd : In n len d) (hw : n / 64 < wide) (hl : bs.length = (len + 1) * wide) : on wide (put wide bs c) d = true ↔ on wide bs d = true ∨ d = c := by
  obtain ⟨c1, c2⟩ := idx_lt hc hw
  obtain ⟨d1, d2⟩ := idx_lt hd hw
  unfold on put
  by_cases e : d.2 * wide + d.1 / 64 = c.2 * wide + c.1 / 64
  · obtain ⟨e1, e2⟩ := key_inj d2 c2 e
    rw [e, List.getD_eq_getElem?_getD, List.getElem?_set_self (by omega), Option.getD_some, Nat.testBit_or, Bool.or_eq_true, Nat.testBit_two_pow, decide_eq_true_eq]
    constructor
    · rintro (h | h)
      · exact .inl h
      · exact .inr (Prod.ext (by omega) e1)
    · rintro (h | h)
      · exact .inl h
      · right; rw [h]
  · rw [List.getD_eq_getElem?_getD, List.getElem?_set_ne (Ne.symm e), ← List.getD_eq_getElem?_getD]
    constructor
    · exact .inl
    · rintro (h | h)
      · exact h
      · rw [h] at e; exact absurd rfl e
theorem put_lt (wide : Nat) (bs : List Nat) (c : Cf) (h : ∀ x ∈ bs, x < 18446744073709551616) : ∀ x ∈ put wide bs c, x < 18446744073709551616 := by
  intro x hx
  unfold put at hx
  rcases List.mem_or_eq_of_mem_set hx with hx | rfl
  · exact h x hx
  · have h1 : bs.getD (c.2 * wide + c.1 / 64) 0 < 2 ^ 64 := by
      rw [List.getD_eq_getElem?_getD]
      cases hq : bs[c.2 * wide + c.1 / 64]? with
      | none => simp
      | some y => simpa using h y (List.mem_of_getElem? hq)
    have h2 : 2 ^ (c.1 % 64) < 2 ^ 64 := Nat.pow_lt_pow_right (by omega) (Nat.mod_lt _ (by omega))
    exact Nat.or_lt_two_pow h1 h2

/-- what a walk holds and does not change, and where -/
structure Wd where
  n : Nat
  es : List Ed
  s : ByteArray
  wide : Nat
  eo : Option Addr
  ec : Nat
  wb : Nat
  rb : Nat
  sb : Nat
  B : Nat
/-- what has been met -/
def Sb (X : Wd) (bs : List Nat) : Cf → Prop := fun c => In X.n X.s.size c ∧ on X.wide bs c = true
/-- the edges that go from a state -/
def edgesOf (X : Wd) (q : Nat) : List Ed := X.es.filter fun e => decide (e.fr = (q : Int))
def wcells (X : Wd) (fr : Nat) : Array Value := #[.int .i64 (X.n : Int), .int .i64 0, .int .i64 1, .slice X.eo X.es.length X.ec, .slice (some ⟨X.rb, 0, none⟩) X.n X.n, .string X.s, .int .i64 (fr : Int), .int .i64 (X.wide : Int), .slice (some ⟨X.sb, 0, none⟩) ((X.s.size + 1) * X.wide) ((X.s.size + 1) * X.wide)]
def ucells (ws : List Nat) : Array Value := (ws.map fun x : Nat => Value.int .u64 (x : Int)).toArray
/-- a walk's numbers fit -/
structure Ok (X : Wd) : Prop where
  n1 : X.n ≤ 3000
  w1 : X.n / 64 < X.wide
  w2 : X.wide ≤ 64
  s1 : X.s.size ≤ 300000
  ein : ∀ e ∈ X.es, 0 ≤ e.fr ∧ e.fr < (X.n : Int) ∧ 0 ≤ e.to ∧ e.to < (X.n : Int)
  efit : ∀ e ∈ X.es, nf.Fits e
  elen : X.es.length ≤ 100000
  bw : X.wb < X.B
  bs : X.sb < X.B
  bb : X.wb ≠ X.sb
  br : X.rb ≠ X.sb ∧ X.rb ≠ X.wb ∧ X.rb < X.B
/-- the row of edges of a state -/
def RowAt (X : Wd) (W : World) (q : Nat) : Prop := (∃ cs, W.heap[X.rb]? = some (Obj.cells cs 84 (0, 0))) ∧ ∃ o cap, W.cell? ⟨X.rb, q, none⟩ = some (.slice o (edgesOf X q).length cap) ∧ (edgesOf X q).length ≤ cap ∧ cap ≤ 9223372036854775807 ∧ ∀ i (h : i < (edgesOf X q).length), ∃ b off, o = some ⟨b, off, none⟩ ∧ b < X.B ∧ b ≠ X.sb ∧ b ≠ X.wb ∧ (∃ cs, W.heap[b]? = some (Obj.cells cs 132 (0, 0))) ∧ EdAt W b (off + i * 7) (edgesOf X q)[i]
structure Wk (X : Wd) (W : World) (fr : Nat) (bs : List Nat) : Prop where
  box : W.heap[X.wb]? = some (.cells (wcells X fr) 130 (0, 0))
  sn : W.heap[X.sb]? = some (.cells (ucells bs) 23 (0, 0))
  rows : ∀ q, q < X.n → RowAt X W q
  lt : ∀ x ∈ bs, x < 18446744073709551616
  len : bs.length = (X.s.size + 1) * X.wide
  size : X.B ≤ W.heap.size
/-- what is changed: the bits, one row, new blocks -/
structure Ch (X : Wd) (ob : Option Nat) (W W' : World) : Prop where
  os : W'.os = W.os
  tape : W'.tape = W.tape
  output : W'.output = W.output
  size : W.heap.size ≤ W'.heap.size
  block : ∀ k, k < W.heap.size → k ≠ X.sb → ob ≠ some k → W'.heap[k]? = W.heap[k]?
/-- a list that the call made -/
def Own (X : Wd) (W : World) (v : Value) (l : List Nat) : Prop := W.ownsRow X.B 3 1 v l.length (l.map iv)
/-- the row is the one that it was, or new -/
def Same (W : World) (v v' : Value) : Prop := v'.ownBlock = v.ownBlock ∨ ∃ k, v'.ownBlock = some k ∧ W.heap.size ≤ k
section
variable {X : Wd} {W W' W'' : World} {fr : Nat} {bs : List Nat} {v v' v'' : Value} {l l' : List Nat} {ob : Option Nat}
theorem Ch.refl (X : Wd) (ob : Option Nat) (W : World) : Ch X ob W W := ⟨rfl, rfl, rfl, Nat.le_refl _, fun _ _ _ _ => rfl⟩
theorem Ch.trans (h : Ch X v.ownBlock W W') (k : Ch X v'.ownBlock W' W'') (hs : Same W v v') : Ch X v.ownBlock W W'' :=
  ⟨k.os.trans h.os, k.tape.trans h.tape, k.output.trans h.output, Nat.le_trans h.size k.size, fun b h1 h2 h3 => by
    rw [k.block b (Nat.lt_of_lt_of_le h1 h.size) h2 (fun e => ?_), h.block b h1 h2 h3]
    rcases hs with e1 | ⟨k', e1, e2⟩
    · exact h3 (e1.symm.trans e)
    · rw [e1] at e; cases e; omega⟩
theorem Ch.below (c : Below W.heap.size W W') : Ch X ob W W' := ⟨c.os, c.tape, c.output, c.size, fun k h _ _ => c.block k h⟩
theorem Ch.and (h : Ch X ob W W') (c : Below W'.heap.size W' W'') : Ch X ob W W'' := ⟨c.os.trans h.os, c.tape.trans h.tape, c.output.trans h.output, Nat.le_trans h.size c.size, fun k h1 h2 h3 => (c.block k (Nat.lt_of_lt_of_le h1 h.size)).trans (h.block k h1 h2 h3)⟩
theorem Same.refl (W : World) (v : Value) : Same W v v := .inl rfl
theorem Same.trans (h : Same W v v') (k : Same W' v' v'') (hs : W.heap.size ≤ W'.heap.size) : Same W v v'' := by
  rcases k with e | ⟨b, e, e2⟩
  · rcases h with e1 | ⟨b, e1, e2⟩
    · exact .inl (e.trans e1)
    · exact .inr ⟨b, e.trans e1, e2⟩
  · exact .inr ⟨b, e, by omega⟩
theorem EdAt_same {b o : Nat} {x : Ed} (h : EdAt W b o x) (e : W'.heap[b]? = W.heap[b]?) : EdAt W' b o x := h.same e
theorem RowAt.keep (ok : Ok X) {q : Nat} (h : RowAt X W q) (hb : ∀ k, k < X.B → k ≠ X.sb → k ≠ X.wb → W'.heap[k]? = W.heap[k]?) : RowAt X W' q := by
  obtain ⟨⟨rs, rt⟩, o, cap, h1, h2, h3, h4⟩ := h
  refine ⟨⟨rs, (hb X.rb ok.br.2.2 ok.br.1 ok.br.2.1).trans rt⟩, o, cap, ?_, h2, h3, fun i hi => ?_⟩
  · have := hb X.rb ok.br.2.2 ok.br.1 ok.br.2.1
    simp [World.cell?, this] at h1 ⊢
    exact h1
  · obtain ⟨b, off, e, g1, g2, g3, ⟨cs, gt⟩, g4⟩ := h4 i hi
    exact ⟨b, off, e, g1, g2, g3, ⟨cs, (hb b g1 g2 g3).trans gt⟩, g4.same (hb b g1 g2 g3)⟩
theorem Wk.keep (ok : Ok X) (k : Wk X W fr bs) (hb : ∀ k, k < X.B → W'.heap[k]? = W.heap[k]?) (hs : W.heap.size ≤ W'.heap.size) : Wk X W' fr bs :=
  ⟨(hb _ ok.bw).trans k.box, (hb _ ok.bs).trans k.sn, fun q hq => (k.rows q hq).keep ok fun j h1 _ _ => hb j h1, k.lt, k.len, Nat.le_trans k.size hs⟩
theorem Wk.later (ok : Ok X) (k : Wk X W fr bs) (c : Below W.heap.size W W') : Wk X W' fr bs := k.keep ok (fun j h => c.block j (Nat.lt_of_lt_of_le h k.size)) c.size
theorem Wk.fz (k : Wk X W fr bs) (i : Nat) : W.frozen? ⟨X.sb, i, none⟩ = false := Lib.frozen_of_heap k.sn i
theorem Wk.cell (k : Wk X W fr bs) (i : Nat) (hi : i < bs.length) : W.cell? ⟨X.sb, i, none⟩ = some (.int .u64 ((bs.getD i 0 : Nat) : Int)) := by
  rw [Lib.cell_of_heap k.sn, List.getD_eq_getElem?_getD, List.getElem?_eq_getElem hi]
  simp [ucells, hi]
theorem Own.keep (h : Own X W v l) (hh : ∀ g, v.ownBlock = some g → W'.heap[g]? = W.heap[g]?) : Own X W' v l := ow.keep h hh
theorem Own.later (h : Own X W v l) (b : Below W.heap.size W W') : Own X W' v l := ow.later h b
theorem Own.far (h : Own X W v l) {g : Nat} (e : v.ownBlock = some g) : X.B ≤ g ∧ g < W.heap.size := ow.lt h e
theorem set_heap (w : World) (g : Nat) (cs : Array Value) (t : TypeId) (i : Nat) (v : Value) (h : w.heap[g]? = some (.cells cs t (0, 0))) : (w.setCell ⟨g, i, none⟩ v).heap[g]? = some (.cells (cs.setIfInBounds i v) t (0, 0)) := by
  show (w.heap.modify g _)[g]? = _
  rw [Array.getElem?_modify, if_pos rfl, h]
  rfl
/-- a bit is set -/
theorem Wk.put (ok : Ok X) (k : Wk X W fr bs) (c : Cf) : Wk X (W.setCell ⟨X.sb, c.2 * X.wide + c.1 / 64, none⟩ (.int .u64 ((bs.getD (c.2 * X.wide + c.1 / 64) 0 ||| 2 ^ (c.1 % 64) : Nat) : Int))) fr (wk.put X.wide bs c) ∧ Ch X ob W (W.setCell ⟨X.sb, c.2 * X.wide + c.1 / 64, none⟩ (.int .u64 ((bs.getD (c.2 * X.wide + c.1 / 64) 0 ||| 2 ^ (c.1 % 64) : Nat) : Int))) := by
  generalize hx : (bs.getD (c.2 * X.wide + c.1 / 64) 0 ||| 2 ^ (c.1 % 64) : Nat) = x
  have hh : ∀ j, j ≠ X.sb → (W.setCell ⟨X.sb, c.2 * X.wide + c.1 / 64, none⟩ (.int .u64 (x : Int))).heap[j]? = W.heap[j]? := fun j hj => Below.heap_setCell _ _ _ j hj
  refine ⟨⟨(hh _ ok.bb).trans k.box, ?_, fun q hq => (k.rows q hq).keep ok fun j h1 h2 _ => hh j h2, put_lt _ _ _ k.lt, by rw [put_len]; exact k.len, by simpa using k.size⟩, rfl, rfl, rfl, by simp, fun j _ h2 _ => hh j h2⟩
  rw [set_heap W X.sb _ _ _ _ k.sn, ← hx]
  congr 2
  simp [ucells, wk.put]
theorem Sb.put (ok : Ok X) (k : Wk X W fr bs) {c : Cf} (hc : In X.n X.s.size c) (d : Cf) : Sb X (wk.put X.wide bs c) d ↔ Sb X bs d ∨ d = c := by
  unfold Sb
  constructor
  · rintro ⟨h1, h2⟩
    rcases (on_put hc h1 ok.w1 k.len).1 h2 with h | h
    · exact .inl ⟨h1, h⟩
    · exact .inr h
  · rintro (⟨h1, h2⟩ | rfl)
    · exact ⟨h1, (on_put hc h1 ok.w1 k.len).2 (.inl h2)⟩
    · exact ⟨hc, (on_put hc hc ok.w1 k.len).2 (.inr rfl)⟩
/-- a list that is kept beside one that changes -/
theorem Own.beside (h : Own X W v l) (c : Ch X ob W W') (hn : ∀ k, v.ownBlock = some k → k ≠ X.sb) (ho : ob = none ∨ ob ≠ v.ownBlock) : Own X W' v l := h.keep fun g e => c.block g (h.far e).2 (hn g e) (fun e2 => by
  rcases ho with h1 | h1
  · rw [h1] at e2; cases e2
  · exact h1 (e2.trans e.symm))
theorem Wk.after (ok : Ok X) (k : Wk X W fr bs) {bs' : List Nat} (c : Ch X v.ownBlock W W') (ho : Own X W v l) (k' : W'.heap[X.sb]? = some (.cells (ucells bs') 23 (0, 0))) (h1 : ∀ x ∈ bs', x < 18446744073709551616) (h2 : bs'.length = (X.s.size + 1) * X.wide) : Wk X W' fr bs' := by
  have hb : ∀ j, j < X.B → j ≠ X.sb → W'.heap[j]? = W.heap[j]? := fun j hj hne => c.block j (Nat.lt_of_lt_of_le hj k.size) hne (fun e => by have := (ho.far e).1; omega)
  exact ⟨(hb _ ok.bw ok.bb).trans k.box, k', fun q hq => (k.rows q hq).keep ok fun j h1 h2 _ => hb j h1 h2, h1, h2, Nat.le_trans k.size c.size⟩
end
/-- an edge's step -/
def Rr (X : Wd) : Rl := EdR ⟨fun i => (X.s.data.getD i 0).toNat, X.s.size⟩ X.es
theorem rr_flat (X : Wd) : Flat (Rr X) := by
  rintro a b ⟨e, _, _, _, h | h⟩
  · exact .inl h.2.symm
  · exact .inr h.2.2.1
theorem rr_in {X : Wd} (ok : Ok X) {a b : Cf} (h : Rr X a b) : b.1 < X.n ∧ (a.2 ≤ X.s.size → b.2 ≤ X.s.size) := by
  obtain ⟨e, he, h1, h2, h3⟩ := h
  have := ok.ein e he
  refine ⟨by omega, fun hl => ?_⟩
  rcases h3 with h3 | ⟨_, h4, h5, _⟩
  · omega
  · simp only at h4; omega
theorem pa_in {X : Wd} (ok : Ok X) {a b : Cf} (h : Pa (Rr X) a b) (ha : In X.n X.s.size a) : In X.n X.s.size b := by
  induction h with
  | refl => exact ha
  | step r _ ih => exact ih ⟨(rr_in ok r).1, (rr_in ok r).2 ha.2⟩
/-- the steps over nothing, by the row of edges -/
theorem rr_free {X : Wd} {x y at' : Nat} : Rr X (x, at') (y, at') ↔ ∃ e ∈ edgesOf X x, e.free = true ∧ e.to = (y : Int) := by
  unfold edgesOf
  constructor
  · rintro ⟨e, he, h1, h2, h3 | h3⟩
    · exact ⟨e, List.mem_filter.2 ⟨he, by simpa using h1⟩, h3.1, h2⟩
    · have := h3.2.2.1; simp only at this; omega
  · rintro ⟨e, he, h1, h2⟩
    obtain ⟨h3, h4⟩ := List.mem_filter.1 he
    exact ⟨e, h3, by simpa using h4, h2, .inl ⟨h1, rfl⟩⟩
theorem rr_byte {X : Wd} {x y at' : Nat} : Rr X (x, at') (y, at' + 1) ↔ at' < X.s.size ∧ ∃ e ∈ edgesOf X x, e.free = false ∧ nf.hasE e (X.s.data.getD at' 0).toNat = true ∧ e.to = (y : Int) := by
  unfold edgesOf
  constructor
  · rintro ⟨e, he, h1, h2, h3 | h3⟩
    · have := h3.2; simp only at this; omega
    · exact ⟨h3.2.1, e, List.mem_filter.2 ⟨he, by simpa using h1⟩, h3.1, h3.2.2.2, h2⟩
  · rintro ⟨h0, e, he, h1, h5, h2⟩
    obtain ⟨h3, h4⟩ := List.mem_filter.1 he
    exact ⟨e, h3, by simpa using h4, h2, .inr ⟨h1, h0, rfl, h5⟩⟩
end Go.Proofs.YthmecbonjkcnmaaGreat.wk

namespace Go.Proofs.YthmecbonjkcnmaaGreat.wk
open Go.ChangeShapes Go.WideShapes Go.ChangeAt Go.RowKit
open nb (Cf Rl Pa)
open nf (Ed Eds EdAt)
set_option linter.unusedVariables false
set_option maxRecDepth 100000

section
variable {X : Wd} {W : World} {fr : Nat} {bs : List Nat}
theorem Wk.c0 (k : Wk X W fr bs) : W.cell? ⟨X.wb, 0, none⟩ = some (iv X.n) := by rw [Lib.cell_of_heap k.box]; rfl
theorem Wk.c1 (k : Wk X W fr bs) : W.cell? ⟨X.wb, 1, none⟩ = some (.int .i64 0) := by rw [Lib.cell_of_heap k.box]; rfl
theorem Wk.c2 (k : Wk X W fr bs) : W.cell? ⟨X.wb, 2, none⟩ = some (.int .i64 1) := by rw [Lib.cell_of_heap k.box]; rfl
theorem Wk.c4 (k : Wk X W fr bs) : W.cell? ⟨X.wb, 4, none⟩ = some (.slice (some ⟨X.rb, 0, none⟩) X.n X.n) := by rw [Lib.cell_of_heap k.box]; rfl
theorem Wk.c5 (k : Wk X W fr bs) : W.cell? ⟨X.wb, 5, none⟩ = some (.string X.s) := by rw [Lib.cell_of_heap k.box]; rfl
theorem Wk.c6 (k : Wk X W fr bs) : W.cell? ⟨X.wb, 6, none⟩ = some (iv fr) := by rw [Lib.cell_of_heap k.box]; rfl
theorem Wk.c7 (k : Wk X W fr bs) : W.cell? ⟨X.wb, 7, none⟩ = some (iv X.wide) := by rw [Lib.cell_of_heap k.box]; rfl
theorem Wk.c8 (k : Wk X W fr bs) : W.cell? ⟨X.wb, 8, none⟩ = some (.slice (some ⟨X.sb, 0, none⟩) ((X.s.size + 1) * X.wide) ((X.s.size + 1) * X.wide)) := by rw [Lib.cell_of_heap k.box]; rfl
end
theorem few {X : Wd} (ok : Ok X) {a : Nat} (h : a ≤ X.s.size + 1) : a * X.wide ≤ (X.s.size + 1) * X.wide ∧ (X.s.size + 1) * X.wide ≤ 20000000 := by
  refine ⟨Nat.mul_le_mul_right _ h, ?_⟩
  have := ok.s1
  have := ok.w2
  exact Nat.le_trans (Nat.mul_le_mul (show X.s.size + 1 ≤ 300001 by omega) ok.w2) (by decide)
set_option maxHeartbeats 1000000 in
theorem row_any {X : Wd} {W : World} {fr : Nat} {bs : List Nat} (ok : Ok X) (k : Wk X W fr bs) (a : Nat) (ha : a ≤ X.s.size) (p t : Nat) (hp : p = a * X.wide) (ht : t = (X.s.size + 1) * X.wide) : Calls Tryz.prog 113 #[.pointer (some ⟨X.wb, 0, none⟩), .int .i64 (a : Int)] W fun e w' => e = .returned (.slice (some ⟨X.sb, p, none⟩) X.wide (t - p)) ∧ Below W.heap.size W w' := by
  obtain ⟨a1, ha1⟩ : ∃ a1, a1 = a + 1 := ⟨_, rfl⟩
  obtain ⟨q, hq⟩ : ∃ q, q = a1 * X.wide := ⟨_, rfl⟩
  have hqp : q = p + X.wide := by rw [hq, hp, ha1, Nat.add_mul]; omega
  obtain ⟨f1, f2⟩ := few ok (a := a) (by omega)
  obtain ⟨f3, f4⟩ := few ok (a := a1) (by omega)
  rw [← hp, ← ht] at f1
  rw [← hq, ← ht] at f3
  rw [← ht] at f2
  have h1 : IntKind.i64.wrap ((a : Int) * (X.wide : Int)) = (p : Int) := by
    rw [← Int.natCast_mul, ← hp, IntKind.wrap_i64]; omega
  have h2 : IntKind.i64.wrap ((a : Int) + 1) = (a1 : Int) := by
    have := ok.s1
    rw [IntKind.wrap_i64]; omega
  have h3 : IntKind.i64.wrap ((a1 : Int) * (X.wide : Int)) = (q : Int) := by
    rw [← Int.natCast_mul, ← hq, IntKind.wrap_i64]; omega
  have c7 := k.c7
  have c8 := k.c8
  rw [← ht] at c8
  have HQ := (show Hid (q = p + X.wide) from hqp)
  have hpq : p ≤ q := by omega
  have hne : ¬ t = p := by have := ok.w1; omega
  clear hp ht hq ha1 k hqp
  generalize X.wide = wide at *
  go_enter Tryz.func113, Tryz.ntmps113
  go_wp2_with (fail)
  go_region
  go_wp2
  go_ret
  refine ⟨?_, Below.drew (Below.refl _ _)⟩
  show Ending.returned (Value.slice (some ⟨X.sb, p, none⟩) (q - p) (t - p)) = _
  rw [HQ.out, Nat.add_sub_cancel_left]
theorem bit_and (x m : Nat) (hx : x < 18446744073709551616) : (bits .and .u64 ((x : Int) / 2 ^ m) 1 == 1) = x.testBit m := by
  have h1 : ((x : Int) / 2 ^ m) = ((x / 2 ^ m : Nat) : Int) := by simp
  have h2 := u64_and_nat (x / 2 ^ m) 1 (Nat.lt_of_le_of_lt (Nat.div_le_self _ _) hx) (by omega)
  rw [h1, show ((1 : Nat) : Int) = (1 : Int) from rfl] at *
  rw [h2, Nat.and_one_is_mod, Nat.testBit_eq_decide_div_mod_eq]
  generalize x / 2 ^ m = y
  by_cases h : y % 2 = 1
  · rw [h]; rfl
  · have : y % 2 = 0 := by omega
    rw [this]; rfl
theorem bit_or (x m : Nat) (hx : x < 18446744073709551616) (hm : m < 64) : bits .or .u64 (x : Int) (IntKind.u64.wrap (2 ^ m)) = ((x ||| 2 ^ m : Nat) : Int) := by
  have hp : (2 : Nat) ^ m < 18446744073709551616 := Nat.lt_of_lt_of_le (Nat.pow_lt_pow_right (by omega) hm) (by decide)
  have h1 : IntKind.u64.wrap (2 ^ m) = ((2 ^ m : Nat) : Int) := by
    have e : ((2 : Int) ^ m) = ((2 ^ m : Nat) : Int) := by simp
    rw [e, IntKind.wrap_u64]
    generalize 2 ^ m = y at *
    omega
  rw [h1]
  exact u64_or_nat _ _ hx hp
theorem bit_lt {X : Wd} {W : World} {fr : Nat} {bs : List Nat} (k : Wk X W fr bs) (i : Nat) (hi : i < bs.length) : bs.getD i 0 < 18446744073709551616 := by
  rw [List.getD_eq_getElem?_getD, List.getElem?_eq_getElem hi]
  exact k.lt _ (List.getElem_mem _)
set_option maxHeartbeats 1000000 in
theorem was_any {X : Wd} {W : World} {fr : Nat} {bs : List Nat} (ok : Ok X) (k : Wk X W fr bs) (a q : Nat) (hc : In X.n X.s.size (q, a)) (r : Bool) (hr : r = on X.wide bs (q, a)) : Calls Tryz.prog 96 #[.pointer (some ⟨X.wb, 0, none⟩), .int .i64 (a : Int), .int .i64 (q : Int)] W fun e w' => e = .returned (.bool r) ∧ Below W.heap.size W w' := by
  obtain ⟨i1, i2⟩ := idx_lt hc ok.w1
  obtain ⟨p, hp⟩ : ∃ p, p = a * X.wide := ⟨_, rfl⟩
  obtain ⟨t, ht⟩ : ∃ t, t = (X.s.size + 1) * X.wide := ⟨_, rfl⟩
  obtain ⟨m, hm⟩ : ∃ m, m = q / 64 := ⟨_, rfl⟩
  obtain ⟨j, hj⟩ : ∃ j, j = q % 64 := ⟨_, rfl⟩
  have h113 := row_any ok k a hc.2 p t hp ht
  simp only at i1 i2
  rw [← hp, ← hm, ← ht] at i1
  rw [← hm] at i2
  have hlen := k.len
  rw [← ht] at hlen
  have HC := (show Hid (∀ W', Below W.heap.size W W' → W'.cell? ⟨X.sb, p + m, none⟩ = some (.int .u64 ((bs.getD (p + m) 0 : Nat) : Int))) from fun W' b => (k.later ok b).cell (p + m) (by omega))
  have hy := bit_lt k (p + m) (by omega)
  have e2 : ((q : Int) / 64) = (m : Int) := by omega
  have e3 : ((q : Int) % 64) = (j : Int) := by omega
  have HB : Hid ((bits BinOp.and IntKind.u64 (((bs.getD (p + m) 0 : Nat) : Int) / 2 ^ j) 1 == 1) = r) := by
    show _ = _
    rw [hr, bit_and _ j hy, hm, hj, hp]; rfl
  have hj64 : j < 64 := by omega
  have hml : m < X.wide := i2
  have hpt : X.wide ≤ t - p ∧ t ≤ 20000000 := by
    have := (few ok (a := a + 1) (by have := hc.2; simp only at this; omega)).1
    have h2 := (few ok (a := 0) (by omega)).2
    rw [Nat.add_mul, ← hp, ← ht] at this
    rw [← ht] at h2
    omega
  obtain ⟨hpt1, hpt2⟩ := hpt
  clear k hr hm hj hy hp ht i1 i2 hlen hc
  generalize bs.getD (p + m) 0 = y at *
  generalize X.wide = wide at *
  go_enter Tryz.func96, Tryz.ntmps96
  go_wp2_with (go_at_call 113; refine h113.mono ?_; rintro e w1 ⟨rfl, b1⟩; have hc := HC.out w1 b1)
  go_ret
  exact ⟨by rw [← HB.out]; rfl, b1⟩
end Go.Proofs.YthmecbonjkcnmaaGreat.wk

namespace Go.Proofs.YthmecbonjkcnmaaGreat.wk
open Go.ChangeShapes Go.WideShapes Go.ChangeAt Go.RowKit
open nb (Cf Rl Pa)
open nf (Ed Eds EdAt)
set_option linter.unusedVariables false
set_option maxRecDepth 100000

theorem below_alloc (w : World) (o : Obj) : Below w.heap.size w (w.alloc o) := (Below.refl _ _).alloc (Nat.le_refl _) o
theorem info3 : (Tryz.prog.info? 3).map (fun i => (i.zero, i.size, i.bytes)) = some (some (.int .i64 0), 1, 8) := by kernel_rfl
set_option maxHeartbeats 1000000 in
theorem mark_yes {X : Wd} {W : World} {fr : Nat} {bs : List Nat} (ok : Ok X) (k : Wk X W fr bs) (a q : Nat) (hc : In X.n X.s.size (q, a)) (hr : on X.wide bs (q, a) = true) (v : Value) : Calls Tryz.prog 112 #[.pointer (some ⟨X.wb, 0, none⟩), v, .int .i64 (a : Int), .int .i64 (q : Int)] W fun e w' => e = .returned v ∧ Below W.heap.size W w' := by
  have h96 := was_any ok k a q hc true hr.symm
  clear k hr
  go_enter Tryz.func112, Tryz.ntmps112
  go_wp2_with (go_at_call 96; refine h96.mono ?_; rintro e w1 ⟨rfl, b1⟩)
  go_ret
  exact ⟨rfl, b1⟩
set_option maxHeartbeats 2000000 in
theorem mark_no {X : Wd} {W : World} {fr : Nat} {bs : List Nat} (ok : Ok X) (k : Wk X W fr bs) (a q : Nat) (hc : In X.n X.s.size (q, a)) (hr : on X.wide bs (q, a) = false) (v : Value) (l : List Nat) (ho : Own X W v l) (hl : l.length ≤ 100000) (hv : ∀ g, v.ownBlock = some g → g ≠ X.sb) : Calls Tryz.prog 112 #[.pointer (some ⟨X.wb, 0, none⟩), v, .int .i64 (a : Int), .int .i64 (q : Int)] W fun e w' => ∃ v', e = .returned v' ∧ Wk X w' fr (put X.wide bs (q, a)) ∧ Own X w' v' (l ++ [q]) ∧ Ch X v.ownBlock W w' ∧ Same W v v' := by
  obtain ⟨i1, i2⟩ := idx_lt hc ok.w1
  obtain ⟨p, hp⟩ : ∃ p, p = a * X.wide := ⟨_, rfl⟩
  obtain ⟨t, ht⟩ : ∃ t, t = (X.s.size + 1) * X.wide := ⟨_, rfl⟩
  obtain ⟨m, hm⟩ : ∃ m, m = q / 64 := ⟨_, rfl⟩
  obtain ⟨j, hj⟩ : ∃ j, j = q % 64 := ⟨_, rfl⟩
  have h96 := was_any ok k a q hc false hr.symm
  have H113 := (show Hid (∀ W', Below W.heap.size W W' → Calls Tryz.prog 113 #[.pointer (some ⟨X.wb, 0, none⟩), .int .i64 (a : Int)] W' fun e w' => e = .returned (.slice (some ⟨X.sb, p, none⟩) X.wide (t - p)) ∧ Below W'.heap.size W' w') from fun W' b => row_any ok (k.later ok b) a hc.2 p t hp ht)
  simp only at i1 i2
  rw [← hp, ← hm, ← ht] at i1
  rw [← hm] at i2
  have hlen := k.len
  rw [← ht] at hlen
  have HC := (show Hid (∀ W', Below W.heap.size W W' → W'.cell? ⟨X.sb, p + m, none⟩ = some (.int .u64 ((bs.getD (p + m) 0 : Nat) : Int)) ∧ W'.frozen? ⟨X.sb, p + m, none⟩ = false) from fun W' b => ⟨(k.later ok b).cell (p + m) (by omega), (k.later ok b).fz _⟩)
  have hy := bit_lt k (p + m) (by omega)
  have e2 : ((q : Int) / 64) = (m : Int) := by omega
  have e3 : ((q : Int) % 64) = (j : Int) := by omega
  have e5 : ((q : Int).tmod 64) = (j : Int) := by rw [Int.tmod_eq_emod_of_nonneg (by omega)]; exact e3
  have e6 : IntKind.i64.wrap (m : Int) = (m : Int) := by have := hc.1; have := ok.n1; simp only at *; rw [IntKind.wrap_i64]; omega
  have e4 := bit_or (bs.getD (p + m) 0) j hy (by omega)
  have HP := (show Hid (∀ W', Below W.heap.size W W' → Wk X (W'.setCell ⟨X.sb, p + m, none⟩ (.int .u64 ((bs.getD (p + m) 0 ||| 2 ^ j : Nat) : Int))) fr (put X.wide bs (q, a)) ∧ Ch X v.ownBlock W (W'.setCell ⟨X.sb, p + m, none⟩ (.int .u64 ((bs.getD (p + m) 0 ||| 2 ^ j : Nat) : Int))) ∧ Own X (W'.setCell ⟨X.sb, p + m, none⟩ (.int .u64 ((bs.getD (p + m) 0 ||| 2 ^ j : Nat) : Int))) v l) from fun W' b => by
    have hk := (k.later ok b).put ok (ob := v.ownBlock) (q, a)
    simp only at hk
    rw [← hp, ← hm, ← hj] at hk
    exact ⟨hk.1, (Ch.below b).trans hk.2 (Same.refl W v), (ho.later b).keep fun g hg => Below.heap_setCell _ _ _ g (hv g hg)⟩)
  have hj64 : j < 64 := by omega
  have hml : m < X.wide := i2
  have hpt : X.wide ≤ t - p ∧ t ≤ 20000000 := by
    have := (few ok (a := a + 1) (by have := hc.2; simp only at this; omega)).1
    have h2 := (few ok (a := 0) (by omega)).2
    rw [Nat.add_mul, ← hp, ← ht] at this
    rw [← ht] at h2
    omega
  obtain ⟨hpt1, hpt2⟩ := hpt
  have HL := (show Hid (l.length ≤ 100000) from hl)
  clear hr hm hj hy hp ht i1 i2 hlen hc k ho hv hl
  generalize bs.getD (p + m) 0 = y at *
  generalize X.wide = wide at *
  go_enter Tryz.func112, Tryz.ntmps112
  go_wp2_with (go_at_call 96; refine h96.mono ?_; rintro e w1 ⟨rfl, b1⟩)
  go_region_with (go_at_call 113; refine (H113.out _ (Below.drew b1)).mono ?_; rintro e w2 ⟨rfl, b2⟩; have b3 := (Below.drew b1).trans (b2.mono (Below.drew b1).size); obtain ⟨hc, hf⟩ := HC.out w2 b3; obtain ⟨p1, p2, p3⟩ := HP.out w2 b3)
  rename_i Q0 K0 hK0
  refine hK0 _ _ ?_
  clear hK0 hc hf b2 b3 HC HP H113
  generalize w2.setCell ⟨X.sb, p + m, none⟩ (.int .u64 ((y ||| 2 ^ j : Nat) : Int)) = W3 at *
  have hl := HL.out
  have hB : X.B ≤ W3.heap.size := p1.size
  have HP := (show Hid (Wk X W3 fr (put wide bs (q, a)) ∧ Ch X v.ownBlock W W3 ∧ Own X W3 v l) from ⟨p1, p2, p3⟩)
  clear p1 p2 p3
  go_wp2_with (at_builtin; refine ow.wpList_append (by rfl) (.tmp 26) (.tmp 28) 32 (by rfl) 3 _ 1 8 Tryz.underlying32 info3 (by rfl) (by decide) (by decide) X.B v l.length (l.map iv) W3.heap.size [iv q] (by rfl) (by rfl) (by exact HP.out.2.2.later (below_alloc _ _)) (by rfl) (by exact ow.new1 W3 _ 3) (by exact ow.one1 _ rfl) (by omega) (by rw [World.size_alloc]; omega) ?_; intro g' cap' w6 ho hg hnw)
  go_ret
  obtain ⟨p1, p2, p3⟩ := HP.out
  have hs := hg.size
  rw [World.size_alloc] at hs
  have hbl : ∀ k, k < W3.heap.size → v.ownBlock ≠ some k → w6.heap[k]? = W3.heap[k]? := fun k hk hne => by
    rw [hg.block k (by rw [World.size_alloc]; omega) (Ne.symm hne)]
    exact (below_alloc W3 _).block k hk
  refine ⟨_, rfl, p1.keep ok (fun k hk => hbl k (by omega) fun e => by have := (p3.far e).1; omega) (by omega), by simpa [Own] using ho, ?_, ?_⟩
  · refine p2.trans (v' := v) ⟨hg.os, hg.tape, hg.output, by omega, fun k hk _ hne => hbl k hk hne⟩ (Same.refl W v)
  · rcases hnw with e | e
    · exact .inl e
    · refine .inr ⟨g', rfl, ?_⟩
      rw [World.size_alloc] at e
      have := p2.size
      omega
set_option maxHeartbeats 1000000 in
theorem has_any (q : st.Q4) (hq : st.Fits q) (n : Nat) (hn : n < 256) (r : Bool) (hr : r = st.has q n) (w : World) : Calls Tryz.prog 114 #[.agg #[.int .u64 q.a, .int .u64 q.b, .int .u64 q.c, .int .u64 q.d], .int .u8 n] w fun e w' => e = .returned (.bool r) ∧ Below w.heap.size w w' := by
  have HR : Hid (r = st.has q n) := hr
  clear hr
  obtain ⟨m, hm, hm64⟩ : ∃ m : Nat, n % 64 = m ∧ m < 64 := ⟨_, rfl, by omega⟩
  have e2 : ((n : Int) % 64) = m := by omega
  rcases st.quarter n hn with h | h | h | h
  · have e1 : ((n : Int) / 64) = 0 := by omega
    have e3 := bit_and q.a m hq.a
    have HB : Hid (q.a.testBit m = r) := by show _ = _; rw [HR.out]; unfold st.has; rw [h, hm]; rfl
    clear h hm HR hn
    go_enter Tryz.func114, Tryz.ntmps114
    go_wp2
    go_ret
    exact ⟨by rw [← HB.out]; rfl, (Below.refl _ _).alloc (Nat.le_refl _) _⟩
  · have e1 : ((n : Int) / 64) = 1 := by omega
    have e3 := bit_and q.b m hq.b
    have HB : Hid (q.b.testBit m = r) := by show _ = _; rw [HR.out]; unfold st.has; rw [h, hm]; rfl
    clear h hm HR hn
    go_enter Tryz.func114, Tryz.ntmps114
    go_wp2
    go_ret
    exact ⟨by rw [← HB.out]; rfl, (Below.refl _ _).alloc (Nat.le_refl _) _⟩
  · have e1 : ((n : Int) / 64) = 2 := by omega
    have e3 := bit_and q.c m hq.c
    have HB : Hid (q.c.testBit m = r) := by show _ = _; rw [HR.out]; unfold st.has; rw [h, hm]; rfl
    clear h hm HR hn
    go_enter Tryz.func114, Tryz.ntmps114
    go_wp2
    go_ret
    exact ⟨by rw [← HB.out]; rfl, (Below.refl _ _).alloc (Nat.le_refl _) _⟩
  · have e1 : ((n : Int) / 64) = 3 := by omega
    have e3 := bit_and q.d m hq.d
    have HB : Hid (q.d.testBit m = r) := by show _ = _; rw [HR.out]; unfold st.has; rw [h, hm]; rfl
    clear h hm HR hn
    go_enter Tryz.func114, Tryz.ntmps114
    go_wp2
    go_ret
    exact ⟨by rw [← HB.out]; rfl, (Below.refl _ _).alloc (Nat.le_refl _) _⟩

end Go.Proofs.YthmecbonjkcnmaaGreat.wk
