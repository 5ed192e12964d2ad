/-
  Texts put together: Contracts over this program: where what an nfa takes may end (nfa.Ends). What an nfa takes: the lists that there are. Plain mathematics: what the nfa of an expression takes is what the expression takes; how large an expression is, and that one that is not too large is laid whole. Plain mathematics, no program: the classes into which sets part the bytes; texts of bits; a list without its repeats. Plain mathematics, no program: each set is a whole number of classes; two classes are parted by some set; a set more, made of those there, changes none. Plain mathematics: sets of states as rows of bools; the automaton whose states are such sets takes what the nfa takes. Contracts of sets, laid from stage 5. Contracts of sets, laid from stage 5. Contracts of sets, laid from stage 5. Contracts of sets, laid from stage 5. Contracts of sets, laid from stage 5. Contracts over this program: rows of sets (builder.nowhere), their texts (builder.text), dfa.has. Contracts over this program: whether a state is in a set's text (dfa.has), the states of a text (builder.states). Over this program: the builder of a dfa in memory, and what is kept and changed of it. Contracts over this program: the number of a set (builder.number). Contracts over this program: the number of a set that was not met yet (builder.number). Plain mathematics: sets of bytes that are handed on over Free edges, until nothing more comes (builder.spread).
-/
import Derived.Test.YtkdkibnjfgcppaaM04
import Derived.Deep.RegionWith
import Derived.Test.YtkdkibnjfgcppaaKDf
import Derived.Below
import Derived.ChangeOld
import Derived.Deep.RegionHeld3
import Derived.Deep.RegionLaw
import Derived.Deep.Slices
import Derived.Laws.Bits128
import Derived.Laws.BitsAllLaws
import Derived.Laws.BytesArg
import Derived.Laws.IdiomArrays
import Derived.Laws.Rows
import Derived.Lib.BufSteps
import Derived.Lib.Builder
import Derived.OpenShut
import Derived.ProofKit
import Derived.SizedLaws
import Derived.WalkKit
import Derived.BigQuiet
import Derived.Deep.OwnRows
import Derived.Lib.QuietBelow
import Derived.Deep.WholeRow
import Derived.Laws.CopyOwn
import Derived.Laws.ResultCell
import Derived.Laws.Tables
import Derived.DeepKeys4
import Derived.MapViews
import Derived.Maps.AppendAt
import Derived.Maps.OwnSet
import Derived.Test.YtkdkibnjfgcppaaKAp
import Derived.Test.YtkdkibnjfgcppaaKDw
namespace Go.Proofs.Ytkdkibnjfgcppaa.nf
open Go.RowKit Go.Shelf
set_option linter.unusedVariables false
open df (Kp Owns Row iv In IntsV)

theorem same_below (A : World) {W W' : World} (b : Below W.heap.size W W') (h1 : W.heap = A.heap) (h2 : W.os = A.os) (h3 : W.tape = A.tape) (h4 : W.output = A.output) : Below A.heap.size A W' :=
  ⟨b.os.trans h2, b.tape.trans h3, b.output.trans h4, h1 ▸ b.size, fun k hk => (b.block k (h1 ▸ hk)).trans (by rw [h1])⟩
def dOf (s : ByteArray) (i : Nat) : Nat := if h : i < s.size then s[i].toNat else 0
theorem dOf_eq (s : ByteArray) (i : Nat) (h : i < s.size) : dOf s i = s[i].toNat := dif_pos h
def EnIs (f : Nat) (x : Nfa) (s : ByteArray) (at' : Int) (L : List Int) : Prop := ∀ o cap w, Eds w o cap x.edges → Calls Try.prog f #[nfaV x.n x.s x.e o x.edges.length cap, .string s, .int .i64 at'] w fun e w' => ∃ v, e = .returned v ∧ IntsV w' v L ∧ Below w.heap.size w w'
structure Head (x : Nfa) (n : Nat) (s : ByteArray) (at' N : Nat) (w4 W : World) (c1 s1 c2 s2 t : Nat) (v : Value) (l es : List Int) (k : Nat) : Prop where
  pr : Pair (fun b => b < N) W N c1 s1 c2 s2 n l l [] [] v es
  ba : ∀ u, u ∈ l ↔ Base x (dOf s) at' k u
  so : SoFar x (dOf s) at' k es
  be : Below N w4 W
  tk : t = at' + k
theorem base_next {x : Nfa} {s : ByteArray} {at' k t : Nat} {l' : List Int} (htk : t = at' + k) (ht : t < s.size) (hmem : ∀ u, u ∈ l' ↔ Reach x (Base x (dOf s) at' k) u) (u : Int) : u ∈ (stepL x.edges s[t].toNat l' ([], [])).1 ↔ Base x (dOf s) at' (k + 1) u := by
  refine ((stepL_mem x.edges s[t].toNat l' ([], []) rfl).2 u).trans ?_
  show _ ↔ Over x (dOf s (at' + k)) _ u
  rw [← htk, dOf_eq s t ht]
  constructor
  · rintro (h | ⟨e, a, b, c, d, f⟩)
    · simp at h
    · exact ⟨e, a, b, c, d, (hmem _).1 f⟩
  · rintro ⟨e, a, b, c, d, f⟩
    exact .inr ⟨e, a, b, c, d, (hmem _).2 f⟩
theorem runs_eq {x : Nfa} {d : Nat → Nat} {at' len : Nat} {L M : List Int} (h : IsRuns x d at' len L) (k : IsRuns x d at' len M) : L = M := up_eq L M h.up k.up (fun t => (h.mem t).trans (k.mem t).symm)
theorem all_cell {X : Nat → Prop} {W : World} {B c1 s1 c2 s2 n : Nat} {l1 q1 l2 q2 : List Int} {v : Value} {es : List Int} (h : Pair X W B c1 s1 c2 s2 n l1 q1 l2 q2 v es) : ∃ ga ca, W.cell? ⟨c1, 1, none⟩ = some (.slice ga l1.length ca) ∧ l1.length ≤ ca ∧ ca ≤ 9223372036854775807 ∧ W.cell? ⟨c1, 0, none⟩ = some (.slice (some ⟨s1, 0, none⟩) n n) ∧ ∀ e, e < n → W.cell? ⟨s1, e, none⟩ = some (.bool (decide ((e : Int) ∈ l1))) := by
  obtain ⟨m1, a1, w1, m2, a2, w2, k1, k2, h1, h2⟩ := h.lie
  obtain ⟨ga, ca, rfl⟩ := df.own_slice k1.all
  obtain ⟨_, e2, e3⟩ := own_cap k1.all
  refine ⟨ga, ca, k1.c1, e2, e3, k1.c0, fun e he => ?_⟩
  have hl := k1.ml
  have := k1.seen.cell e (by omega)
  have g := h1.ok e he
  rw [List.getElem?_eq_getElem (by omega)] at g
  rw [this, Option.some.inj g]
theorem Pair.size {X : Nat → Prop} {W : World} {B c1 s1 c2 s2 n : Nat} {l1 q1 l2 q2 : List Int} {v : Value} {es : List Int} (h : Pair X W B c1 s1 c2 s2 n l1 q1 l2 q2 v es) : B ≤ W.heap.size := by
  obtain ⟨m1, a1, w1, m2, a2, w2, k1, k2, h1, h2⟩ := h.lie
  exact k1.size
end Go.Proofs.Ytkdkibnjfgcppaa.nf

namespace Go.Proofs.Ytkdkibnjfgcppaa.nf
open Go.RowKit Go.Shelf
set_option linter.unusedVariables false
open df (Kp Owns Row iv In IntsV)

theorem sofar_ex (x : Nfa) (d : Nat → Nat) (at' : Nat) : ∀ k, ∃ L, SoFar x d at' k L
  | 0 => ⟨_, SoFar.zero _ _ _⟩
  | k + 1 => by
    obtain ⟨L, h⟩ := sofar_ex x d at' k
    rcases Classical.em (Reach x (Base x d at' k) x.e) with hr | hr
    · exact ⟨_, h.yes hr⟩
    · exact ⟨_, h.no hr⟩
theorem runs_ex (x : Nfa) (d : Nat → Nat) (at' len : Nat) (h : at' ≤ len) : ∃ L, IsRuns x d at' len L ∧ L.length ≤ len + 1 - at' := by
  obtain ⟨L, hL⟩ := sofar_ex x d at' (len + 1 - at')
  exact ⟨L, hL.all (by omega), hL.len⟩
theorem free_ex (x : Nfa) (n : Nat) (R : Rt x n) (l : List Int) : ∃ L, IsFree x l L ∧ L.length ≤ n := by
  classical
  refine ⟨((List.range n).filter fun j : Nat => decide (Reach x (fun s => s ∈ l ∧ 0 ≤ s ∧ s < x.n) (j : Int))).map fun j : Nat => (j : Int), ⟨?_, fun t => ?_⟩, ?_⟩
  · rw [List.pairwise_map]
    exact (List.pairwise_lt_range.filter _).imp (fun h => by omega)
  · simp only [List.mem_map, List.mem_filter, List.mem_range, decide_eq_true_eq]
    constructor
    · rintro ⟨j, ⟨h1, h2⟩, rfl⟩
      exact h2
    · intro hr
      have hrange : 0 ≤ t ∧ t < (n : Int) := hr.least (Q := fun t => 0 ≤ t ∧ t < (n : Int)) (fun s hs => ⟨hs.2.1, by rw [← R.hx]; exact hs.2.2⟩) (fun e he _ _ => R.to e he)
      obtain ⟨j, rfl⟩ : ∃ j : Nat, t = (j : Int) := ⟨t.toNat, by omega⟩
      exact ⟨j, ⟨by omega, hr⟩, rfl⟩
  · rw [List.length_map]
    exact Nat.le_trans (List.length_filter_le _ _) (by simp)
/-- the empty text is taken just if the end is reached from the beginning over nothing -/
theorem empty_eq (x : Nfa) (n : Nat) (R : Rt x n) (d : Nat → Nat) (L F : List Int) (hL : IsRuns x d 0 0 L) (hF : IsFree x [x.s] F) : (x.e ∈ F ∧ L = [0]) ∨ (x.e ∉ F ∧ L = []) := by
  have key : x.e ∈ F ↔ Reach x (Base x d 0 0) x.e := by
    rw [hF.mem]
    constructor
    · exact fun h => h.mono (fun t ht => by have := ht.1; rwa [List.mem_singleton] at this)
    · exact fun h => h.mono (fun t ht => by rw [show t = x.s from ht]; exact ⟨List.mem_singleton.2 rfl, R.s.1, by rw [R.hx]; exact R.s.2⟩)
  rcases Classical.em (Reach x (Base x d 0 0) x.e) with hr | hr
  · exact .inl ⟨key.2 hr, runs_eq hL (((SoFar.zero x d 0).yes hr).all rfl)⟩
  · exact .inr ⟨fun h => hr (key.1 h), runs_eq hL (((SoFar.zero x d 0).no hr).all rfl)⟩
end Go.Proofs.Ytkdkibnjfgcppaa.nf

namespace Go.Proofs.Ytkdkibnjfgcppaa.nb
open st (Tr Q4 nodesOf goods okNode)
open nf (Ed Nfa Base Over IsRuns)
set_option linter.unusedVariables false

theorem pa_mc {T : Nat → Nat → Prop} (i j : Nat) : Pa (Un (fun _ _ => False) (Mc 0 1 T)) (0, i) (1, j) ↔ T i j := by
  constructor
  · intro h
    cases h with
    | step r h =>
      rcases r with r | ⟨h1, h2, h3⟩
      · exact r.elim
      · rename_i b
        obtain ⟨b1, b2⟩ := b
        simp only at h2 h3
        subst h2
        cases h with
        | refl => exact h3
        | step r _ =>
          rcases r with r | ⟨h4, _⟩
          · exact r.elim
          · simp at h4
  · intro h
    exact .one (.inr ⟨rfl, rfl, h⟩)
theorem built_pa (x : Tx) (t : Tr) (hg : t.good = true) (hf : (built t).full = false) (i j : Nat) : Pa (EdR x (built t).es) (0, i) (1, j) ↔ Tk x t i j := by
  obtain ⟨new, h⟩ := lay_does x t hg 0 1 ⟨2, []⟩ (by simp) (by simp) hf
  have e : (built t).es = new := by
    have := h.es
    show (layT t 0 1 ⟨2, []⟩).es = new
    simpa using this
  have h1 := h.same (fun _ _ => False) (fun _ _ h => h.elim) (0, i) (1, j) (fun h => by have := h.1; simp at this) (fun h => by have := h.1; simp at this)
  rw [e, ← pa_mc (T := Tk x t) i j, ← h1]
  exact Pa.congr fun a b => ⟨fun h => .inr h, fun h => h.elim (fun h => h.elim) id⟩
theorem reach_pa (t : Tr) (d : Nat → Nat) (len at' : Nat) : ∀ j, at' + j ≤ len → ∀ u : Int, nf.Reach (nfaOf t) (Base (nfaOf t) d at' j) u → ∃ v : Nat, u = (v : Int) ∧ Pa (EdR ⟨d, len⟩ (built t).es) (0, at') (v, at' + j) := by
  have hin := (built_in t).1
  have free : ∀ (j : Nat) (P : Int → Prop), (∀ u, P u → ∃ v : Nat, u = (v : Int) ∧ Pa (EdR ⟨d, len⟩ (built t).es) (0, at') (v, at' + j)) → ∀ u, nf.Reach (nfaOf t) P u → ∃ v : Nat, u = (v : Int) ∧ Pa (EdR ⟨d, len⟩ (built t).es) (0, at') (v, at' + j) := by
    intro j P hP u hu
    induction hu with
    | base h => exact hP _ h
    | step _ he hfr ih =>
      rename_i e _
      obtain ⟨v, hv, hp⟩ := ih
      have := hin e he
      refine ⟨e.to.toNat, by omega, hp.trans (.one ⟨e, he, hv, by show e.to = (e.to.toNat : Int); omega, .inl ⟨hfr, rfl⟩⟩)⟩
  intro j
  induction j with
  | zero =>
    intro hj
    exact free 0 _ fun u hu => ⟨0, hu, .refl _⟩
  | succ j ih =>
    intro hj
    refine free (j + 1) _ fun u hu => ?_
    obtain ⟨e, he, hfr, hhas, hto, hr⟩ := hu
    obtain ⟨v, hv, hp⟩ := ih (by omega) _ hr
    have := hin e he
    refine ⟨e.to.toNat, by omega, ?_⟩
    exact hp.trans (.one ⟨e, he, hv, by show e.to = (e.to.toNat : Int); omega, .inr ⟨hfr, by show at' + j < len; omega, by show at' + (j + 1) = at' + j + 1; omega, hhas⟩⟩)
theorem pa_reach (t : Tr) (d : Nat → Nat) (len at' : Nat) {a b : Cf} (h : Pa (EdR ⟨d, len⟩ (built t).es) a b) : (at' ≤ a.2 ∧ nf.Reach (nfaOf t) (Base (nfaOf t) d at' (a.2 - at')) (a.1 : Int)) → (at' ≤ b.2 ∧ nf.Reach (nfaOf t) (Base (nfaOf t) d at' (b.2 - at')) (b.1 : Int)) := by
  induction h with
  | refl => exact id
  | step r _ ih =>
    rintro ⟨h1, h2⟩
    apply ih
    obtain ⟨e, he, hf, ht, ⟨hfr, e2⟩ | ⟨hfr, hlt, e2, hhas⟩⟩ := r
    · rw [← e2, ← ht]
      rw [← hf] at h2
      exact ⟨h1, .step h2 he hfr⟩
    · rw [e2, ← ht]
      rw [← hf] at h2
      refine ⟨by omega, .base ?_⟩
      rw [show ∀ a : Nat, at' ≤ a → a + 1 - at' = (a - at') + 1 from fun a h => by omega]
      · refine ⟨e, he, hfr, ?_, rfl, h2⟩
        rw [show ∀ a : Nat, at' ≤ a → at' + (a - at') = a from fun a h => by omega]
        · exact hhas
        · exact h1
      · exact h1
/-- what is built takes, from a place on, just what the expression takes -/
theorem runs_tk (t : Tr) (hg : t.good = true) (hf : (built t).full = false) (d : Nat → Nat) (at' len : Nat) (L : List Int) (h : IsRuns (nfaOf t) d at' len L) (j : Nat) (hj : j ≤ len) : (j : Int) ∈ L ↔ Tk ⟨d, len⟩ t at' j := by
  rw [h.mem, ← built_pa ⟨d, len⟩ t hg hf]
  constructor
  · rintro ⟨k, h1, h2, h3⟩
    obtain ⟨v, hv, hp⟩ := reach_pa t d len at' k h1 _ h3
    obtain rfl : j = at' + k := by omega
    obtain rfl : v = 1 := by
      have : ((1 : Nat) : Int) = (v : Int) := hv
      omega
    exact hp
  · intro hp
    have := pa_reach t d len at' hp ⟨Nat.le_refl _, by rw [Nat.sub_self]; exact .base rfl⟩
    obtain ⟨h1, h2⟩ := this
    have h1' : at' ≤ j := h1
    refine ⟨j - at', by omega, by rw [show at' + (j - at') = j by omega], h2⟩
theorem pow_range {x : Tx} {T : Nat → Nat → Prop} (h : ∀ i j, T i j → i ≤ j ∧ (i ≤ x.len → j ≤ x.len)) : ∀ n i j, Pow T n i j → i ≤ j ∧ (i ≤ x.len → j ≤ x.len)
  | 0, i, j, e => by cases e; exact ⟨Nat.le_refl _, id⟩
  | n + 1, i, j, ⟨k, h1, h2⟩ => by
    have a := h i k h1
    have b := pow_range h n k j h2
    exact ⟨by omega, fun c => b.2 (a.2 c)⟩
mutual
theorem tk_range (x : Tx) : ∀ (t : Tr) (i j : Nat), Tk x t i j → i ≤ j ∧ (i ≤ x.len → j ≤ x.len)
  | .node k q mn mx l, i, j, h => by
    rw [Tk] at h
    split at h
    · obtain ⟨h1, h2, _⟩ := h
      exact ⟨by omega, fun _ => by omega⟩
    · split at h
      · exact tkC_range x l i j h
      · split at h
        · exact tkA_range x l i j h
        · split at h
          · obtain ⟨n, _, _, hp⟩ := h
            exact pow_range (tkH_range x l) n i j hp
          · exact h.elim
theorem tkC_range (x : Tx) : ∀ (l : List Tr) (i j : Nat), TkC x l i j → i ≤ j ∧ (i ≤ x.len → j ≤ x.len)
  | [], i, j, h => by
    rw [TkC] at h
    subst h
    exact ⟨Nat.le_refl _, id⟩
  | t :: l, i, j, h => by
    rw [TkC] at h
    obtain ⟨k, h1, h2⟩ := h
    have a := tk_range x t i k h1
    have b := tkC_range x l k j h2
    exact ⟨by omega, fun c => b.2 (a.2 c)⟩
theorem tkA_range (x : Tx) : ∀ (l : List Tr) (i j : Nat), TkA x l i j → i ≤ j ∧ (i ≤ x.len → j ≤ x.len)
  | [], i, j, h => by
    rw [TkA] at h
    exact h.elim
  | t :: l, i, j, h => by
    rw [TkA] at h
    rcases h with h | h
    · exact tk_range x t i j h
    · exact tkA_range x l i j h
theorem tkH_range (x : Tx) : ∀ (l : List Tr) (i j : Nat), TkH x l i j → i ≤ j ∧ (i ≤ x.len → j ≤ x.len)
  | [], i, j, h => by
    rw [TkH] at h
    exact h.elim
  | t :: _, i, j, h => by
    rw [TkH] at h
    exact tk_range x t i j h
end
end Go.Proofs.Ytkdkibnjfgcppaa.nb

namespace Go.Proofs.Ytkdkibnjfgcppaa.st
set_option linter.unusedVariables false

/-- which sets a byte is in -/
def sig (l : List Q4) (b : Nat) : List Bool := l.map (fun q => has q b)
theorem sig_length (l : List Q4) (b : Nat) : (sig l b).length = l.length := by unfold sig; simp
theorem sig_eq (l : List Q4) (b c : Nat) : sig l b = sig l c ↔ ∀ q ∈ l, has q b = has q c := by
  unfold sig
  exact List.map_inj_left

/-- the least bytes of the classes of the bytes below a number, by a test of likeness -/
def repsBy (p : Nat → Nat → Bool) : Nat → List Nat
  | 0 => []
  | i + 1 => if (repsBy p i).any (fun c => p i c) then repsBy p i else repsBy p i ++ [i]
def clsBy (p : Nat → Nat → Bool) (b : Nat) : Nat := (repsBy p (b + 1)).findIdx (fun c => p b c)
def like (l : List Q4) (b c : Nat) : Bool := decide (sig l b = sig l c)

theorem repsBy_in {p : Nat → Nat → Bool} {i : Nat} (h : (repsBy p i).any (fun c => p i c) = true) : repsBy p (i + 1) = repsBy p i := by
  rw [repsBy, if_pos h]
theorem repsBy_out {p : Nat → Nat → Bool} {i : Nat} (h : (repsBy p i).any (fun c => p i c) = false) : repsBy p (i + 1) = repsBy p i ++ [i] := by
  rw [repsBy, if_neg (by rw [h]; simp)]
theorem repsBy_lt (p : Nat → Nat → Bool) (i : Nat) : ∀ c ∈ repsBy p i, c < i := by
  induction i with
  | zero => simp [repsBy]
  | succ i ih =>
    intro c hc
    cases h : (repsBy p i).any (fun c => p i c)
    · rw [repsBy_out h] at hc
      rcases List.mem_append.1 hc with hc | hc
      · have := ih c hc; omega
      · simp at hc; omega
    · rw [repsBy_in h] at hc
      have := ih c hc; omega
theorem repsBy_length (p : Nat → Nat → Bool) (i : Nat) : (repsBy p i).length ≤ i := by
  induction i with
  | zero => simp [repsBy]
  | succ i ih =>
    cases h : (repsBy p i).any (fun c => p i c)
    · rw [repsBy_out h, List.length_append]; simp; omega
    · rw [repsBy_in h]; omega
theorem clsBy_in {p : Nat → Nat → Bool} {i : Nat} (h : (repsBy p i).any (fun c => p i c) = true) : clsBy p i = (repsBy p i).findIdx (fun c => p i c) ∧ clsBy p i < (repsBy p i).length := by
  unfold clsBy
  rw [repsBy_in h]
  refine ⟨rfl, List.findIdx_lt_length.2 ?_⟩
  exact List.any_eq_true.1 h
theorem clsBy_out {p : Nat → Nat → Bool} {i : Nat} (hp : p i i = true) (h : (repsBy p i).any (fun c => p i c) = false) : clsBy p i = (repsBy p i).length := by
  unfold clsBy
  rw [repsBy_out h, List.findIdx_append]
  have : ¬ (repsBy p i).findIdx (fun c => p i c) < (repsBy p i).length := by
    rw [List.findIdx_lt_length]
    rintro ⟨x, hx, hpx⟩
    have := List.any_eq_false.1 h x hx
    exact this hpx
  rw [if_neg this]
  simp [List.findIdx_cons, hp]
theorem clsBy_lt (p : Nat → Nat → Bool) (i : Nat) (hp : p i i = true) : clsBy p i ≤ i := by
  have := repsBy_length p i
  cases h : (repsBy p i).any (fun c => p i c)
  · rw [clsBy_out hp h]; omega
  · have := (clsBy_in h).2; omega
theorem repsBy_congr {p r : Nat → Nat → Bool} (h : ∀ i c, p i c = r i c) (i : Nat) : repsBy p i = repsBy r i := by
  have : p = r := by funext a b; exact h a b
  rw [this]
theorem clsBy_congr {p r : Nat → Nat → Bool} (h : ∀ i c, p i c = r i c) (i : Nat) : clsBy p i = clsBy r i := by
  have : p = r := by funext a b; exact h a b
  rw [this]

/-- the table of the classes, as far as it is made -/
def tbl (p : Nat → Nat → Bool) (i : Nat) : List Nat := (List.range i).map (clsBy p) ++ List.replicate (256 - i) 0
theorem tbl_length (p : Nat → Nat → Bool) (i : Nat) (h : i ≤ 256) : (tbl p i).length = 256 := by unfold tbl; simp; omega
theorem tbl_step (p : Nat → Nat → Bool) (i : Nat) (h : i < 256) : (tbl p i).set i (clsBy p i) = tbl p (i + 1) := by
  unfold tbl
  have e : 256 - i = (256 - (i + 1)) + 1 := by omega
  rw [List.range_succ, List.map_append, e, List.replicate_succ, List.set_append]
  simp
theorem tbl_zero (p : Nat → Nat → Bool) : tbl p 0 = List.replicate 256 0 := rfl
theorem tbl_at (p : Nat → Nat → Bool) (b : Nat) (h : b < 256) : (tbl p 256)[b]? = some (clsBy p b) := by
  unfold tbl
  simp [h]

/-! ### a list without its repeats -/
instance : DecidableEq Q4 := fun q r =>
  if h : q.a = r.a ∧ q.b = r.b ∧ q.c = r.c ∧ q.d = r.d then isTrue (by cases q; cases r; simp_all) else isFalse (by rintro rfl; simp at h)
def diff : List Q4 → List Q4 → List Q4
  | acc, [] => acc
  | acc, q :: l => if q ∈ acc then diff acc l else diff (acc ++ [q]) l
theorem diff_length (l acc : List Q4) : (diff acc l).length ≤ acc.length + l.length := by
  induction l generalizing acc with
  | nil => simp [diff]
  | cons q l ih =>
    unfold diff
    split
    · have := ih acc; simp; omega
    · have := ih (acc ++ [q]); simp at this ⊢; omega
theorem mem_diff (l acc : List Q4) (q : Q4) : q ∈ diff acc l ↔ q ∈ acc ∨ q ∈ l := by
  induction l generalizing acc with
  | nil => simp [diff]
  | cons x l ih =>
    unfold diff
    split
    · rename_i hx
      rw [ih, List.mem_cons]
      constructor
      · rintro (h | h)
        · exact .inl h
        · exact .inr (.inr h)
      · rintro (h | rfl | h)
        · exact .inl h
        · exact .inl hx
        · exact .inr h
    · rw [ih, List.mem_append, List.mem_singleton, List.mem_cons]
      constructor
      · rintro ((h | h) | h)
        · exact .inl h
        · exact .inr (.inl h)
        · exact .inr (.inr h)
      · rintro (h | h | h)
        · exact .inl (.inl h)
        · exact .inl (.inr h)
        · exact .inr h
theorem like_diff (l : List Q4) (b c : Nat) : like (diff [] l) b c = like l b c := by
  unfold like
  rw [decide_eq_decide, sig_eq, sig_eq]
  constructor
  · intro h q hq
    exact h q ((mem_diff l [] q).2 (.inr hq))
  · intro h q hq
    rcases (mem_diff l [] q).1 hq with h1 | h1
    · simp at h1
    · exact h q h1
theorem diff_take (l : List Q4) (acc : List Q4) (q : Q4) : diff acc (l ++ [q]) = if q ∈ diff acc l then diff acc l else diff acc l ++ [q] := by
  induction l generalizing acc with
  | nil =>
    rw [List.nil_append]
    simp only [diff]
    by_cases h : q ∈ acc <;> simp [h]
  | cons x l ih =>
    rw [List.cons_append]
    unfold diff
    split
    · rw [ih]
    · rw [ih]

/-! ### a text of bits -/
def packTo (s : List Bool) : Nat → List Nat
  | 0 => List.replicate ((s.length + 7) / 8) 0
  | i + 1 => if s.getD i false then (packTo s i).set (i / 8) ((packTo s i).getD (i / 8) 0 ||| 2 ^ (i % 8)) else packTo s i
theorem packTo_length (s : List Bool) (i : Nat) : (packTo s i).length = (s.length + 7) / 8 := by
  induction i with
  | zero => simp [packTo]
  | succ i ih =>
    unfold packTo
    split
    · simp [ih]
    · exact ih
theorem getD_lt_256 (l : List Nat) (h : ∀ x ∈ l, x < 256) (i : Nat) : l.getD i 0 < 256 := by
  rw [List.getD_eq_getElem?_getD]
  cases hi : l[i]? with
  | none => simp
  | some v => exact h v (List.mem_of_getElem? hi)
theorem packTo_lt (s : List Bool) (i : Nat) : ∀ x ∈ packTo s i, x < 256 := by
  induction i with
  | zero => intro x hx; simp [packTo] at hx; omega
  | succ i ih =>
    unfold packTo
    split
    · intro x hx
      rcases List.mem_or_eq_of_mem_set hx with h | h
      · exact ih x h
      · rw [h]
        exact Nat.or_lt_two_pow (n := 8) (getD_lt_256 _ ih _) (Nat.pow_lt_pow_right (by omega) (by omega))
    · exact ih
theorem packTo_bit (s : List Bool) (i : Nat) (hi : i ≤ s.length) (m : Nat) (hm : m < s.length) : ((packTo s i).getD (m / 8) 0).testBit (m % 8) = (decide (m < i) && s.getD m false) := by
  induction i with
  | zero =>
    simp only [packTo, Nat.not_lt_zero, decide_false, Bool.false_and]
    rw [List.getD_eq_getElem?_getD, List.getElem?_replicate]
    split <;> simp
  | succ i ih =>
    have h1 := ih (by omega)
    have hlen := packTo_length s i
    unfold packTo
    cases hs : s.getD i false
    · simp only [Bool.false_eq_true, if_false]
      rw [h1]
      by_cases hmi : m = i
      · subst hmi; rw [hs]; simp
      · have : decide (m < i + 1) = decide (m < i) := by rw [decide_eq_decide]; omega
        rw [this]
    · simp only [if_true]
      by_cases hk : i / 8 = m / 8
      · rw [hk, List.getD_eq_getElem?_getD, List.getElem?_set_self (by omega), Option.getD_some, Nat.testBit_or, h1, Nat.testBit_two_pow]
        by_cases hmi : m = i
        · subst hmi
          rw [hs]
          simp
        · have e1 : decide (i % 8 = m % 8) = false := by simp; omega
          have e2 : decide (m < i + 1) = decide (m < i) := by rw [decide_eq_decide]; omega
          rw [e1, e2, Bool.or_false]
      · rw [List.getD_eq_getElem?_getD, List.getElem?_set_ne hk, ← List.getD_eq_getElem?_getD, h1]
        have hne : i ≠ m := fun e => hk (by rw [e])
        have e2 : decide (m < i + 1) = decide (m < i) := by rw [decide_eq_decide]; omega
        rw [e2]
theorem pack_inj {s t : List Bool} (hl : s.length = t.length) (h : packTo s s.length = packTo t t.length) : s = t := by
  apply List.ext_getElem? 
  intro m
  by_cases hm : m < s.length
  · have h1 := packTo_bit s s.length (Nat.le_refl _) m hm
    have h2 := packTo_bit t t.length (Nat.le_refl _) m (by omega)
    rw [h, h2] at h1
    have e1 : decide (m < t.length) = true := by simp; omega
    have e2 : decide (m < s.length) = true := by simp; omega
    rw [e1, e2, Bool.true_and, Bool.true_and, List.getD_eq_getElem?_getD, List.getD_eq_getElem?_getD, List.getElem?_eq_getElem hm, List.getElem?_eq_getElem (by omega : m < t.length)] at h1
    rw [List.getElem?_eq_getElem hm, List.getElem?_eq_getElem (by omega : m < t.length)]
    simp at h1
    rw [h1]
  · rw [List.getElem?_eq_none (by omega), List.getElem?_eq_none (by omega)]
/-- the text of bits of a byte -/
def key (l : List Q4) (b : Nat) : List UInt8 := (packTo (sig l b) l.length).map UInt8.ofNat
theorem key_eq (l : List Q4) (b c : Nat) : key l b = key l c ↔ sig l b = sig l c := by
  unfold key
  constructor
  · intro h
    refine pack_inj (by rw [sig_length, sig_length]) ?_
    rw [sig_length, sig_length]
    have hx := packTo_lt (sig l b) l.length
    have hy := packTo_lt (sig l c) l.length
    generalize packTo (sig l b) l.length = x at *
    generalize packTo (sig l c) l.length = y at *
    apply List.ext_getElem?
    intro i
    have := congrArg (fun z : List UInt8 => z[i]?) h
    simp only [List.getElem?_map] at this
    cases h1 : x[i]? <;> cases h2 : y[i]? <;> rw [h1, h2] at this <;> simp at this
    · rename_i u v
      have hu := hx u (List.mem_of_getElem? h1)
      have hv := hy v (List.mem_of_getElem? h2)
      have := congrArg UInt8.toNat this
      simp [Nat.mod_eq_of_lt hu, Nat.mod_eq_of_lt hv] at this
      rw [this]
  · intro h
    rw [h]
theorem key_length (l : List Q4) (b : Nat) : (key l b).length = (l.length + 7) / 8 := by
  unfold key
  rw [List.length_map, packTo_length, sig_length]
end Go.Proofs.Ytkdkibnjfgcppaa.st

namespace Go.Proofs.Ytkdkibnjfgcppaa.st
set_option linter.unusedVariables false

theorem reps_prefix (p : Nat → Nat → Bool) (i d : Nat) : ∃ t, repsBy p (i + d) = repsBy p i ++ t := by
  induction d with
  | zero => exact ⟨[], by simp⟩
  | succ d ih =>
    obtain ⟨t, ht⟩ := ih
    cases h : (repsBy p (i + d)).any (fun c => p (i + d) c)
    · exact ⟨t ++ [i + d], by rw [← Nat.add_assoc, repsBy_out h, ht, List.append_assoc]⟩
    · exact ⟨t, by rw [← Nat.add_assoc, repsBy_in h, ht]⟩
theorem reps_rise (p : Nat → Nat → Bool) (i : Nat) : (repsBy p i).Pairwise (fun x y => x < y ∧ p y x = false) := by
  induction i with
  | zero => simp [repsBy]
  | succ i ih =>
    cases h : (repsBy p i).any (fun c => p i c)
    · rw [repsBy_out h, List.pairwise_append]
      refine ⟨ih, by simp, ?_⟩
      intro x hx y hy
      simp at hy
      subst hy
      refine ⟨repsBy_lt p y x hx, ?_⟩
      have := List.any_eq_false.1 h x hx
      simpa using this
    · rw [repsBy_in h]; exact ih
theorem reps_pair (p : Nat → Nat → Bool) (i : Nat) {m k : Nat} (hmk : m < k) (hk : k < (repsBy p i).length) : (repsBy p i)[m] < (repsBy p i)[k] ∧ p (repsBy p i)[k] (repsBy p i)[m] = false :=
  List.pairwise_iff_getElem.1 (reps_rise p i) m k (by omega) hk hmk
theorem found (p : Nat → Nat → Bool) (hp : ∀ b, p b b = true) (b : Nat) : clsBy p b < (repsBy p (b + 1)).length := by
  cases h : (repsBy p b).any (fun c => p b c)
  · rw [clsBy_out (hp b) h, repsBy_out h]; simp
  · rw [repsBy_in h]; exact (clsBy_in h).2
theorem cls_in {N : Nat} (hN : N = 256) (p : Nat → Nat → Bool) (hp : ∀ b, p b b = true) (b : Nat) (hb : b < 256) : ∃ hlt : clsBy p b < (repsBy p N).length, p b (repsBy p N)[clsBy p b] = true ∧ (repsBy p N)[clsBy p b] ≤ b := by
  obtain ⟨t, ht⟩ := reps_prefix p (b + 1) (N - (b + 1))
  rw [show b + 1 + (N - (b + 1)) = N from by omega] at ht
  have hf := found p hp b
  have hlt : clsBy p b < (repsBy p N).length := by rw [ht, List.length_append]; omega
  refine ⟨hlt, ?_⟩
  have e : (repsBy p N)[clsBy p b] = (repsBy p (b + 1))[clsBy p b] := by
    have h1 : (repsBy p N)[clsBy p b]? = (repsBy p (b + 1))[clsBy p b]? := by rw [ht, List.getElem?_append_left hf]
    rw [List.getElem?_eq_getElem hlt, List.getElem?_eq_getElem hf] at h1
    exact Option.some.inj h1
  rw [e]
  refine ⟨?_, ?_⟩
  · have : clsBy p b = (repsBy p (b + 1)).findIdx (fun c => p b c) := rfl
    have h2 := List.findIdx_getElem (p := fun c => p b c) (xs := repsBy p (b + 1)) (w := by rw [← this]; exact hf)
    exact h2
  · have := repsBy_lt p (b + 1) _ (List.getElem_mem hf)
    omega
theorem cls_rep {N : Nat} (hN : N = 256) (p : Nat → Nat → Bool) (hp : ∀ b, p b b = true) (hs : ∀ a b c, p a b = true → p a c = true → p b c = true) (k : Nat) (hk : k < (repsBy p N).length) : clsBy p (repsBy p N)[k] = k := by
  have hb : (repsBy p N)[k] < 256 := by have := repsBy_lt p N _ (List.getElem_mem hk); omega
  obtain ⟨hlt, h1, _⟩ := cls_in hN p hp _ hb
  rcases Nat.lt_trichotomy (clsBy p (repsBy p N)[k]) k with h | h | h
  · have := (reps_pair p N h hk).2
    rw [this] at h1
    cases h1
  · exact h
  · have h2 := (reps_pair p N h hlt).2
    have h3 := hs _ _ _ h1 (hp _)
    rw [h3] at h2
    cases h2

/-- the least bytes, found from above -/
def dn (f : Nat → Nat) (n : Nat) : Nat → List Nat
  | 0 => List.replicate n 0
  | i + 1 => (dn f n i).set (f (255 - i)) (255 - i)
theorem dn_length (f : Nat → Nat) (n i : Nat) : (dn f n i).length = n := by
  induction i with
  | zero => simp [dn]
  | succ i ih => simp [dn, ih]
theorem dn_at {N : Nat} (hN : N = 256) (p : Nat → Nat → Bool) (hp : ∀ b, p b b = true) (hs : ∀ a b c, p a b = true → p a c = true → p b c = true) (i : Nat) (hi : i ≤ 256) (k : Nat) (hk : k < (repsBy p N).length) (h : 256 - i ≤ (repsBy p N)[k]) :
    (dn (clsBy p) (repsBy p N).length i)[k]? = some (repsBy p N)[k] := by
  induction i with
  | zero =>
    have hb : (repsBy p N)[k] < 256 := by have := repsBy_lt p N _ (List.getElem_mem hk); omega
    omega
  | succ i ih =>
    rw [dn]
    by_cases e : clsBy p (255 - i) = k
    · rw [e, List.getElem?_set_self (by rw [dn_length]; exact hk)]
      obtain ⟨hlt, _, h2⟩ := cls_in hN p hp (255 - i) (by omega)
      have h3 : (repsBy p N)[k] ≤ 255 - i := by
        have : (repsBy p N)[clsBy p (255 - i)] = (repsBy p N)[k] := by congr 1
        omega
      congr 1
      omega
    · rw [List.getElem?_set_ne e]
      refine ih (by omega) ?_
      rcases Nat.lt_or_ge (repsBy p N)[k] (256 - i) with h4 | h4
      · exfalso
        have h5 : (repsBy p N)[k] = 255 - i := by omega
        have h6 := cls_rep hN p hp hs k hk
        rw [h5] at h6
        exact e h6
      · exact h4
theorem dn_all {N : Nat} (hN : N = 256) (p : Nat → Nat → Bool) (hp : ∀ b, p b b = true) (hs : ∀ a b c, p a b = true → p a c = true → p b c = true) : dn (clsBy p) (repsBy p N).length 256 = repsBy p N := by
  apply List.ext_getElem?
  intro k
  by_cases hk : k < (repsBy p N).length
  · rw [dn_at hN p hp hs 256 (by omega) k hk (by omega), List.getElem?_eq_getElem hk]
  · rw [List.getElem?_eq_none (by rw [dn_length]; omega), List.getElem?_eq_none (by omega)]

theorem like_trans (l : List Q4) (a b c : Nat) (h1 : like l a b = true) (h2 : like l a c = true) : like l b c = true := by
  simp [like] at *
  rw [← h1, ← h2]
theorem like_refl (l : List Q4) (a : Nat) : like l a a = true := by simp [like]
theorem like_has {l : List Q4} {a b : Nat} (h : like l a b = true) {q : Q4} (hq : q ∈ l) : has q a = has q b := by
  have : sig l a = sig l b := by simpa [like] using h
  exact (sig_eq l a b).1 this q hq

theorem reps_cong {p r : Nat → Nat → Bool} (h : ∀ i c, i < 256 → c < 256 → p i c = r i c) (i : Nat) (hi : i ≤ 256) : repsBy p i = repsBy r i := by
  induction i with
  | zero => rfl
  | succ i ih =>
    have e := ih (by omega)
    have e2 : (repsBy p i).any (fun c => p i c) = (repsBy r i).any (fun c => r i c) := by
      rw [e, Bool.eq_iff_iff, List.any_eq_true, List.any_eq_true]
      constructor
      · rintro ⟨x, hx, hh⟩
        exact ⟨x, hx, by rw [← h i x (by omega) (by have := repsBy_lt r i x hx; omega)]; exact hh⟩
      · rintro ⟨x, hx, hh⟩
        exact ⟨x, hx, by rw [h i x (by omega) (by have := repsBy_lt r i x hx; omega)]; exact hh⟩
    rw [repsBy, repsBy, e2, e]
theorem findIdx_cong {p r : Nat → Bool} (L : List Nat) (h : ∀ x ∈ L, p x = r x) : L.findIdx p = L.findIdx r := by
  induction L with
  | nil => rfl
  | cons x L ih => rw [List.findIdx_cons, List.findIdx_cons, h x (by simp), ih (fun y hy => h y (by simp [hy]))]
theorem cls_cong {p r : Nat → Nat → Bool} (h : ∀ i c, i < 256 → c < 256 → p i c = r i c) (b : Nat) (hb : b < 256) : clsBy p b = clsBy r b := by
  unfold clsBy
  rw [reps_cong h (b + 1) (by omega)]
  exact findIdx_cong _ (fun x hx => h b x hb (by have := repsBy_lt r (b + 1) x hx; omega))
theorem tbl_cong {p r : Nat → Nat → Bool} (h : ∀ i c, i < 256 → c < 256 → p i c = r i c) : tbl p 256 = tbl r 256 := by
  unfold tbl
  congr 1
  apply List.map_congr_left
  intro b hb
  exact cls_cong h b (by simpa using hb)
theorem like_more {l : List Q4} (hf : ∀ q ∈ l, Fits q) {q r : Q4} (hq : q ∈ l) (hr : r ∈ l) (b c : Nat) (hb : b < 256) (hc : c < 256) : like (l ++ [jn q (nt r)]) b c = like l b c := by
  unfold like
  rw [decide_eq_decide, sig_eq, sig_eq]
  constructor
  · intro h x hx
    exact h x (by simp [hx])
  · intro h x hx
    rcases List.mem_append.1 hx with hx | hx
    · exact h x hx
    · rw [List.mem_singleton.1 hx, has_jn _ _ b hb, has_jn _ _ c hc, has_nt (hf r hr) b hb, has_nt (hf r hr) c hc, h q hq, h r hr]
theorem reps_one {p : Nat → Nat → Bool} (h : ∀ a b, p a b = true) (i : Nat) : repsBy p (i + 1) = [0] := by
  induction i with
  | zero => rw [repsBy_out (by simp [repsBy])]; simp [repsBy]
  | succ i ih => rw [repsBy_in (by rw [ih]; simp [h]), ih]

/-- all that the law asks of the classes -/
structure Parts (l : List Q4) (xs L : List Nat) : Prop where
  len : xs.length = 256
  few : L.length ≤ 256
  c_lt : ∀ b, b < 256 → xs.getD b 0 < L.length
  l_lt : ∀ k, k < L.length → L.getD k 0 < 256
  rise : ∀ k, k + 1 < L.length → L.getD k 0 < L.getD (k + 1) 0
  parted : ∀ m k, m < k → k < L.length → like l (L.getD k 0) (L.getD m 0) = false
  whole : ∀ b, b < 256 → like l b (L.getD (xs.getD b 0) 0) = true
  down : dn (fun b => xs.getD b 0) L.length 256 = L
  lone : l = [] → L.length = 1
theorem dn_cong {f g : Nat → Nat} (h : ∀ b, b < 256 → f b = g b) (n i : Nat) : dn f n i = dn g n i := by
  induction i with
  | zero => rfl
  | succ i ih => rw [dn, dn, ih, h (255 - i) (by omega)]
theorem parts_of {N : Nat} (hN : N = 256) (l : List Q4) : Parts l (tbl (like l) 256) (repsBy (like l) N) := by
  have hx : ∀ b, b < 256 → (tbl (like l) 256).getD b 0 = clsBy (like l) b := fun b hb => by
    rw [List.getD_eq_getElem?_getD, tbl_at _ b hb]; rfl
  have hL : ∀ k (h : k < (repsBy (like l) N).length), (repsBy (like l) N).getD k 0 = (repsBy (like l) N)[k] := fun k h => by
    rw [List.getD_eq_getElem?_getD, List.getElem?_eq_getElem h]; rfl
  refine ⟨tbl_length _ _ (by omega), by have := repsBy_length (like l) N; omega, fun b hb => ?_, fun k hk => ?_, fun k hk => ?_, fun m k hmk hk => ?_, fun b hb => ?_, ?_, fun h => ?_⟩
  · rw [hx b hb]
    exact (cls_in hN _ (like_refl l) b hb).1
  · rw [hL k hk]
    have := repsBy_lt _ N _ (List.getElem_mem hk)
    omega
  · rw [hL k (by omega), hL (k + 1) hk]
    exact (reps_pair _ N (Nat.lt_succ_self k) hk).1
  · rw [hL k hk, hL m (by omega)]
    exact (reps_pair _ N hmk hk).2
  · obtain ⟨hlt, h1, _⟩ := cls_in hN _ (like_refl l) b hb
    rw [hx b hb, hL _ hlt]
    exact h1
  · rw [dn_cong hx]
    exact dn_all hN _ (like_refl l) (like_trans l)
  · subst h
    have h1 : ∀ a b, like [] a b = true := fun a b => rfl
    rw [show N = 255 + 1 from hN, reps_one h1]
    rfl
theorem parts_more {l : List Q4} (hf : ∀ q ∈ l, Fits q) {q r : Q4} (hq : q ∈ l) (hr : r ∈ l) : tbl (like (l ++ [jn q (nt r)])) 256 = tbl (like l) 256 ∧ repsBy (like (l ++ [jn q (nt r)])) 256 = repsBy (like l) 256 :=
  ⟨tbl_cong (fun b c hb hc => like_more hf hq hr b c hb hc), reps_cong (fun b c hb hc => like_more hf hq hr b c hb hc) 256 (by omega)⟩
end Go.Proofs.Ytkdkibnjfgcppaa.st

namespace Go.Proofs.Ytkdkibnjfgcppaa.bd
open nf (Nfa Ed Over Base IsRuns SoFar Rt hasE setOf)
set_option linter.unusedVariables false

def On (σ : List Bool) (t : Int) : Prop := ∃ i : Nat, t = (i : Int) ∧ σ[i]? = some true
structure IsSet (n : Nat) (S : Int → Prop) (σ : List Bool) : Prop where
  len : σ.length = n
  mem : ∀ i (h : i < σ.length), σ[i] = true ↔ S (i : Int)
theorem IsSet.uniq {n : Nat} {S : Int → Prop} {σ τ : List Bool} (h : IsSet n S σ) (k : IsSet n S τ) : σ = τ := by
  refine List.ext_getElem (by rw [h.len, k.len]) fun i h1 h2 => ?_
  rw [Bool.eq_iff_iff, h.mem i h1, k.mem i h2]
theorem IsSet.congr {n : Nat} {S T : Int → Prop} {σ : List Bool} (h : IsSet n S σ) (e : ∀ i : Nat, i < n → (S (i : Int) ↔ T (i : Int))) : IsSet n T σ :=
  ⟨h.len, fun i hi => (h.mem i hi).trans (e i (by rw [← h.len]; exact hi))⟩
theorem set_ex (S : Int → Prop) : ∀ n : Nat, ∃ σ, IsSet n S σ
  | 0 => ⟨[], rfl, fun i h => by simp at h⟩
  | n + 1 => by
    obtain ⟨σ, h⟩ := set_ex S n
    by_cases hs : S (n : Int)
    · refine ⟨σ ++ [true], by simp [h.len], fun i hi => ?_⟩
      by_cases e : i < σ.length
      · rw [List.getElem_append_left e]; exact h.mem i e
      · have e2 : i = n := by have := h.len; simp at hi; omega
        subst e2
        rw [List.getElem_append_right (by omega)]
        simp [hs]
    · refine ⟨σ ++ [false], by simp [h.len], fun i hi => ?_⟩
      by_cases e : i < σ.length
      · rw [List.getElem_append_left e]; exact h.mem i e
      · have e2 : i = n := by have := h.len; simp at hi; omega
        subst e2
        rw [List.getElem_append_right (by omega)]
        simp [hs]
theorem IsSet.on {n : Nat} {S : Int → Prop} {σ : List Bool} (h : IsSet n S σ) (hS : ∀ t, S t → 0 ≤ t ∧ t < (n : Int)) (t : Int) : On σ t ↔ S t := by
  constructor
  · rintro ⟨i, rfl, h1⟩
    obtain ⟨h2, h3⟩ := List.getElem?_eq_some_iff.1 h1
    exact (h.mem i h2).1 h3
  · intro hs
    obtain ⟨h1, h2⟩ := hS t hs
    have h3 : t.toNat < σ.length := by rw [h.len]; omega
    refine ⟨t.toNat, by omega, List.getElem?_eq_some_iff.2 ⟨h3, (h.mem _ h3).2 ?_⟩⟩
    rw [show ((t.toNat : Nat) : Int) = t by omega]
    exact hs
def off (n : Nat) : List Bool := List.replicate n false
theorem off_iff {n : Nat} {S : Int → Prop} {σ : List Bool} (h : IsSet n S σ) : σ = off n ↔ ∀ i : Nat, i < n → ¬ S (i : Int) := by
  constructor
  · intro e i hi hs
    have h1 : i < σ.length := by rw [h.len]; exact hi
    have := (h.mem i h1).2 hs
    subst e
    simp [off] at this
  · intro hn
    refine List.ext_getElem (by rw [h.len]; simp [off]) fun i h1 h2 => ?_
    have : ¬ σ[i] = true := fun e => hn i (by rw [← h.len]; exact h1) ((h.mem i h1).1 e)
    simp [off, this]
/-- where one comes to from a set over a byte -/
def To (x : Nfa) (c : Nat) (σ : List Bool) (t : Int) : Prop := nf.Reach x (Over x c (On σ)) t
def Begin (x : Nfa) (t : Int) : Prop := nf.Reach x (fun s => s = x.s) t
theorem reach_in {x : Nfa} {n : Nat} (R : Rt x n) {P : Int → Prop} (hP : ∀ t, P t → 0 ≤ t ∧ t < (n : Int)) (t : Int) (h : nf.Reach x P t) : 0 ≤ t ∧ t < (n : Int) :=
  h.least (Q := fun t => 0 ≤ t ∧ t < (n : Int)) hP (fun e he _ _ => R.to e he)
theorem over_in {x : Nfa} {n : Nat} (R : Rt x n) {c : Nat} {S : Int → Prop} (t : Int) (h : Over x c S t) : 0 ≤ t ∧ t < (n : Int) := by
  obtain ⟨e, he, _, _, rfl, _⟩ := h
  exact R.to e he
theorem to_in {x : Nfa} {n : Nat} (R : Rt x n) {c : Nat} {σ : List Bool} (t : Int) (h : To x c σ t) : 0 ≤ t ∧ t < (n : Int) := reach_in R (fun t h => over_in R t h) t h
theorem begin_in {x : Nfa} {n : Nat} (R : Rt x n) (t : Int) (h : Begin x t) : 0 ≤ t ∧ t < (n : Int) := reach_in R (fun t h => by rw [h]; exact R.s) t h
theorem over_mono {x : Nfa} {c : Nat} {S T : Int → Prop} (h : ∀ t, S t → T t) {t : Int} (k : Over x c S t) : Over x c T t := by
  obtain ⟨e, a, b, d, f, g⟩ := k
  exact ⟨e, a, b, d, f, h _ g⟩

/-- a list of numbered sets -/
structure Nums (x : Nfa) (n : Nat) (L : List (List Bool)) : Prop where
  len : ∀ σ ∈ L, σ.length = n
  nd : L.Nodup
  ne : ∀ σ ∈ L, σ ≠ off n
  first : ∃ σ, L[0]? = some σ ∧ IsSet n (Begin x) σ
  par : ∀ (k : Nat) τ, L[k + 1]? = some τ → ∃ (j c : Nat) (σ : List Bool), j < k + 1 ∧ c < 256 ∧ L[j]? = some σ ∧ IsSet n (To x c σ) τ
/-- the row of a set -/
structure RowOf (x : Nfa) (n : Nat) (ls : List Nat) (L : List (List Bool)) (σ : List Bool) (r : List Int) : Prop where
  len : r.length = ls.length
  at' : ∀ (c : Nat) y, ls[c]? = some y → ∃ τ, IsSet n (To x y σ) τ ∧ (r[c]? = some (-1) ∧ τ = off n ∨ ∃ k : Nat, r[c]? = some (k : Int) ∧ L[k]? = some τ)
theorem get_pre {α : Type} {L M : List α} (h : L <+: M) {k : Nat} {a : α} (e : L[k]? = some a) : M[k]? = some a := by
  obtain ⟨t, rfl⟩ := h
  rw [List.getElem?_append_left (List.getElem?_eq_some_iff.1 e).1]
  exact e
theorem RowOf.more {x : Nfa} {n : Nat} {ls : List Nat} {L M : List (List Bool)} {σ : List Bool} {r : List Int} (h : RowOf x n ls L σ r) (p : L <+: M) : RowOf x n ls M σ r :=
  ⟨h.len, fun c y hc => by
    obtain ⟨τ, h1, h2⟩ := h.at' c y hc
    refine ⟨τ, h1, ?_⟩
    rcases h2 with h2 | ⟨k, h3, h4⟩
    · exact .inl h2
    · exact .inr ⟨k, h3, get_pre p h4⟩⟩
/-- what is built -/
structure Built (x : Nfa) (n : Nat) (ls : List Nat) (L : List (List Bool)) (d : df.Dfa) : Prop where
  nums : Nums x n L
  rows : d.next.length = L.length
  row : ∀ (k : Nat) σ r, L[k]? = some σ → d.next[k]? = some r → RowOf x n ls L σ r
  acc : d.acc = L.map fun σ => σ.getD x.e.toNat false
  l1 : 1 ≤ ls.length
  l2 : ls.length ≤ 256
  lb : ∀ y ∈ ls, y < 256
  cls : ∀ b, b < 256 → ∃ y, ls[d.cls b]? = some y ∧ ∀ e ∈ x.edges, e.free = false → hasE e b = hasE e y
  own : ∀ (c : Nat) y, ls[c]? = some y → d.cls y = c
theorem over_alike {x : Nfa} {b y : Nat} (h : ∀ e ∈ x.edges, e.free = false → hasE e b = hasE e y) {S : Int → Prop} (t : Int) : Over x b S t ↔ Over x y S t := by
  constructor
  · rintro ⟨e, a, c, d, f, g⟩
    exact ⟨e, a, c, by rw [← h e a c]; exact d, f, g⟩
  · rintro ⟨e, a, c, d, f, g⟩
    exact ⟨e, a, c, by rw [h e a c]; exact d, f, g⟩
theorem to_alike {x : Nfa} {b y : Nat} (h : ∀ e ∈ x.edges, e.free = false → hasE e b = hasE e y) {σ : List Bool} (t : Int) : To x b σ t ↔ To x y σ t :=
  ⟨fun r => r.mono fun t => (over_alike h t).1, fun r => r.mono fun t => (over_alike h t).2⟩
section
variable {x : Nfa} {n : Nat} {ls : List Nat} {L : List (List Bool)} {d : df.Dfa}
theorem Built.pos (h : Built x n ls L d) : 1 ≤ L.length := by
  obtain ⟨σ, h1, _⟩ := h.nums.first
  have := (List.getElem?_eq_some_iff.1 h1).1
  omega
theorem Built.wide (h : Built x n ls L d) (k : Nat) (r : List Int) (hk : d.next[k]? = some r) : r.length = ls.length := by
  have h1 := (List.getElem?_eq_some_iff.1 hk).1
  rw [h.rows] at h1
  exact (h.row k _ r (List.getElem?_eq_getElem h1) hk).len
theorem Built.width (h : Built x n ls L d) : df.width d = ls.length := by
  unfold df.width
  have h1 := h.pos
  rw [← h.rows] at h1
  rw [List.getElem?_eq_getElem (by omega : 0 < d.next.length)]
  exact h.wide 0 _ (List.getElem?_eq_getElem (by omega))
theorem Built.go (h : Built x n ls L d) (k : Nat) (σ : List Bool) (hk : L[k]? = some σ) (b : Nat) (hb : b < 256) : ∃ τ, IsSet n (To x b σ) τ ∧ (df.nxt d k (d.cls b) = -1 ∧ τ = off n ∨ ∃ j : Nat, df.nxt d k (d.cls b) = (j : Int) ∧ L[j]? = some τ) := by
  have h1 := (List.getElem?_eq_some_iff.1 hk).1
  have h2 : k < d.next.length := by rw [h.rows]; exact h1
  have hr := h.row k σ _ hk (List.getElem?_eq_getElem h2)
  obtain ⟨y, hy, ha⟩ := h.cls b hb
  obtain ⟨τ, ht, hq⟩ := hr.at' _ y hy
  refine ⟨τ, ht.congr fun i _ => (to_alike ha _).symm, ?_⟩
  unfold df.nxt
  rw [List.getElem?_eq_getElem h2]
  rcases hq with ⟨e1, e2⟩ | ⟨j, e1, e2⟩
  · exact .inl ⟨by simp [e1], e2⟩
  · exact .inr ⟨j, by simp [e1], e2⟩
theorem Built.right (h : Built x n ls L d) (hL : L.length ≤ 400) : df.right d = true := by
  have h0 := h.pos
  unfold df.right
  rw [h.width, h.rows, h.acc]
  have h3 : d.next.all (df.rowOk L.length ls.length) = true := by
    rw [List.all_eq_true]
    intro r hr
    obtain ⟨k, hk, rfl⟩ := List.mem_iff_getElem.1 hr
    have hk2 : k < L.length := by rw [← h.rows]; exact hk
    have hro := h.row k _ _ (List.getElem?_eq_getElem hk2) (List.getElem?_eq_getElem hk)
    unfold df.rowOk df.goOn
    rw [hro.len]
    simp only [beq_self_eq_true, Bool.true_and, List.all_eq_true, Bool.and_eq_true, decide_eq_true_eq]
    intro y hy
    obtain ⟨c, hc, rfl⟩ := List.mem_iff_getElem.1 hy
    have hc2 : c < ls.length := by rw [← hro.len]; exact hc
    obtain ⟨τ, _, hq⟩ := hro.at' c _ (List.getElem?_eq_getElem hc2)
    rw [List.getElem?_eq_getElem hc] at hq
    rcases hq with ⟨e1, _⟩ | ⟨j, e1, e2⟩
    · rw [Option.some.inj e1]; omega
    · rw [Option.some.inj e1]; have := (List.getElem?_eq_some_iff.1 e2).1; omega
  have h4 : df.clsOk d = true := by
    unfold df.clsOk
    rw [h.width]
    simp only [List.all_eq_true, decide_eq_true_eq, List.mem_range]
    intro b hb
    obtain ⟨y, hy, _⟩ := h.cls b hb
    exact (List.getElem?_eq_some_iff.1 hy).1
  have := h.l1
  have := h.l2
  rw [h3, h4]
  simp
  omega
theorem Built.acpt (h : Built x n ls L d) (R : Rt x n) (k : Nat) (σ : List Bool) (hk : L[k]? = some σ) (S : Int → Prop) (hs : IsSet n S σ) : df.acpt d k = true ↔ S x.e := by
  unfold df.acpt
  rw [h.acc, List.getElem?_map, hk]
  have h1 := R.e
  have h2 : x.e.toNat < σ.length := by rw [hs.len]; omega
  simp only [Option.map_some, Option.getD_some, List.getD_eq_getElem?_getD, List.getElem?_eq_getElem h2]
  rw [hs.mem _ h2, show ((x.e.toNat : Nat) : Int) = x.e by omega]
end
/-- what is taken from the k-th byte on is what is not so far -/
theorem takes {x : Nfa} {n : Nat} {ls : List Nat} {L : List (List Bool)} {d : df.Dfa} (R : Rt x n) (h : Built x n ls L d) (s : ByteArray) (at' : Nat) : ∀ f k q (es : List Int), at' + k + f = s.size →
    SoFar x (df.byteAt s) at' k es → (q = -1 ∧ (∀ t, ¬ Base x (df.byteAt s) at' k t) ∨ ∃ (j : Nat) (σ : List Bool), q = (j : Int) ∧ L[j]? = some σ ∧ IsSet n (nf.Reach x (Base x (df.byteAt s) at' k)) σ) →
    IsRuns x (df.byteAt s) at' s.size (es ++ df.ends d s f q (at' + k)) := by
  intro f
  induction f with
  | zero =>
    intro k q es hk hso hq
    rcases hq with ⟨rfl, hn⟩ | ⟨j, σ, rfl, hj, hσ⟩
    · rw [df.ends_neg d s 0 _ _ (by omega), List.append_nil]
      exact hso.none (by omega) hn
    · rw [df.ends_zero]
      have ha := h.acpt R j σ hj _ hσ
      cases hb : df.acpt d j with
      | true =>
        unfold df.here
        rw [hb, if_pos rfl]
        exact (hso.yes (ha.1 hb)).all (by omega)
      | false =>
        unfold df.here
        rw [hb]
        simp only [Bool.false_eq_true, if_false, List.append_nil]
        exact (hso.no (fun e => by rw [ha.2 e] at hb; cases hb)).all (by omega)
  | succ f ih =>
    intro k q es hk hso hq
    rcases hq with ⟨rfl, hn⟩ | ⟨j, σ, rfl, hj, hσ⟩
    · rw [df.ends_neg d s _ _ _ (by omega), List.append_nil]
      exact hso.none (by omega) hn
    · rw [df.ends_succ, ← List.append_assoc]
      have ha := h.acpt R j σ hj _ hσ
      have hin : ∀ t, nf.Reach x (Base x (df.byteAt s) at' k) t → 0 ≤ t ∧ t < (n : Int) := by
        refine reach_in R ?_
        cases k with
        | zero => intro t ht; rw [show t = x.s from ht]; exact R.s
        | succ k => intro t ht; exact over_in R t ht
      obtain ⟨τ, hτ, hgo⟩ := h.go j σ hj (df.byteAt s (at' + k)) (df.byte_lt _ _)
      have hov : ∀ t, Over x (df.byteAt s (at' + k)) (On σ) t ↔ Base x (df.byteAt s) at' (k + 1) t := fun t =>
        ⟨fun r => over_mono (fun u hu => (hσ.on hin u).1 hu) r, fun r => over_mono (fun u hu => (hσ.on hin u).2 hu) r⟩
      have hτ2 : IsSet n (nf.Reach x (Base x (df.byteAt s) at' (k + 1))) τ := hτ.congr fun i _ => ⟨fun r => r.mono fun t => (hov t).1, fun r => r.mono fun t => (hov t).2⟩
      have hgo2 : df.nxt d j (d.cls (df.byteAt s (at' + k))) = -1 ∧ (∀ t, ¬ Base x (df.byteAt s) at' (k + 1) t) ∨ ∃ (j' : Nat) (σ' : List Bool), df.nxt d j (d.cls (df.byteAt s (at' + k))) = (j' : Int) ∧ L[j']? = some σ' ∧ IsSet n (nf.Reach x (Base x (df.byteAt s) at' (k + 1))) σ' := by
        rcases hgo with ⟨e1, e2⟩ | ⟨j', e1, e2⟩
        · refine .inl ⟨e1, fun t ht => ?_⟩
          have h1 := over_in R t ht
          have h2 := (off_iff hτ2).1 e2 t.toNat (by omega)
          rw [show ((t.toNat : Nat) : Int) = t by omega] at h2
          exact h2 (.base ht)
        · exact .inr ⟨j', τ, e1, e2, hτ2⟩
      have hs2 : SoFar x (df.byteAt s) at' (k + 1) (es ++ df.here d j (at' + k)) := by
        unfold df.here
        cases hb : df.acpt d j with
        | true => exact hso.yes (ha.1 hb)
        | false =>
          simp only [Bool.false_eq_true, if_false, List.append_nil]
          exact hso.no (fun e => by rw [ha.2 e] at hb; cases hb)
      have := ih (k + 1) _ _ (by omega) hs2 hgo2
      rw [show at' + (k + 1) = at' + k + 1 by omega] at this
      exact this
theorem takes_all {x : Nfa} {n : Nat} {ls : List Nat} {L : List (List Bool)} {d : df.Dfa} (R : Rt x n) (h : Built x n ls L d) (hL : L.length ≤ 400) (s : ByteArray) (at' : Nat) (hat : at' ≤ s.size) : IsRuns x (df.byteAt s) at' s.size (df.ends d s (s.size - at') 0 at') := by
  obtain ⟨σ, h1, h2⟩ := h.nums.first
  have := takes R h s at' (s.size - at') 0 0 [] (by omega) (.zero x _ at') (.inr ⟨0, σ, rfl, h1, h2⟩)
  simpa using this

/-! which sets are reached -/
inductive RSet (x : Nfa) (n : Nat) : List Bool → Prop
  | first {σ : List Bool} : IsSet n (Begin x) σ → RSet x n σ
  | step {σ τ : List Bool} {c : Nat} : RSet x n σ → c < 256 → IsSet n (To x c σ) τ → τ ≠ off n → RSet x n τ
theorem Nums.reached {x : Nfa} {n : Nat} {L : List (List Bool)} (h : Nums x n L) : ∀ (k : Nat) σ, L[k]? = some σ → RSet x n σ := by
  intro k
  induction k using Nat.strongRecOn with
  | ind k ih =>
    intro σ hk
    cases k with
    | zero =>
      obtain ⟨τ, h1, h2⟩ := h.first
      rw [h1] at hk
      cases hk
      exact .first h2
    | succ k =>
      obtain ⟨j, c, ρ, h1, h2, h3, h4⟩ := h.par k σ hk
      exact .step (ih j h1 ρ h3) h2 h4 (h.ne σ (List.mem_of_getElem? hk))
theorem Built.closed {x : Nfa} {n : Nat} {ls : List Nat} {L : List (List Bool)} {d : df.Dfa} (h : Built x n ls L d) {σ : List Bool} (r : RSet x n σ) : σ ∈ L := by
  induction r with
  | first hs =>
    obtain ⟨τ, h1, h2⟩ := h.nums.first
    rw [hs.uniq h2]
    exact List.mem_of_getElem? h1
  | step hr hc ht hne ih =>
    obtain ⟨k, hk⟩ := List.getElem?_of_mem ih
    obtain ⟨τ, h1, h2⟩ := h.go k _ hk _ hc
    rw [ht.uniq h1]
    rcases h2 with ⟨_, e⟩ | ⟨j, _, e⟩
    · exact absurd (ht.uniq h1 ▸ e) hne
    · exact List.mem_of_getElem? e
theorem few_of : ∀ {L M : List (List Bool)}, L.Nodup → (∀ a ∈ L, a ∈ M) → L.length ≤ M.length
  | [], _, _, _ => Nat.zero_le _
  | a :: L, M, h, hs => by
    have h1 := List.nodup_cons.1 h
    have h2 : L.length ≤ (M.erase a).length := few_of h1.2 fun b hb => (List.mem_erase_of_ne (fun (e : b = a) => h1.1 (by rw [← e]; exact hb))).2 (hs b (List.mem_cons_of_mem _ hb))
    have h3 := List.length_erase_of_mem (hs a List.mem_cons_self)
    have h4 := List.length_pos_of_mem (hs a List.mem_cons_self)
    simp
    omega
/-- each state is reached -/
theorem Built.way {x : Nfa} {n : Nat} {ls : List Nat} {L : List (List Bool)} {d : df.Dfa} (h : Built x n ls L d) (k : Nat) (hk : k + 1 < L.length) : ∃ j b, j < k + 1 ∧ b < 256 ∧ df.nxt d j (d.cls b) = ((k + 1 : Nat) : Int) := by
  obtain ⟨j, c, σ, h1, h2, h3, h4⟩ := h.nums.par k _ (List.getElem?_eq_getElem hk)
  obtain ⟨τ, h5, h6⟩ := h.go j σ h3 c h2
  have e := h4.uniq h5
  refine ⟨j, c, h1, h2, ?_⟩
  rcases h6 with ⟨_, e2⟩ | ⟨i, e1, e2⟩
  · exact absurd (e ▸ e2) (h.nums.ne _ (List.getElem_mem hk))
  · obtain ⟨hi, e3⟩ := List.getElem?_eq_some_iff.1 e2
    rw [e1]
    have : i = k + 1 := (List.getElem_inj h.nums.nd).1 (e3.trans e.symm)
    rw [this]
end Go.Proofs.Ytkdkibnjfgcppaa.bd

namespace Go.Proofs.Ytkdkibnjfgcppaa.st
open Go.ChangeShapes Go.WideShapes Go.ChangeAt Go.RowKit
set_option linter.unusedVariables false
set_option maxRecDepth 10000

/-- a set's block -/
def Blk (w : World) (g : Nat) (q : Q4) : Prop := w.heap[g]? = some (.cells #[.int .u64 q.a, .int .u64 q.b, .int .u64 q.c, .int .u64 q.d] 45 (0, 0))

theorem Blk.lt {w : World} {g : Nat} {q : Q4} (h : Blk w g q) : g < w.heap.size := (Array.getElem?_eq_some_iff.1 h).1
theorem Blk.c0 {w : World} {g : Nat} {q : Q4} (h : Blk w g q) : w.cell? ⟨g, 0, none⟩ = some (.int .u64 q.a) := by rw [Lib.cell_of_heap h]; rfl
theorem Blk.c1 {w : World} {g : Nat} {q : Q4} (h : Blk w g q) : w.cell? ⟨g, 1, none⟩ = some (.int .u64 q.b) := by rw [Lib.cell_of_heap h]; rfl
theorem Blk.c2 {w : World} {g : Nat} {q : Q4} (h : Blk w g q) : w.cell? ⟨g, 2, none⟩ = some (.int .u64 q.c) := by rw [Lib.cell_of_heap h]; rfl
theorem Blk.c3 {w : World} {g : Nat} {q : Q4} (h : Blk w g q) : w.cell? ⟨g, 3, none⟩ = some (.int .u64 q.d) := by rw [Lib.cell_of_heap h]; rfl
theorem Blk.fz {w : World} {g : Nat} {q : Q4} (h : Blk w g q) (k : Nat) : w.frozen? ⟨g, k, none⟩ = false := Lib.frozen_of_heap h k
theorem Blk.later {w w' : World} {g : Nat} {q : Q4} (h : Blk w g q) (b : Below w.heap.size w w') : Blk w' g q := by unfold Blk; rw [b.block g h.lt]; exact h

theorem set_heap (w : World) (g : Nat) (cs : Array Value) (T : TypeId) (i : Nat) (x : Value) (h : w.heap[g]? = some (.cells cs T (0, 0))) : (w.setCell ⟨g, i, none⟩ x).heap[g]? = some (.cells (cs.setIfInBounds i x) T (0, 0)) := by
  show (w.heap.modify g _)[g]? = _
  rw [Array.getElem?_modify, if_pos rfl, h]
  rfl
theorem touch_set (w : World) (g i : Nat) (x : Value) : w.grownBy (w.setCell ⟨g, i, none⟩ x) (some g) :=
  ⟨rfl, rfl, rfl, by simp, fun k _ hne => Below.heap_setCell _ _ _ _ (fun e => hne (congrArg some e))⟩
theorem touch_drew {w w1 : World} {row : Option Nat} (h : w.grownBy w1 row) : w.grownBy w1.drew row := ⟨h.os, h.tape, h.output, h.size, h.block⟩


/-- a set that is handed back through a cell -/
theorem ret25 {fn : Func} {p : Tmp} (h : fn.results = #[.cell p 45]) {a : Act} {W : World} {R : Ending → World → Prop} (g : Nat) (q : Q4) (hp : a.tmps.getD p undef = .pointer (some ⟨g, 0, none⟩)) (hb : Blk W g q) (hd : a.defers = [])
    (hR : R (.returned (.agg #[.int .u64 q.a, .int .u64 q.b, .int .u64 q.c, .int .u64 q.d])) W) : bodyPost Try.prog fn R .ret a W :=
  bodyPost_ret (results_cell_row h _ _ g 45 _ (0, 0) _ hp hb Try.underlying45 rfl (by kernel_rfl)) hd hR
theorem blk_new (w : World) (q : Q4) : Blk (w.alloc (.cells #[.int .u64 q.a, .int .u64 q.b, .int .u64 q.c, .int .u64 q.d] 45)) w.heap.size q := heap_alloc_new w _
theorem blk_new2 (w : World) (o : Obj) (q : Q4) : Blk ((w.alloc o).alloc (.cells #[.int .u64 q.a, .int .u64 q.b, .int .u64 q.c, .int .u64 q.d] 45)) (w.heap.size + 1) q := heap_alloc2_new w _ _

theorem wth_0 (q : Q4) (n m : Nat) (h : n / 64 = 0) (hm : n % 64 = m) : wth q n = ⟨q.a ||| 2 ^ m, q.b, q.c, q.d⟩ := by unfold wth; rw [h, hm]; rfl
theorem wth_1 (q : Q4) (n m : Nat) (h : n / 64 = 1) (hm : n % 64 = m) : wth q n = ⟨q.a, q.b ||| 2 ^ m, q.c, q.d⟩ := by unfold wth; rw [h, hm]; rfl
theorem wth_2 (q : Q4) (n m : Nat) (h : n / 64 = 2) (hm : n % 64 = m) : wth q n = ⟨q.a, q.b, q.c ||| 2 ^ m, q.d⟩ := by unfold wth; rw [h, hm]; rfl
theorem wth_3 (q : Q4) (n m : Nat) (h : n / 64 = 3) (hm : n % 64 = m) : wth q n = ⟨q.a, q.b, q.c, q.d ||| 2 ^ m⟩ := by unfold wth; rw [h, hm]; rfl

def PutIs (q : Q4) (n : Nat) (r : Q4) : Prop := ∀ g w, Blk w g q → Calls Try.prog 70 #[.pointer (some ⟨g, 0, none⟩), .int .u8 n] w fun e w' => e = .returned (.tuple #[]) ∧ Blk w' g r ∧ w.grownBy w' (some g)

set_option maxHeartbeats 1000000 in
set_option maxRecDepth 100000 in
theorem put_any (q : Q4) (hq : Fits q) (n : Nat) (hn : n < 256) (r : Q4) (hr : r = wth q n) : PutIs q n r := by
  intro g w hb
  obtain ⟨m, hm, hm64⟩ : ∃ m : Nat, n % 64 = m ∧ m < 64 := ⟨_, rfl, by omega⟩
  have e2 : ((n : Int) % 64) = m := by omega
  rcases quarter n hn with h | h | h | h
  · have e1 : ((n : Int) / 64) = 0 := by omega
    have e3 := bit_or q.a m hq.a hm64
    rw [wth_0 q n m h hm] at hr
    subst hr
    have c := hb.c0
    have f := hb.fz 0
    clear h hm hn
    go_enter Try.func70, Try.ntmps70
    go_region
    all_goals go_end0
    exact ⟨rfl, set_heap w g _ _ 0 _ hb, touch_drew (touch_set _ _ _ _)⟩
  · have e1 : ((n : Int) / 64) = 1 := by omega
    have e3 := bit_or q.b m hq.b hm64
    rw [wth_1 q n m h hm] at hr
    subst hr
    have c := hb.c1
    have f := hb.fz 1
    clear h hm hn
    go_enter Try.func70, Try.ntmps70
    go_region
    all_goals go_end0
    exact ⟨rfl, set_heap w g _ _ 1 _ hb, touch_drew (touch_set _ _ _ _)⟩
  · have e1 : ((n : Int) / 64) = 2 := by omega
    have e3 := bit_or q.c m hq.c hm64
    rw [wth_2 q n m h hm] at hr
    subst hr
    have c := hb.c2
    have f := hb.fz 2
    clear h hm hn
    go_enter Try.func70, Try.ntmps70
    go_region
    all_goals go_end0
    exact ⟨rfl, set_heap w g _ _ 2 _ hb, touch_drew (touch_set _ _ _ _)⟩
  · have e1 : ((n : Int) / 64) = 3 := by omega
    have e3 := bit_or q.d m hq.d hm64
    rw [wth_3 q n m h hm] at hr
    subst hr
    have c := hb.c3
    have f := hb.fz 3
    clear h hm hn
    go_enter Try.func70, Try.ntmps70
    go_region
    all_goals go_end0
    exact ⟨rfl, set_heap w g _ _ 3 _ hb, touch_drew (touch_set _ _ _ _)⟩

theorem wrap_lt (x : Nat) (h : x < 18446744073709551616) : IntKind.u64.wrap (x : Int) = (x : Int) := by
  rw [IntKind.wrap_u64]
  omega
theorem and_lit (x m : Nat) (hx : x < 18446744073709551616) (hm : m < 18446744073709551616) : bits .and .u64 (x : Int) (m : Int) = ((x &&& m : Nat) : Int) := u64_and_nat x m hx hm

theorem set4 {w : World} {g : Nat} {q0 : Q4} (h : Blk w g q0) (q : Q4) : Blk ((((w.setCell ⟨g, 0, none⟩ (.int .u64 q.a)).setCell ⟨g, 1, none⟩ (.int .u64 q.b)).setCell ⟨g, 2, none⟩ (.int .u64 q.c)).setCell ⟨g, 3, none⟩ (.int .u64 q.d)) g q :=
  set_heap _ g _ _ 3 _ (set_heap _ g _ _ 2 _ (set_heap _ g _ _ 1 _ (set_heap w g _ _ 0 _ h)))
theorem Below.set4 {n : Nat} {w w' : World} (h : Below n w w') {g : Nat} (hg : n ≤ g) (q : Q4) : Below n w ((((w'.setCell ⟨g, 0, none⟩ (.int .u64 q.a)).setCell ⟨g, 1, none⟩ (.int .u64 q.b)).setCell ⟨g, 2, none⟩ (.int .u64 q.c)).setCell ⟨g, 3, none⟩ (.int .u64 q.d)) :=
  (((h.setCell (p := ⟨g, 0, none⟩) hg _).setCell (p := ⟨g, 1, none⟩) hg _).setCell (p := ⟨g, 2, none⟩) hg _).setCell (p := ⟨g, 3, none⟩) hg _
theorem set4_other {w : World} {g h : Nat} {q0 : Q4} (b : Blk w g q0) (hne : g ≠ h) (q : Q4) : Blk ((((w.setCell ⟨h, 0, none⟩ (.int .u64 q.a)).setCell ⟨h, 1, none⟩ (.int .u64 q.b)).setCell ⟨h, 2, none⟩ (.int .u64 q.c)).setCell ⟨h, 3, none⟩ (.int .u64 q.d)) g q0 := by
  unfold Blk
  rw [Below.heap_setCell _ _ _ _ hne, Below.heap_setCell _ _ _ _ hne, Below.heap_setCell _ _ _ _ hne, Below.heap_setCell _ _ _ _ hne]
  exact b
theorem Blk.other {w w' : World} {g h : Nat} {q : Q4} (b : Blk w g q) (t : w.grownBy w' (some h)) (hne : g ≠ h) : Blk w' g q := by
  unfold Blk
  rw [t.block g b.lt (fun e => hne (Option.some.inj e))]
  exact b

def codes (s : ByteArray) : List Nat := s.data.toList.map UInt8.toNat
theorem codes_take (s : ByteArray) (i : Nat) (h : i < s.size) : (codes s).take (i + 1) = (codes s).take i ++ [s[i].toNat] := by
  have hl : i < s.data.toList.length := by simpa using h
  unfold codes
  rw [← List.map_take, ← List.map_take, List.take_succ_eq_append_getElem hl, List.map_append]
  rfl
theorem codes_length (s : ByteArray) : (codes s).length = s.size := by unfold codes; simp
theorem ofl_snoc (l : List Nat) (n : Nat) : ofl (l ++ [n]) = wth (ofl l) n := by unfold ofl; rw [List.foldl_append]; rfl

theorem index_0 (a b c d : Value) (W : World) : (Instr.index 43 (.agg #[a, b, c, d]) (.int .i64 0)).run Try.prog W = .ok a W := by
  simp [Instr.index, asIntOf, run_underlying Try.underlying43, part, Try.isAgg42, Try.sizeOf42]
theorem index_1 (a b c d : Value) (W : World) : (Instr.index 43 (.agg #[a, b, c, d]) (.int .i64 1)).run Try.prog W = .ok b W := by
  simp [Instr.index, asIntOf, run_underlying Try.underlying43, part, Try.isAgg42, Try.sizeOf42]
theorem index_2 (a b c d : Value) (W : World) : (Instr.index 43 (.agg #[a, b, c, d]) (.int .i64 2)).run Try.prog W = .ok c W := by
  simp [Instr.index, asIntOf, run_underlying Try.underlying43, part, Try.isAgg42, Try.sizeOf42]
theorem index_3 (a b c d : Value) (W : World) : (Instr.index 43 (.agg #[a, b, c, d]) (.int .i64 3)).run Try.prog W = .ok d W := by
  simp [Instr.index, asIntOf, run_underlying Try.underlying43, part, Try.isAgg42, Try.sizeOf42]

theorem heap3 (w : World) (A B C : Obj) : (((w.alloc A).alloc B).alloc C).heap[w.heap.size + 1 + 1]? = some C := by
  have h := heap_alloc_new ((w.alloc A).alloc B) C
  simp only [World.size_alloc] at h
  exact h

def JoinIs (q r s : Q4) : Prop := ∀ w, Calls Try.prog 78 #[.agg #[.int .u64 q.a, .int .u64 q.b, .int .u64 q.c, .int .u64 q.d], .agg #[.int .u64 r.a, .int .u64 r.b, .int .u64 r.c, .int .u64 r.d]] w fun e w' => e = .returned (.agg #[.int .u64 s.a, .int .u64 s.b, .int .u64 s.c, .int .u64 s.d]) ∧ Below w.heap.size w w'

set_option maxHeartbeats 1000000 in
set_option maxRecDepth 100000 in
theorem join_any (q r s : Q4) (hq : Fits q) (hr : Fits r) (hs : s = jn q r) : JoinIs q r s := by
  intro w
  have e0 := u64_or_nat q.a r.a hq.a hr.a
  have e1 := u64_or_nat q.b r.b hq.b hr.b
  have e2 := u64_or_nat q.c r.c hq.c hr.c
  have e3 := u64_or_nat q.d r.d hq.d hr.d
  have i0 := index_0
  have i1 := index_1
  have i2 := index_2
  have i3 := index_3
  subst hs
  go_enter Try.func78, Try.ntmps78
  go_wp2
  refine wp_loop_rounds 5 ?_
  rw [rounds_succ]
  go_wp2
  rw [rounds_succ]
  go_wp2
  rw [rounds_succ]
  go_wp2
  rw [rounds_succ]
  go_wp2
  rw [rounds_succ]
  go_wp2
  refine ret25 Try.results78 (w.heap.size + 1 + 1) ⟨q.a ||| r.a, q.b ||| r.b, q.c ||| r.c, q.d ||| r.d⟩ rfl (heap3 w _ _ _) rfl ?_
  exact ⟨rfl, (((Below.refl _ _).alloc (Nat.le_refl _) _).alloc (by simp) _).alloc (by simp; omega) _⟩

theorem turn_all (x : Nat) (h : x < 18446744073709551616) : bits .xor .u64 IntKind.u64.max (x : Int) = ((2 ^ 64 - (x + 1) : Nat) : Int) := by
  have h1 := u64_xor_nat 18446744073709551615 x (by decide) h
  have e : 18446744073709551615 ^^^ x = 2 ^ 64 - (x + 1) := by
    apply Nat.eq_of_testBit_eq
    intro i
    rw [Nat.testBit_xor, Nat.testBit_two_pow_sub_succ (show x < 2 ^ 64 from h), show (18446744073709551615 : Nat) = 2 ^ 64 - 1 from by decide, Nat.testBit_two_pow_sub_one]
    by_cases hi : i < 64
    · simp [hi]
    · rw [Nat.testBit_lt_two_pow (Nat.lt_of_lt_of_le (show x < 2 ^ 64 from h) (Nat.pow_le_pow_right (by omega) (by omega)))]
      simp [hi]
  rw [e] at h1
  exact h1

theorem info5 : (Try.prog.info? 5).map (fun i => (i.zero, i.size, i.bytes)) = some (some (.int .u8 0), 1, 1) := by kernel_rfl
theorem cells_one {n : Nat} (h : n < 256) : Lib.byteCells [UInt8.ofNat n] = [.int .u8 (n : Int)] := by
  simp [Lib.byteCells, Nat.mod_eq_of_lt h]
theorem owns_below {B : Nat} {e : TypeId} {k : Nat} {v : Value} {n : Nat} {xs : List Value} {w w' : World} (h : w.ownsRowF B e k v n xs) (hb : Below w.heap.size w w') : w'.ownsRowF B e k v n xs :=
  h.kept (row := none) ⟨hb.os, hb.tape, hb.output, hb.size, fun k hk _ => hb.block k hk⟩ (by cases v.ownBlock <;> simp)
theorem buf_below {B : Nat} {v : Value} {n : Nat} {xs : List Value} {W0 w w' : World} (h : Lib.OwnBuf B 5 v n xs W0 w) (hb : Below w.heap.size w w') : Lib.OwnBuf B 5 v n xs W0 w' :=
  ⟨owns_below h.1 hb, h.2.1.trans (hb.mono h.2.2), Nat.le_trans h.2.2 hb.size⟩
theorem conv_own {B : Nat} {v : Value} {acc : List UInt8} {w : World} (h : w.ownsRowF B 5 1 v acc.length (Lib.byteCells acc)) :
    Sem.run Try.prog (convert 37 9 v) w = .ok (.string ⟨acc.toArray⟩) w := by
  rcases h.2 with ⟨rfl, h0⟩ | ⟨g, cap, cur, fz, rfl, _, hg, _, hcap, _, hcs, htk⟩
  · have : acc = [] := List.length_eq_zero_iff.1 h0
    subst this
    exact run_convert_bytes_nil w 37 5 Try.underlying37 Try.underlying5 0 0 9 Try.underlying9
  · refine run_convert_bytes_back w 37 9 5 ⟨g, 0, none⟩ cap acc Try.underlying37 Try.underlying5 Try.underlying9 fun j hj => ?_
    have hplain : (⟨g, 0, none⟩ : Addr).add j = ⟨g, j, none⟩ := by unfold Addr.add; simp; omega
    have hj2 : j < cur.toList.length := by simp; omega
    have e : cur.toList[j]? = some (.int .u8 (acc[j].toNat : Int)) := by
      have h1 : (cur.toList.take (acc.length * 1))[j]? = (Lib.byteCells acc)[j]? := by rw [htk]
      rw [List.getElem?_take_of_lt (by omega)] at h1
      rw [h1]
      simp [Lib.byteCells, hj]
    rw [hplain]
    rw [Array.getElem?_toList] at e
    simp [World.cell?, hg, e]

/-- the text of a set's bytes below a number -/
def upto (q : Q4) (i : Nat) : List UInt8 := ((List.range i).filter (has q)).map UInt8.ofNat
def text (q : Q4) : ByteArray := ⟨(upto q 256).toArray⟩
theorem upto_in {q : Q4} {i : Nat} (h : has q i = true) : upto q (i + 1) = upto q i ++ [UInt8.ofNat i] := by
  unfold upto
  rw [List.range_succ, List.filter_append, List.map_append]
  simp [h]
theorem upto_out {q : Q4} {i : Nat} (h : has q i = false) : upto q (i + 1) = upto q i := by
  unfold upto
  rw [List.range_succ, List.filter_append, List.map_append]
  simp [h]
theorem upto_length (q : Q4) (i : Nat) : (upto q i).length ≤ i := by
  unfold upto
  have := List.length_filter_le (has q) (List.range i)
  simpa using this
theorem codes_text (q : Q4) : codes (text q) = mem q := by
  show ((upto q 256).map UInt8.toNat) = _
  unfold upto mem
  rw [List.map_map]
  have : ∀ l : List Nat, (∀ n ∈ l, n < 256) → l.map (UInt8.toNat ∘ UInt8.ofNat) = l := by
    intro l hl
    induction l with
    | nil => rfl
    | cons x l ih =>
      rw [List.map_cons, ih (fun n hn => hl n (by simp [hn]))]
      have := hl x (by simp)
      simp [Nat.mod_eq_of_lt this]
  exact this _ fun n hn => by simpa using (List.mem_filter.1 hn).1
theorem text_size (q : Q4) : (text q).size = cnt q := by
  have := codes_length (text q)
  rw [codes_text] at this
  exact this.symm

/-- the set of what is told by a test -/
def suchThat (p : Nat → Bool) : Q4 := ofl ((List.range 256).filter p)
theorem has_such (p : Nat → Bool) (n : Nat) (h : n < 256) : has (suchThat p) n = p n := by
  unfold suchThat
  rw [has_ofl _ _ h]
  cases hp : p n <;> simp [hp, h]
theorem fits_such (p : Nat → Bool) : Fits (suchThat p) := fits_ofl _

/-- a set that is being made, up to a byte -/
structure Upto (q : Q4) (p : Nat → Bool) (lo i : Nat) : Prop where
  fits : Fits q
  here : ∀ n, n < 256 → has q n = (decide (lo ≤ n) && decide (n < i) && p n)
theorem Upto.start (p : Nat → Bool) (lo : Nat) : Upto none4 p lo lo := ⟨fits_none, fun n _ => by
  rw [has_none]
  by_cases h : lo ≤ n
  · have : decide (n < lo) = false := by simp; omega
    simp [this]
  · simp [h]⟩
theorem Upto.out {q : Q4} {p : Nat → Bool} {lo i : Nat} (h : Upto q p lo i) (hi : p i = false) : Upto q p lo (i + 1) := ⟨h.fits, fun n hn => by
  rw [h.here n hn]
  by_cases e : n = i
  · subst e; simp [hi]
  · have : decide (n < i + 1) = decide (n < i) := by rw [decide_eq_decide]; omega
    rw [this]⟩
theorem Upto.put {q : Q4} {p : Nat → Bool} {lo i : Nat} (h : Upto q p lo i) (hi : p i = true) (hlo : lo ≤ i) : Upto (wth q i) p lo (i + 1) := ⟨fits_wth h.fits i, fun n hn => by
  rw [has_wth q i n hn, h.here n hn]
  by_cases e : n = i
  · subst e; simp [hi, hlo]
  · have : decide (n < i + 1) = decide (n < i) := by rw [decide_eq_decide]; omega
    rw [this]; simp [e]⟩
theorem Upto.done {q : Q4} {p : Nat → Bool} {lo i : Nat} (h : Upto q p lo i) (r : Q4) (hr : r = suchThat (fun n => decide (lo ≤ n) && decide (n < i) && p n)) : r = q := by
  rw [hr]
  exact ext (fits_such _) h.fits fun n hn => by rw [has_such _ n hn, h.here n hn]

def RangeIs (lo hi : Nat) (r : Q4) : Prop := ∀ w, Calls Try.prog 56 #[.int .u8 lo, .int .u8 hi] w fun e w' => e = .returned (.agg #[.int .u64 r.a, .int .u64 r.b, .int .u64 r.c, .int .u64 r.d]) ∧ Below w.heap.size w w'
def rng (lo hi : Nat) : Q4 := suchThat (fun n => decide (lo ≤ n) && decide (n ≤ hi))

set_option maxHeartbeats 1000000 in
set_option maxRecDepth 100000 in
theorem range_any (lo hi : Nat) (hlo : lo < 256) (hhi : hi < 256) (r : Q4) (hr : r = rng lo hi) : RangeIs lo hi r := by
  intro w
  have HR : Hid (r = rng lo hi) := hr
  clear hr
  go_enter Try.func56, Try.ntmps56
  go_wp2
  go_loopw [6] (fun x wr => ∃ (i : Nat) (q : Q4), x = .int .i64 i ∧ lo ≤ i ∧ (i ≤ hi + 1 ∨ i = lo) ∧ Blk wr (w.heap.size + 1) q ∧ Blk wr w.heap.size none4 ∧ Below w.heap.size w wr ∧ Hid (Upto q (fun _ => true) lo i)) (fun x _ => 257 - (intOf x).toNat)
  case atStart => exact ⟨lo, none4, rfl, by omega, by omega, heap_alloc2_new w _ _, heap_alloc2_old w _ _, ((Below.refl _ _).alloc (Nat.le_refl _) _).alloc (by simp) _, Upto.start _ _⟩
  case round =>
    obtain ⟨i, q, rfl, hli, hih, b1, b0, hB, HU⟩ := hrel
    by_cases hin : i ≤ hi
    · have hp := put_any q HU.out.fits i (by omega) _ rfl
      have HN : Hid (Upto (wth q i) (fun _ => true) lo (i + 1)) := HU.out.put rfl hli
      generalize wth q i = q2 at *
      clear HU hih
      go_wp2_with (go_at_call 70; refine (hp _ _ b1).mono ?_; rintro e w1 ⟨rfl, b2, t2⟩)
      go_roundw
      case rel => exact ⟨i + 1, q2, by go_num, by omega, .inl (by omega), b2, b0.other t2 (by omega), hB.grown t2 hB.size (by intro k hk; simp at hk; omega), HN⟩
      case measure => simp [intOf]; omega
    · have HE : Hid (r = q) := HU.out.done r (by
        rw [HR.out]
        unfold rng
        congr 1
        funext n
        by_cases h1 : lo ≤ n
        · have : decide (n ≤ hi) = decide (n < i) := by rw [decide_eq_decide]; omega
          simp [this, h1]
        · simp [h1])
      have c0 := b1.c0
      have c1 := b1.c1
      have c2 := b1.c2
      have c3 := b1.c3
      have d0 := b0.c0
      have d1 := b0.c1
      have d2 := b0.c2
      have d3 := b0.c3
      have f0 := b0.fz 0
      have f1 := b0.fz 1
      have f2 := b0.fz 2
      have f3 := b0.fz 3
      clear HU HR hih
      go_wp2
      refine ret25 Try.results56 w.heap.size q rfl (set4 b0 q) rfl ?_
      exact ⟨by rw [HE.out], Below.set4 hB (Nat.le_refl _) q⟩

theorem heap3_mid (w : World) (A B C : Obj) : (((w.alloc A).alloc B).alloc C).heap[w.heap.size + 1]? = some B := by
  rw [Lib.alloc_old _ _ _ (by simp)]
  exact heap_alloc2_new w A B
theorem heap3_old (w : World) (A B C : Obj) : (((w.alloc A).alloc B).alloc C).heap[w.heap.size]? = some A := by
  rw [Lib.alloc_old _ _ _ (by simp; omega)]
  exact heap_alloc2_old w A B

theorem codes_append (s t : ByteArray) : codes (s ++ t) = codes s ++ codes t := by
  unfold codes
  rw [ByteArray.toList_data_append, List.map_append]
theorem ofl_both {q r : Q4} (hq : Fits q) (hr : Fits r) : jn q r = ofl (codes (text q ++ text r)) := by
  refine ext (fits_jn hq hr) (fits_ofl _) fun n hn => ?_
  rw [has_jn _ _ n hn, has_ofl _ n hn, codes_append, codes_text, codes_text]
  unfold mem
  cases h1 : has q n <;> cases h2 : has r n <;> simp [h1, h2, hn]

theorem meet_by {q r : Q4} (hq : Fits q) (hr : Fits r) : mt q r = nt (jn (nt q) (nt r)) := by
  rw [rule1 (fits_nt _) (fits_nt _), rule5 hq, rule5 hr]

theorem u64_range {a : Int} (h : (Lit.int .u64 a).wf = true) : 0 ≤ a ∧ a < 18446744073709551616 := by
  have e1 : IntKind.u64.min = 0 := by decide
  have e2 : IntKind.u64.max = 18446744073709551615 := by decide
  simp [Lit.wf] at h
  rw [e1, e2] at h
  omega
theorem u8_range {a : Int} (h : (Lit.int .u8 a).wf = true) : 0 ≤ a ∧ a < 256 := by
  have e1 : IntKind.u8.min = 0 := by decide
  have e2 : IntKind.u8.max = 255 := by decide
  simp [Lit.wf] at h
  rw [e1, e2] at h
  omega
theorem i64_range {a : Int} (h : (Lit.int .i64 a).wf = true) : -9223372036854775808 ≤ a ∧ a < 9223372036854775808 := by
  have e1 : IntKind.i64.min = -9223372036854775808 := by decide
  simp [Lit.wf] at h
  rw [e1] at h
  omega

def nth (l : List Q4) (i : Nat) : Q4 := l.getD i none4

/-- a value that reads, in a world, as a list of sets -/
def Sets (w : World) (v : Value) (l : List Q4) : Prop :=
  (l = [] ∧ ∃ a cap, v = .slice a 0 cap) ∨
  (∃ b off cap, v = .slice (some ⟨b, off, none⟩) l.length cap ∧ l.length ≤ cap ∧ cap ≤ 9223372036854775807 ∧ b < w.heap.size ∧ ∀ i, i < l.length →
    w.cell? ⟨b, off + i * 4, none⟩ = some (.int .u64 (nth l i).a) ∧ w.cell? ⟨b, off + i * 4 + 1, none⟩ = some (.int .u64 (nth l i).b) ∧ w.cell? ⟨b, off + i * 4 + 2, none⟩ = some (.int .u64 (nth l i).c) ∧ w.cell? ⟨b, off + i * 4 + 3, none⟩ = some (.int .u64 (nth l i).d))

theorem Sets.below {w w' : World} {v : Value} {l : List Q4} (h : Sets w v l) (hb : Below w.heap.size w w') : Sets w' v l := by
  rcases h with h | ⟨b, off, cap, hv, hl, hm, hlt, hc⟩
  · exact .inl h
  · exact .inr ⟨b, off, cap, hv, hl, hm, Nat.lt_of_lt_of_le hlt hb.size, fun i hi => ⟨by rw [hb.cell hlt]; exact (hc i hi).1, by rw [hb.cell hlt]; exact (hc i hi).2.1, by rw [hb.cell hlt]; exact (hc i hi).2.2.1, by rw [hb.cell hlt]; exact (hc i hi).2.2.2⟩⟩

theorem nth_mem (l : List Q4) (i : Nat) (h : i < l.length) : nth l i ∈ l := by
  unfold nth
  rw [List.getD_eq_getElem?_getD, List.getElem?_eq_getElem h]
  exact List.getElem_mem h
theorem take_nth (l : List Q4) (i : Nat) (h : i < l.length) : l.take (i + 1) = l.take i ++ [nth l i] := by
  rw [List.take_succ_eq_append_getElem h]
  unfold nth
  rw [List.getD_eq_getElem?_getD, List.getElem?_eq_getElem h]
  rfl

instance : Inhabited Q4 := ⟨none4⟩

end Go.Proofs.Ytkdkibnjfgcppaa.st

namespace Go.Proofs.Ytkdkibnjfgcppaa.st
open Go.Sort Go.ChangeShapes Go.WideShapes Go.ChangeAt Go.RowKit
set_option linter.unusedVariables false
set_option maxRecDepth 10000

theorem blk_cells (W : World) (q : Q4) (o : Obj) (ho : o = .cells #[.int .u64 q.a, .int .u64 q.b, .int .u64 q.c, .int .u64 q.d] 45) : Blk (W.alloc o) W.heap.size q := by
  rw [ho]
  exact blk_new W q

/-- alike so far -/
def alikeTo (l : List Q4) (b c i : Nat) : Prop := ∀ j, j < i → has (nth l j) b = has (nth l j) c
theorem alikeTo_all (l : List Q4) (b c : Nat) : alikeTo l b c l.length ↔ sig l b = sig l c := by
  rw [sig_eq]
  constructor
  · intro h q hq
    obtain ⟨j, hj, rfl⟩ := List.getElem_of_mem hq
    have := h j hj
    unfold nth at this
    rw [List.getD_eq_getElem?_getD, List.getElem?_eq_getElem hj] at this
    exact this
  · intro h j hj
    exact h _ (nth_mem l j hj)

/-- a row of bytes that the call has made -/
def Row (w : World) (g : Nat) (xs : List Nat) : Prop := w.heap[g]? = some (.cells (xs.map fun n : Nat => Value.int .u8 (n : Int)).toArray 5 (0, 0))
theorem Row.lt {w : World} {g : Nat} {xs : List Nat} (h : Row w g xs) : g < w.heap.size := (Array.getElem?_eq_some_iff.1 h).1
theorem Row.later {w w' : World} {g : Nat} {xs : List Nat} (h : Row w g xs) (b : Below w.heap.size w w') : Row w' g xs := by unfold Row; rw [b.block g h.lt]; exact h
theorem Row.cell {w : World} {g : Nat} {xs : List Nat} (h : Row w g xs) (i : Nat) (hi : i < xs.length) : w.cell? ⟨g, i, none⟩ = some (.int .u8 (xs.getD i 0 : Nat)) := by
  rw [Lib.cell_of_heap h, List.getD_eq_getElem?_getD, List.getElem?_eq_getElem hi]
  simp [hi]
theorem Row.fz {w : World} {g : Nat} {xs : List Nat} (h : Row w g xs) (i : Nat) : w.frozen? ⟨g, i, none⟩ = false := Lib.frozen_of_heap h i
theorem Row.put {w : World} {g : Nat} {xs : List Nat} (h : Row w g xs) (i v : Nat) : Row (w.setCell ⟨g, i, none⟩ (.int .u8 v)) g (xs.set i v) := by
  unfold Row
  rw [set_heap w g _ _ i _ h]
  congr 2
  simp
theorem Row.text {w : World} {g : Nat} {xs : List Nat} (h : Row w g xs) (hx : ∀ x ∈ xs, x < 256) : Sem.run Try.prog (convert 37 9 (.slice (some ⟨g, 0, none⟩) xs.length xs.length)) w = .ok (.string ⟨(xs.map UInt8.ofNat).toArray⟩) w := by
  have h2 := run_convert_bytes_back (P := Try.prog) w 37 9 5 ⟨g, 0, none⟩ xs.length (xs.map UInt8.ofNat) Try.underlying37 Try.underlying5 Try.underlying9 (fun j hj => by
    have hj2 : j < xs.length := by simpa using hj
    have hplain : (⟨g, 0, none⟩ : Addr).add j = ⟨g, j, none⟩ := by unfold Addr.add; simp; omega
    rw [hplain, h.cell j hj2, List.getD_eq_getElem?_getD, List.getElem?_eq_getElem hj2]
    have := hx _ (List.getElem_mem hj2)
    simp [Nat.mod_eq_of_lt this])
  rw [List.length_map] at h2
  exact h2

theorem bit8_or (x m : Nat) (hx : x < 256) (hm : m < 8) : bits .or .u8 (x : Int) (2 ^ m % 256) = ((x ||| 2 ^ m : Nat) : Int) := by
  have hp : (2 : Nat) ^ m < 256 := Nat.lt_of_lt_of_le (Nat.pow_lt_pow_right (by omega) hm) (by decide)
  have h1 : (2 : Int) ^ m % 256 = ((2 ^ m : Nat) : Int) := by
    have e : ((2 : Int) ^ m) = ((2 ^ m : Nat) : Int) := by simp
    rw [e]
    generalize 2 ^ m = y at *
    omega
  rw [h1]
  exact u8_or_nat _ _ hx hp

theorem sig_at (l : List Q4) (b i : Nat) (h : i < l.length) : (sig l b).getD i false = has (nth l i) b := by
  unfold sig nth
  rw [List.getD_eq_getElem?_getD, List.getD_eq_getElem?_getD, List.getElem?_map, List.getElem?_eq_getElem h]
  rfl
theorem pack_in {l : List Q4} {b i : Nat} (hi : i < l.length) (h : has (nth l i) b = true) : packTo (sig l b) (i + 1) = (packTo (sig l b) i).set (i / 8) ((packTo (sig l b) i).getD (i / 8) 0 ||| 2 ^ (i % 8)) := by
  rw [packTo, sig_at l b i hi, h]
  rfl
theorem pack_out {l : List Q4} {b i : Nat} (hi : i < l.length) (h : has (nth l i) b = false) : packTo (sig l b) (i + 1) = packTo (sig l b) i := by
  rw [packTo, sig_at l b i hi, h]
  rfl

def WithinIs (l : List Q4) (b : Nat) (t : ByteArray) : Prop := ∀ v w, Sets w v l → Calls Try.prog 69 #[v, .int .u8 b] w fun e w' => e = .returned (.string t) ∧ Below w.heap.size w w'

theorem make46 (n : Nat) (hn : n ≤ 1000000) (W : World) : (Instr.makeSlice 37 (.int .i64 (n : Int)) (.int .i64 (n : Int))).run Try.prog W = .ok (.slice (some ⟨W.heap.size, 0, none⟩) n n) (W.alloc (.cells (madeCells #[.int .u8 0] n) 5)) :=
  run_make_row' (P := Try.prog) 37 5 (.int .u8 0) 1 Try.underlying37 info5 rfl .i64 .i64 n (by omega) (by omega) W
theorem made_row (W : World) (n : Nat) : Row (W.alloc (.cells (madeCells #[.int .u8 0] n) 5)) W.heap.size (List.replicate n 0) := by
  unfold Row
  rw [heap_alloc_new]
  congr 2
  apply Array.toList_inj.1
  rw [toList_madeCells_one]
  simp

set_option maxHeartbeats 1000000 in
set_option maxRecDepth 100000 in
theorem within_any (l : List Q4) (hf : ∀ q ∈ l, Fits q) (hlen : l.length ≤ 1000000) (b : Nat) (hb : b < 256) (t : ByteArray) (ht : t = ⟨(key l b).toArray⟩) : WithinIs l b t := by
  intro v w hv
  have HT : Hid (t = ⟨(key l b).toArray⟩) := ht
  clear ht
  rcases hv with ⟨rfl, a, cap, rfl⟩ | ⟨g, off, cap, rfl, hl, hm, hlt, hcell⟩
  · have hmk := make46 0 (by omega)
    have hr := made_row w 0
    have htx := hr.text (by simp)
    have hk : key [] b = [] := by simp [key, packTo, sig]
    have HE : Hid (t = ⟨#[]⟩) := by show _ = _; rw [HT.out, hk]
    have hrep : (List.replicate 0 0 : List Nat).length = 0 := rfl
    obtain ⟨w0, hw0⟩ : ∃ w0, w0 = w.alloc (.cells (madeCells #[.int .u8 0] 0) 5) := ⟨_, rfl⟩
    have hB : Below w.heap.size w w0 := by rw [hw0]; exact (Below.refl _ _).alloc (Nat.le_refl _) _
    have hmk2 : (Instr.makeSlice 37 (.int .i64 0) (.int .i64 0)).run Try.prog w = .ok (.slice (some ⟨w.heap.size, 0, none⟩) 0 0) w0 := by rw [hw0]; exact hmk w
    rw [← hw0] at htx
    have htx2 : Sem.run Try.prog (convert 37 9 (.slice (some ⟨w.heap.size, 0, none⟩) 0 0)) w0 = .ok (.string ⟨#[]⟩) w0 := htx
    clear hmk hr htx HT hk hw0
    go_enter Try.func69, Try.ntmps69
    go_wp2
    go_loopw [16] (fun x wr => x = .int .i64 0 ∧ wr = w0) (fun _ _ => 0)
    case atStart => exact ⟨rfl, rfl⟩
    case round =>
      obtain ⟨rfl, rfl⟩ := hrel
      go_wp2
      go_ret
      exact ⟨by rw [HE.out]; rfl, hB⟩
  · obtain ⟨n, hn⟩ : ∃ n, n = (l.length + 7) / 8 := ⟨_, rfl⟩
    have HE1 : Hid (((l.length : Int) + 8 - 1) / 8 = (n : Int)) := by show _ = _; omega
    have hr0 := made_row w n
    obtain ⟨i0, hi0, hz0, hz1, hz2⟩ := info_parts info5
    have hB0 : Below w.heap.size w (w.alloc (.cells (madeCells #[.int .u8 0] n) 5)) := (Below.refl _ _).alloc (Nat.le_refl _) _
    have hn2 : n ≤ 1000000 := by omega
    have HNN : Hid (n = (l.length + 7) / 8) := hn
    clear hn
    go_enter Try.func69, Try.ntmps69
    go_wp2_with (refine wpList_make_row _ rfl (.tmp 12) (.tmp 12) 37 rfl 5 i0 (.int .u8 0) Try.underlying37 hi0 hz0 hz1 rfl .i64 .i64 n (congrArg (Value.int .i64) HE1.out) (congrArg (Value.int .i64) HE1.out) (by rw [hz2]; omega) (by omega) ?_)
    clear HE1 hi0 hz0 hz1 hz2
    go_loopw [16] (fun x wr => ∃ i : Nat, x = .int .i64 i ∧ i ≤ l.length ∧ Row wr w.heap.size (packTo (sig l b) i) ∧ Below w.heap.size w wr) (fun x _ => l.length - (intOf x).toNat)
    case atStart => exact ⟨0, rfl, by omega, by rw [packTo, sig_length, ← HNN.out]; exact hr0, hB0⟩
    case round =>
      obtain ⟨i, rfl, hi, hR, hB⟩ := hrel
      have hpl := packTo_length (sig l b) i
      rw [sig_length, ← HNN.out] at hpl
      by_cases hend : i < l.length
      · obtain ⟨c0, c1, c2, c3⟩ := hcell i hend
        rw [← hB.cell (p := ⟨g, off + i * 4, none⟩) hlt] at c0
        rw [← hB.cell (p := ⟨g, off + i * 4 + 1, none⟩) hlt] at c1
        rw [← hB.cell (p := ⟨g, off + i * 4 + 2, none⟩) hlt] at c2
        rw [← hB.cell (p := ⟨g, off + i * 4 + 3, none⟩) hlt] at c3
        have hfx := hf _ (nth_mem l i hend)
        have hB2 : Below w.heap.size w (wr.alloc (.cells #[.int .u64 (nth l i).a, .int .u64 (nth l i).b, .int .u64 (nth l i).c, .int .u64 (nth l i).d] 45)) := hB.alloc hB.size _
        have hR2 : Row (wr.alloc (.cells #[.int .u64 (nth l i).a, .int .u64 (nth l i).b, .int .u64 (nth l i).c, .int .u64 (nth l i).d] 45)) w.heap.size (packTo (sig l b) i) := hR.later ((Below.refl _ _).alloc (Nat.le_refl _) _)
        by_cases hh : has (nth l i) b = true
        · have hp := has_any (nth l i) hfx b hb true hh.symm
          obtain ⟨k, hk⟩ : ∃ k, k = i / 8 := ⟨_, rfl⟩
          obtain ⟨m, hm8⟩ : ∃ m, m = i % 8 := ⟨_, rfl⟩
          have e2 : ((i : Int) / 8) = (k : Int) := by omega
          have e3 : ((i : Int) % 8) = (m : Int) := by omega
          obtain ⟨y, hy⟩ : ∃ y, y = (packTo (sig l b) i).getD k 0 := ⟨_, rfl⟩
          have hy2 : y < 256 := by rw [hy]; exact getD_lt_256 _ (packTo_lt _ _) _
          have e4 := bit8_or y m hy2 (by omega)
          have hkn : k < n := by have := HNN.out; omega
          have HP : Hid (packTo (sig l b) (i + 1) = (packTo (sig l b) i).set k (y ||| 2 ^ m)) := by show _ = _; rw [pack_in hend hh, hy, hk, hm8]
          have HC : Hid (∀ W, Row W w.heap.size (packTo (sig l b) i) → W.cell? ⟨w.heap.size, k, none⟩ = some (.int .u8 (y : Nat))) := fun W hW => by rw [hW.cell k (by omega), hy]
          generalize nth l i = x at *
          clear hcell hh hk hm8 hy hpl
          go_wp2_with (go_at_call 67; refine (hp _).mono ?_; rintro e w1 ⟨rfl, b1⟩; have hR3 := hR2.later b1; have hB3 := chain hB2 b1; have kc := HC.out _ hR3; have kf := hR3.fz k)
          go_region
          all_goals go_wp2
          all_goals exact ⟨⟨i + 1, by go_num, by omega, by rw [HP.out]; exact hR3.put k _, (hB3.setCell (p := ⟨w.heap.size, k, none⟩) (Nat.le_refl _) _).drew⟩, by simp [intOf]; omega⟩
        · have hfl : has (nth l i) b = false := by simpa using hh
          have hp := has_any (nth l i) hfx b hb false hfl.symm
          have HP : Hid (packTo (sig l b) (i + 1) = packTo (sig l b) i) := pack_out hend hfl
          generalize nth l i = x at *
          clear hcell hh hfl
          go_wp2_with (go_at_call 67; refine (hp _).mono ?_; rintro e w1 ⟨rfl, b1⟩; have hR3 := hR2.later b1; have hB3 := chain hB2 b1)
          go_roundw
          case rel => exact ⟨i + 1, by go_num, by omega, by rw [HP.out]; exact hR3, hB3⟩
          case measure => simp [intOf]; omega
      · have he : i = l.length := by omega
        have htx := hR.text (packTo_lt _ _)
        rw [hpl] at htx
        have HE : Hid (t = ⟨((packTo (sig l b) i).map UInt8.ofNat).toArray⟩) := by show _ = _; rw [HT.out, he]; rfl
        clear HT hcell
        go_wp2
        go_ret
        exact ⟨by rw [HE.out, he]; rfl, hB⟩
end Go.Proofs.Ytkdkibnjfgcppaa.st

namespace Go.Proofs.Ytkdkibnjfgcppaa.st
open Go.Sort Go.ChangeShapes Go.WideShapes Go.ChangeAt Go.RowKit
set_option linter.unusedVariables false
set_option maxRecDepth 10000

/-- an array of 256 bytes in a block of its own -/
def cells36 (xs : List Nat) : Array Value := (xs.map fun n : Nat => Value.int .u8 (n : Int)).toArray
def Arr (w : World) (g : Nat) (xs : List Nat) : Prop := w.heap[g]? = some (.cells (cells36 xs) 22 (0, 0)) ∧ xs.length = 256
theorem Arr.lt {w : World} {g : Nat} {xs : List Nat} (h : Arr w g xs) : g < w.heap.size := (Array.getElem?_eq_some_iff.1 h.1).1
theorem Arr.later {w w' : World} {g : Nat} {xs : List Nat} (h : Arr w g xs) {B : Nat} (b : Below B w w') (hB : g < B) : Arr w' g xs := ⟨by rw [b.block g hB]; exact h.1, h.2⟩
theorem Arr.cell {w : World} {g : Nat} {xs : List Nat} (h : Arr w g xs) (i : Nat) (hi : i < 256) : w.cell? ⟨g, i, none⟩ = some (.int .u8 (xs.getD i 0 : Nat)) := by
  have hi2 : i < xs.length := by rw [h.2]; exact hi
  rw [Lib.cell_of_heap h.1, List.getD_eq_getElem?_getD, List.getElem?_eq_getElem hi2]
  simp [cells36, hi2]
theorem Arr.fz {w : World} {g : Nat} {xs : List Nat} (h : Arr w g xs) (i : Nat) : w.frozen? ⟨g, i, none⟩ = false := Lib.frozen_of_heap h.1 i
theorem Arr.put {w : World} {g : Nat} {xs : List Nat} (h : Arr w g xs) (i v : Nat) : Arr (w.setCell ⟨g, i, none⟩ (.int .u8 v)) g (xs.set i v) := by
  refine ⟨?_, by rw [List.length_set]; exact h.2⟩
  rw [set_heap w g _ _ i _ h.1]
  congr 2
  simp [cells36]
theorem Arr.other {w : World} {g k : Nat} {xs : List Nat} (h : Arr w g xs) (hne : g ≠ k) (i : Nat) (u : Value) : Arr (w.setCell ⟨k, i, none⟩ u) g xs := ⟨by rw [Below.heap_setCell _ _ _ _ hne]; exact h.1, h.2⟩
theorem cells36_size (xs : List Nat) (h : xs.length = 256) : (cells36 xs).size = 256 := by simp [cells36, h]
theorem cells36_one (xs : List Nat) : (cells36 xs).all (·.oneCell') = true := by
  rw [Array.all_eq_true_iff_forall_mem]
  intro x hx
  simp [cells36] at hx
  obtain ⟨n, _, rfl⟩ := hx
  rfl
def noughts : List Nat := List.replicate 256 0
theorem zero36 : ∀ w, (zeroValue 22).run Try.prog w = .ok (.agg (cells36 noughts)) w :=
  (zero_of_info (P := Try.prog) (t := 22) (v := .agg (cells36 noughts)) (n := 256) (by kernel_rfl)).1
theorem info120 (xs : List Nat) (h : xs.length = 256) : (Try.prog.info? 22).map (·.size) = some (cells36 xs).size := by
  rw [cells36_size xs h]
  kernel_rfl

theorem store36 (w : World) (o : Obj) (xs ys : List Nat) (hx : xs.length = 256) (hy : ys.length = 256) : (storeCells ⟨w.heap.size + 1, 0, none⟩ (cells36 ys).toList).run Try.prog ((w.alloc o).alloc (.cells (cells36 xs) 22)) = .ok () ((w.alloc o).alloc (.cells (cells36 ys) 22)) := by
  have h := run_storeCells_new (P := Try.prog) (w.alloc o) 22 (cells36 xs) (cells36 ys) (info120 ys hy) (by rw [cells36_size xs hx, cells36_size ys hy]) (cells36_one ys)
  rw [World.size_alloc] at h
  exact h

theorem like_self (l : List Q4) (i : Nat) : like l i i = true := by simp [like]
theorem nat_bytes (L : List Nat) (h : ∀ c ∈ L, c < 256) (j : Nat) (hj : j < L.length) : (Lib.byteCells (L.map UInt8.ofNat))[j]? = some (.int .u8 (L.getD j 0 : Nat)) := by
  have hc := h _ (List.getElem_mem hj)
  simp [Lib.byteCells, hj, Nat.mod_eq_of_lt hc]

/-- a row that the call owns, with its slice written out -/
structure Own (B : Nat) (w : World) (u : Value) (g cap : Nat) (L : List Nat) : Prop where
  form : u = .slice (some ⟨g, 0, none⟩) L.length cap
  owns : w.ownsRowF B 5 1 u L.length (Lib.byteCells (L.map UInt8.ofNat))
  few : ∀ c ∈ L, c < 256
  room : L.length ≤ cap
theorem Own.cell {B : Nat} {w : World} {u : Value} {g cap : Nat} {L : List Nat} (h : Own B w u g cap L) (j : Nat) (hj : j < L.length) : w.cell? ⟨g, j, none⟩ = some (.int .u8 (L.getD j 0 : Nat)) := by
  have h1 := h.owns.cells (g := g) (by rw [h.form]; rfl) j _ (nat_bytes L h.few j hj)
  have hplain : (⟨g, 0, none⟩ : Addr).add j = ⟨g, j, none⟩ := by unfold Addr.add; split <;> simp_all
  rw [hplain] at h1
  exact h1
theorem Own.lt {B : Nat} {w : World} {u : Value} {g cap : Nat} {L : List Nat} (h : Own B w u g cap L) : B ≤ g ∧ g < w.heap.size := h.owns.lt g (by rw [h.form]; rfl)
theorem Own.later {B : Nat} {w w' : World} {u : Value} {g cap : Nat} {L : List Nat} (h : Own B w u g cap L) (b : Below w.heap.size w w') : Own B w' u g cap L := ⟨h.form, owns_below h.owns b, h.few, h.room⟩
theorem Own.set {B : Nat} {w : World} {u : Value} {g cap : Nat} {L : List Nat} (h : Own B w u g cap L) {k : Nat} (hk : k < B) (i : Nat) (x : Value) : Own B (w.setCell ⟨k, i, none⟩ x) u g cap L :=
  ⟨h.form, h.owns.kept (touch_set w k i x) (.inr (by rw [h.form]; intro e; have := h.lt; simp [Value.ownBlock] at e; omega)), h.few, h.room⟩
/-- behind an append -/
theorem own_more {B : Nat} {w : World} {v : Value} {L : List Nat} {n : Nat} (hn : n < 256) (hL : ∀ c ∈ L, c < 256) (h : w.ownsRowF B 5 1 v (L.length + 1) (Lib.byteCells (L.map UInt8.ofNat) ++ [.int .u8 (n : Int)])) : ∃ g cap, Own B w v g cap (L ++ [n]) := by
  have h' : w.ownsRowF B 5 1 v (L ++ [n]).length (Lib.byteCells ((L ++ [n]).map UInt8.ofNat)) := by
    rw [List.map_append, Lib.byteCells_append, List.length_append, List.map_cons, List.map_nil, cells_one hn]
    exact h
  have hfew : ∀ c ∈ L ++ [n], c < 256 := by
    intro c hc
    rcases List.mem_append.1 hc with hc | hc
    · exact hL c hc
    · simp at hc; omega
  rcases h'.2 with ⟨_, h0⟩ | ⟨g, cap, cur, fz, hv, hb, hg, hrest⟩
  · simp at h0
  · exact ⟨g, cap, ⟨hv, h', hfew, by first | exact hrest.1 | exact hrest.2.1⟩⟩

/-- an array of 256 bytes that is handed back through a cell, and a number beside it -/
theorem ret36 {fn : Func} {p u : Tmp} (h : fn.results = #[.cell p 22, .tmp u]) {a : Act} {W : World} {R : Ending → World → Prop} (g : Nat) (xs : List Nat) (n : Nat) (hp : a.tmps.getD p undef = .pointer (some ⟨g, 0, none⟩)) (hA : Arr W g xs) (hu : a.tmps.getD u undef = .int .i64 n) (hd : a.defers = [])
    (hR : R (.returned (.tuple #[.agg (cells36 xs), .int .i64 n])) W) : bodyPost Try.prog fn R .ret a W :=
  bodyPost_ret (by rw [results_cell_tmp h, hp, hu]; simp [asAddr, Result.andThen, run_loadVar_row W g 22 22 _ (0, 0) _ hA.1 Try.underlying22 rfl (info120 xs hA.2)]) hd hR
theorem Arr.row {w : World} {g : Nat} {xs ys : List Nat} (h : Arr w g xs) (hy : ys.length = 256) : Arr (w.setRow g (cells36 ys)) g ys := ⟨setRow_heap w g _ _ _ _ h.1, hy⟩

/-- where the search for a class stands -/
def KState (p : Nat → Bool) (L : List Nat) (j : Nat) (k : Value) : Prop :=
  (k = .int .i64 (-1) ∧ ∀ m, m < j → p (L.getD m 0) = false) ∨ (∃ f : Nat, k = .int .i64 f ∧ f = L.findIdx p ∧ f < j)
theorem getD_at (L : List Nat) (m : Nat) (h : m < L.length) : L.getD m 0 = L[m] := by
  rw [List.getD_eq_getElem?_getD, List.getElem?_eq_getElem h]; rfl
theorem found_at {p : Nat → Bool} {L : List Nat} {j : Nat} (hj : j < L.length) (h : ∀ m, m < j → p (L.getD m 0) = false) (hp : p (L.getD j 0) = true) : L.findIdx p = j := by
  rw [List.findIdx_eq hj]
  refine ⟨by rw [← getD_at L j hj]; exact hp, fun m hm => ?_⟩
  have := h m hm
  rw [getD_at L m (by omega)] at this
  exact this
theorem none_all {p : Nat → Bool} {L : List Nat} (h : ∀ m, m < L.length → p (L.getD m 0) = false) : L.any p = false := by
  rw [List.any_eq_false]
  intro x hx
  obtain ⟨m, hm, rfl⟩ := List.getElem_of_mem hx
  have := h m hm
  rw [getD_at L m hm] at this
  rw [this]
  simp
theorem some_any {p : Nat → Bool} {L : List Nat} (h : L.findIdx p < L.length) : L.any p = true := by
  rw [List.any_eq_true]
  exact List.findIdx_lt_length.1 h

end Go.Proofs.Ytkdkibnjfgcppaa.st

namespace Go.Proofs.Ytkdkibnjfgcppaa.st
open Go.Sort Go.ChangeShapes Go.WideShapes Go.ChangeAt Go.RowKit Go.Maps
set_option linter.unusedVariables false
set_option maxRecDepth 10000

theorem laidOut : laidOutB Try.prog = true := by kernel_rfl
theorem wide23 : (match Try.prog.underlying 43 with | some (.array _ _) | some (.struct _) => true | _ => false) = true := by rw [Try.underlying43]
theorem law23 : Keyed Try.prog 43 := Keyed.of_law (deep_law_laid laidOut (m := 2) (by omega) (of_decide_eq_true (by kernel_rfl)) (by kernel_rfl) wide23)

def V4 (q : Q4) : Value := .agg #[.int .u64 q.a, .int .u64 q.b, .int .u64 q.c, .int .u64 q.d]
def kl (q : Q4) : Lit := (DataW.agg (H := Unit) [.lit (.int .u64 q.a), .lit (.int .u64 q.b), .lit (.int .u64 q.c), .lit (.int .u64 q.d)]).asKey

theorem wf_u64 (n : Nat) (h : n < 18446744073709551616) : (Lit.int .u64 (n : Int)).wf = true := by
  have e1 : IntKind.u64.min = 0 := by decide
  have e2 : IntKind.u64.max = 18446744073709551615 := by decide
  simp [Lit.wf, e1, e2]
  omega
theorem key23 (q : Q4) (hq : Fits q) : keyOf Try.prog 43 (.agg #[.int .u64 q.a, .int .u64 q.b, .int .u64 q.c, .int .u64 q.d]) = some (kl q) := by
  have hf : (V4 q).formed Try.prog 43 = true := by
    have : Try.prog.cellsOf 43 = 4 := by kernel_rfl
    simp [V4, Value.formed, Try.underlying43, this]
  have hd : DataW.Trod (H := Unit) (fun _ => ()) Try.prog (default : World) 0 (fun _ => true) true 43 (V4 q) (.agg [.lit (.int .u64 q.a), .lit (.int .u64 q.b), .lit (.int .u64 q.c), .lit (.int .u64 q.d)]) [] := by
    refine ⟨2, ?_⟩
    have c23 : Try.prog.cellsOf 43 = 4 := by kernel_rfl
    have c22 : Try.prog.cellsOf 42 = 1 := by kernel_rfl
    have r4 : List.range 4 = [0, 1, 2, 3] := rfl
    simp [V4, Value.cells, DataW.trod, Try.underlying43, Try.underlying42, c23, c22, r4, wf_u64 q.a hq.a, wf_u64 q.b hq.b, wf_u64 q.c hq.c, wf_u64 q.d hq.d]
  obtain ⟨h, _⟩ := keyOf_asKey (by kernel_rfl) wide23 hf hd
  exact h
theorem kl_inj {q r : Q4} (hq : Fits q) (hr : Fits r) (h : kl q = kl r) : q = r := by
  have h1 := key23 q hq
  have h2 := key23 r hr
  rw [h] at h1
  have := law23.inj h1 h2
  cases q; cases r
  simp at this
  simp only [Q4.mk.injEq]
  omega

/-- the set of what was seen -/
def seen (acc : List Q4) : DataW Unit := setOf (.agg []) (acc.map kl)
theorem seen_key {acc : List Q4} (hf : ∀ q ∈ acc, Fits q) : ∀ x ∈ acc.map kl, WideAt.IsKeyLit x := by
  intro x hx
  obtain ⟨q, hq, rfl⟩ := List.mem_map.1 hx
  exact law23.key (key23 q (hf q hq))
theorem has_seen {acc : List Q4} (hf : ∀ q ∈ acc, Fits q) {q : Q4} (hq : Fits q) : Maps.has (seen acc) (kl q) = decide (q ∈ acc) := by
  unfold seen
  rw [has_setOf _ _ _ (seen_key hf), Bool.eq_iff_iff, List.any_eq_true, decide_eq_true_iff]
  constructor
  · rintro ⟨x, hx, hs⟩
    obtain ⟨r, hr, rfl⟩ := List.mem_map.1 hx
    have := kl_inj (hf r hr) hq (WideAt.sameKey_eq hs)
    rw [← this]
    exact hr
  · intro h
    exact ⟨kl q, List.mem_map.2 ⟨q, h, rfl⟩, WideAt.sameKey_self (law23.key (key23 q hq))⟩
theorem seen_more (acc : List Q4) (q : Q4) : seen (acc ++ [q]) = (seen acc).put (kl q) (.agg []) := by
  unfold seen
  rw [List.map_append, List.map_cons, List.map_nil, setOf_snoc]

def cells4 : List Q4 → List Value
  | [] => []
  | q :: l => .int .u64 q.a :: .int .u64 q.b :: .int .u64 q.c :: .int .u64 q.d :: cells4 l
theorem cells4_append (a b : List Q4) : cells4 (a ++ b) = cells4 a ++ cells4 b := by
  induction a with
  | nil => rfl
  | cons x a ih => rw [List.cons_append, cells4, cells4, ih]; rfl
theorem nth_cons (x : Q4) (l : List Q4) (i : Nat) : nth (x :: l) (i + 1) = nth l i := by simp [nth]
theorem cells4_at (l : List Q4) (i : Nat) (h : i < l.length) : (cells4 l)[i * 4]? = some (.int .u64 (nth l i).a) ∧ (cells4 l)[i * 4 + 1]? = some (.int .u64 (nth l i).b) ∧ (cells4 l)[i * 4 + 2]? = some (.int .u64 (nth l i).c) ∧ (cells4 l)[i * 4 + 3]? = some (.int .u64 (nth l i).d) := by
  induction l generalizing i with
  | nil => simp at h
  | cons x l ih =>
    cases i with
    | zero => exact ⟨rfl, rfl, rfl, rfl⟩
    | succ i =>
      have h2 := ih i (by simpa using h)
      have e : (i + 1) * 4 = i * 4 + 1 + 1 + 1 + 1 := by omega
      rw [e, cells4, nth_cons]
      exact h2
def OwnSets (B : Nat) (w : World) (v : Value) (l : List Q4) : Prop := w.ownsRow B 45 4 v l.length (cells4 l)
theorem OwnSets.sets {B : Nat} {w : World} {v : Value} {l : List Q4} (h : OwnSets B w v l) : Sets w v l := by
  rcases h.2 with ⟨rfl, h0⟩ | ⟨g, cap, cur, rfl, hb, hg, hcap, hm, hsz, htk⟩
  · exact .inl ⟨List.eq_nil_of_length_eq_zero h0, _, _, rfl⟩
  · refine .inr ⟨g, 0, cap, rfl, hcap, by unfold maxLen at hm; omega, (Array.getElem?_eq_some_iff.1 hg).1, fun i hi => ?_⟩
    have hc := World.ownsRow.cells h (g := g) rfl
    have hat := cells4_at l i hi
    have hadd : ∀ j, (⟨g, 0, none⟩ : Addr).add j = ⟨g, 0 + j, none⟩ := fun j => by unfold Addr.add; split <;> simp_all
    have h1 := hc _ _ hat.1
    have h2 := hc _ _ hat.2.1
    have h3 := hc _ _ hat.2.2.1
    have h4 := hc _ _ hat.2.2.2
    rw [hadd] at h1 h2 h3 h4
    exact ⟨h1, by rw [Nat.add_assoc]; exact h2, by rw [Nat.add_assoc]; exact h3, by rw [Nat.add_assoc]; exact h4⟩
theorem info45 : (Try.prog.info? 45).map (fun i => (i.zero, i.size, i.bytes)) = some (some (.agg #[.int .u64 0, .int .u64 0, .int .u64 0, .int .u64 0]), 4, 32) := by kernel_rfl
theorem zero55 (w : World) : (zeroValue 149).run Try.prog w = .ok (.agg #[]) w := by kernel_rfl
theorem four_cells (W : World) (q : Q4) : ∀ j u, [Value.int .u64 q.a, .int .u64 q.b, .int .u64 q.c, .int .u64 q.d][j]? = some u → (W.alloc (.cells #[.int .u64 q.a, .int .u64 q.b, .int .u64 q.c, .int .u64 q.d] 45)).cell? ((⟨W.heap.size, 0, none⟩ : Addr).add j) = some u := by
  intro j u hu
  match j, hu with
  | 0, hu => simp at hu; subst hu; simp [Addr.add]
  | 1, hu => simp at hu; subst hu; simp [Addr.add]
  | 2, hu => simp at hu; subst hu; simp [Addr.add]
  | 3, hu => simp at hu; subst hu; simp [Addr.add]
  | j + 4, hu => simp at hu

theorem four_one (q : Q4) : ∀ u ∈ [Value.int .u64 q.a, .int .u64 q.b, .int .u64 q.c, .int .u64 q.d], u.oneCell' = true := by
  intro u hu
  simp at hu
  rcases hu with rfl | rfl | rfl | rfl <;> rfl
theorem OwnSets.kept {B : Nat} {w w' : World} {v : Value} {l : List Q4} (h : OwnSets B w v l) {k : Nat} (t : w.grownBy w' (some k)) (hk : k < B) : OwnSets B w' v l :=
  World.ownsRow.kept h t (.inr (fun e => by have := (World.ownsRow.lt h k e).1; omega))
theorem OwnSets.alloc {B : Nat} {w : World} {v : Value} {l : List Q4} (h : OwnSets B w v l) (o : Obj) : OwnSets B (w.alloc o) v l := World.ownsRow.alloc h o

theorem blk_kept (W : World) (q : Q4) (o : Obj) {w' : World} {k : Nat} (t : ((W.alloc (.cells #[.int .u64 q.a, .int .u64 q.b, .int .u64 q.c, .int .u64 q.d] 45)).alloc o).grownBy w' (some k)) (hk : k < W.heap.size) : Blk w' W.heap.size q := by
  unfold Blk
  rw [t.block _ (by simp; omega) (by intro e; cases e; omega)]
  exact heap_alloc2_old W _ _

def DiffIs (l m : List Q4) : Prop := ∀ v w, Sets w v l → Calls Try.prog 68 #[v] w fun e w' => ∃ u, e = .returned u ∧ Sets w' u m ∧ Below w.heap.size w w'

set_option maxHeartbeats 2000000 in
set_option maxRecDepth 100000 in
theorem diff_any (l : List Q4) (hf : ∀ q ∈ l, Fits q) (hlen : l.length ≤ 1000000) : DiffIs l (diff [] l) := by
  intro v w hv
  have hmm := @run_makeMap Try.prog
  rcases hv with ⟨rfl, a, cap, rfl⟩ | ⟨g, off, cap, rfl, hl, hm, hlt, hcell⟩
  · go_enter Try.func68, Try.ntmps68
    go_wp2
    go_loopw [3, 12] (fun u x wr => u = .slice none 0 0 ∧ x = .int .i64 0 ∧ Below w.heap.size w wr) (fun _ _ _ => 0)
    case atStart => exact ⟨rfl, rfl, (Below.refl _ _).alloc (Nat.le_refl _) _⟩
    case round =>
      obtain ⟨rfl, rfl, hB⟩ := hrel
      go_wp2
      go_ret
      exact ⟨_, rfl, .inl ⟨rfl, _, _, rfl⟩, hB⟩
  · obtain ⟨i0, hi0, hz0, hz1, hz2⟩ := info_parts info45
    go_enter Try.func68, Try.ntmps68
    go_wp2
    go_loopw [3, 12] (fun u x wr => ∃ (k : Nat) (acc : List Q4), x = .int .i64 k ∧ k ≤ l.length ∧ wr.ownsMap Try.prog 43 (unitElem (H := Unit)) w.heap.size k (seen acc) ∧ OwnSets (w.heap.size + 1) wr u acc ∧ Below w.heap.size w wr ∧ w.heap.size + 1 ≤ wr.heap.size ∧ acc.length ≤ k ∧ (∀ q ∈ acc, Fits q) ∧ Hid (acc = diff [] (l.take k))) (fun _ x _ => l.length - (intOf x).toNat)
    case atStart => exact ⟨0, [], rfl, by omega, World.ownsMap_made _ _ _ _, World.ownsRow_nil _ _ _ _, (Below.refl _ _).alloc (Nat.le_refl _) _, by simp, by simp, by simp, rfl⟩
    case round =>
      obtain ⟨k, acc, rfl, hk, hown, hrow, hB, hws, hal, hfa, HA⟩ := hrel
      by_cases hend : k < l.length
      · obtain ⟨c0, c1, c2, c3⟩ := hcell k hend
        rw [← hB.cell (p := ⟨g, off + k * 4, none⟩) hlt] at c0
        rw [← hB.cell (p := ⟨g, off + k * 4 + 1, none⟩) hlt] at c1
        rw [← hB.cell (p := ⟨g, off + k * 4 + 2, none⟩) hlt] at c2
        rw [← hB.cell (p := ⟨g, off + k * 4 + 3, none⟩) hlt] at c3
        have hfx := hf _ (nth_mem l k hend)
        have hkey := key23 _ hfx
        have hhas := has_seen hfa hfx
        have HS : Hid (diff [] (l.take (k + 1)) = if nth l k ∈ acc then acc else acc ++ [nth l k]) := by show _ = _; rw [take_nth l k hend, diff_take, ← HA.out]
        generalize nth l k = x at *
        clear hcell HA
        by_cases hx : x ∈ acc
        · rw [show decide (x ∈ acc) = true from by simp [hx]] at hhas
          have HS2 : Hid (acc = diff [] (l.take (k + 1))) := by show _ = _; rw [HS.out, if_pos hx]
          clear HS hx
          go_wp2_with (first | (at_lookup; refine wpList_lookup_own_unit _ rfl _ _ 148 rfl 43 149 law23 Try.underlying148 (zero55 _) w.heap.size k _ rfl (hown.alloc _) _ _ rfl hkey ?_; rw [hhas]))
          go_roundw
          case rel => exact ⟨k + 1, acc, by go_num, by omega, ((hown.alloc _).alloc _).mono (Nat.le_succ _), World.ownsRow.alloc (World.ownsRow.alloc hrow _) _, (hB.alloc hB.size _).alloc (by simp; omega) _, by simp; omega, by omega, hfa, HS2⟩
          case measure => simp [intOf]; omega
        · rw [show decide (x ∈ acc) = false from by simp [hx]] at hhas
          have HS2 : Hid (acc ++ [x] = diff [] (l.take (k + 1))) := by show _ = _; rw [HS.out, if_neg hx]
          have hfa2 : ∀ q ∈ acc ++ [x], Fits q := by
            intro q hq
            rcases List.mem_append.1 hq with hq | hq
            · exact hfa q hq
            · rw [List.mem_singleton.1 hq]; exact hfx
          clear HS hx
          go_wp2_with (first | (at_lookup; refine wpList_lookup_own_unit _ rfl _ _ 148 rfl 43 149 law23 Try.underlying148 (zero55 _) w.heap.size k _ rfl (hown.alloc _) _ _ rfl hkey ?_; rw [hhas]) | (at_mapUpdate; refine wpList_mapUpdate_own _ rfl _ _ _ 148 rfl 43 149 law23 Try.underlying148 (unitElem (H := Unit)) w.heap.size k _ rfl ((hown.alloc _).alloc _) (by unfold maxLen; omega) _ _ _ rfl rfl hkey _ [] unitElem_mk ?_; intro w1 hown1 hgrow1; have hrow1 := ((hrow.alloc _).alloc _).kept hgrow1 (Nat.lt_succ_self _); have kb := blk_kept wr x _ hgrow1 (by omega); have q0 := kb.c0; have q1 := kb.c1; have q2 := kb.c2; have q3 := kb.c3) | (at_builtin; refine wpList_append_own _ rfl _ _ 107 rfl (w.heap.size + 1) 45 i0 _ 4 32 Try.underlying107 hi0 hz0 hz1 hz2 rfl (by decide) _ acc.length (cells4 acc) rfl (hrow1.alloc _) ⟨w1.heap.size, 0, none⟩ 1 1 [.int .u64 x.a, .int .u64 x.b, .int .u64 x.c, .int .u64 x.d] rfl rfl (four_cells w1 x) (four_one x) (by unfold maxLen; omega) (by omega) (by have := hgrow1.size; simp at this ⊢; omega) ?_; intro v' w2 hown' hgrow2 hnil2))
          have s1 := hgrow1.size
          have s2 := hgrow2.size
          simp at s1 s2
          have hrl : ∀ j, Value.ownBlock u3 = some j → w.heap.size + 1 ≤ j := fun j hj => (World.ownsRow.lt hrow j hj).1
          refine ⟨⟨k + 1, acc ++ [x], by go_num, by omega, ?_, ?_, ?_, by omega, by simp; omega, hfa2, HS2⟩, by simp [intOf]; omega⟩
          · rw [seen_more]
            exact (hown1.alloc _).kept hgrow2 (fun e => by have := hrl _ e.symm; omega)
          · unfold OwnSets
            rw [cells4_append, List.length_append]
            exact hown'
          · exact ((((hB.alloc hB.size _).alloc (by simp; omega) _).grown hgrow1 (by simp; omega) (fun j hj => by cases hj; exact Nat.le_refl _)).alloc (by omega) _).grown hgrow2 (by simp; omega) (fun j hj => Nat.le_trans (Nat.le_succ _) (hrl j hj))
      · have he : k = l.length := by omega
        have HE : Hid (acc = diff [] l) := by show _ = _; rw [HA.out, he, List.take_length]
        clear HA hcell
        go_wp2
        go_ret
        exact ⟨_, rfl, by rw [← HE.out]; exact hrow.sets, hB⟩
end Go.Proofs.Ytkdkibnjfgcppaa.st

namespace Go.Proofs.Ytkdkibnjfgcppaa.st
open Go.Sort Go.ChangeShapes Go.WideShapes Go.ChangeAt Go.RowKit Go.Maps
set_option linter.unusedVariables false
set_option maxRecDepth 10000

theorem Sets.kept {w w' : World} {v : Value} {l : List Q4} {k : Nat} (h : Sets w v l) (t : w.grownBy w' (some k)) (hk : ∀ i x, w.cell? ⟨k, i, none⟩ ≠ some (.int .u64 x)) : Sets w' v l := by
  rcases h with h | ⟨b, off, cap, hv, hl, hm, hlt, hc⟩
  · exact .inl h
  · by_cases e : b = k
    · subst e
      refine .inr ⟨b, off, cap, hv, hl, hm, Nat.lt_of_lt_of_le hlt t.size, fun i hi => ?_⟩
      exact absurd (hc i hi).1 (hk _ _)
    · have hb : w'.heap[b]? = w.heap[b]? := t.block b hlt (fun e2 => e (Option.some.inj e2))
      refine .inr ⟨b, off, cap, hv, hl, hm, Nat.lt_of_lt_of_le hlt t.size, fun i hi => ?_⟩
      have h1 := hc i hi
      refine ⟨?_, ?_, ?_, ?_⟩
      · rw [World.cell?_of_block (w := w) (a := ⟨b, off + i * 4, none⟩) hb]; exact h1.1
      · rw [World.cell?_of_block (w := w) (a := ⟨b, off + i * 4 + 1, none⟩) hb]; exact h1.2.1
      · rw [World.cell?_of_block (w := w) (a := ⟨b, off + i * 4 + 2, none⟩) hb]; exact h1.2.2.1
      · rw [World.cell?_of_block (w := w) (a := ⟨b, off + i * 4 + 3, none⟩) hb]; exact h1.2.2.2
theorem Arr.not64 {w : World} {g : Nat} {xs : List Nat} (h : Arr w g xs) : ∀ i x, w.cell? ⟨g, i, none⟩ ≠ some (.int .u64 x) := by
  intro i x e
  rw [Lib.cell_of_heap h.1] at e
  simp [cells36] at e
theorem map_not64 {w : World} {b n : Nat} {D : DataW Unit} (h : w.ownsMap Try.prog 9 (plainElem Try.prog 3) b n D) : ∀ i x, w.cell? ⟨b, i, none⟩ ≠ some (.int .u64 x) := by
  intro i x e
  obtain ⟨es, clock, hb, _⟩ := h
  simp [World.cell?, hb] at e
theorem Arr.grown {w w' : World} {g k : Nat} {xs : List Nat} (h : Arr w g xs) (t : w.grownBy w' (some k)) (hne : g ≠ k) : Arr w' g xs := ⟨by rw [t.block g h.lt (fun e => hne (Option.some.inj e))]; exact h.1, h.2⟩

theorem law9 : Keyed Try.prog 9 := string_keyed Try.underlying9
theorem zero3 (w : World) : (zeroValue 3).run Try.prog w = .ok (.int .i64 0) w := by kernel_rfl

theorem key_like (m : List Q4) (b c : Nat) : (key m b = key m c) ↔ like m b c = true := by
  rw [key_eq]
  simp [like]
structure MInv (m : List Q4) (D : DataW Unit) (L : List Nat) : Prop where
  size : Maps.size D = L.length
  has : ∀ b, Maps.has D (.string (key m b)) = L.any (fun c => like m b c)
  at' : ∀ b, L.any (fun c => like m b c) = true → D.atKey (.string (key m b)) (.lit (.int .i64 0)) = .lit (.int .i64 (L.findIdx (fun c => like m b c) : Nat))
theorem minv_start (m : List Q4) : MInv m (.map []) [] := ⟨rfl, fun b => rfl, fun b h => by simp at h⟩
theorem minv_put {m : List Q4} {D : DataW Unit} {L : List Nat} {i : Nat} (h : MInv m D L) (hT : Tidy D) (hi : L.any (fun c => like m i c) = false) : MInv m (D.put (.string (key m i)) (.lit (.int .i64 (L.length : Nat)))) (L ++ [i]) := by
  have hno : Maps.has D (.string (key m i)) = false := by rw [h.has i]; exact hi
  refine ⟨?_, ?_, ?_⟩
  · rw [size_put hT, hno, h.size]
    simp
  · intro b
    rw [List.any_append]
    by_cases e : key m b = key m i
    · rw [e, has_put_same hT.isMap (show WideAt.IsKeyLit (.string _) from trivial)]
      have := (key_like m b i).1 e
      simp [this]
    · rw [has_put_other (fun e2 => e (Lit.string.inj e2)), h.has b]
      have : like m b i = false := by
        cases hb : like m b i
        · rfl
        · exact absurd ((key_like m b i).2 hb) e
      simp [this]
  · intro b hany
    by_cases e : key m b = key m i
    · rw [e, atKey_put_same hT.isMap (show WideAt.IsKeyLit (.string _) from trivial)]
      have hs := (key_eq m b i).1 e
      have hfn : L.findIdx (fun c => like m b c) = L.length := by
        have : ¬ L.findIdx (fun c => like m b c) < L.length := by
          rw [List.findIdx_lt_length]
          rintro ⟨x, hx, hpx⟩
          have h2 := List.any_eq_false.1 hi x hx
          apply h2
          unfold like at hpx ⊢
          rw [← hs]
          exact hpx
        have h3 : L.findIdx (fun c => like m b c) ≤ L.length := List.findIdx_le_length
        omega
      rw [List.findIdx_append, hfn, if_neg (by omega)]
      have h1 := (key_like m b i).1 e
      simp [List.findIdx_cons, h1]
    · have hl : like m b i = false := by
        cases hb : like m b i
        · rfl
        · exact absurd ((key_like m b i).2 hb) e
      rw [List.any_append] at hany
      simp [hl] at hany
      have hany2 : L.any (fun c => like m b c) = true := by
        rw [List.any_eq_true]
        exact hany
      rw [atKey_put_other (fun e2 => e (Lit.string.inj e2)), h.at' b hany2, List.findIdx_append, if_pos (List.findIdx_lt_length.2 (List.any_eq_true.1 hany2))]

theorem at_same {d : DataW Unit} {f : Nat} {c : Int} (h : d = .lit (.int .i64 (f : Nat))) (h2 : d = .lit (.int .i64 c)) : c = (f : Int) := by
  rw [h] at h2
  simp at h2
  exact h2.symm

def ClassesIs (l : List Q4) (xs : List Nat) (n : Nat) : Prop := ∀ v w, Sets w v l → Calls Try.prog 55 #[v] w fun e w' => e = .returned (.tuple #[.agg (cells36 xs), .int .i64 n]) ∧ Below w.heap.size w w'

set_option maxHeartbeats 2000000 in
set_option maxRecDepth 100000 in
theorem classes_any (l : List Q4) (hf : ∀ q ∈ l, Fits q) (hlen : l.length ≤ 1000000) : ClassesIs l (tbl (like l) 256) (repsBy (like l) 256).length := by
  intro v w hv
  have hz := zero36
  have hcs := cells36_size noughts rfl
  have hst := store36 w (.cells (cells36 noughts) 22) noughts noughts rfl rfl
  have hmm := @run_makeMap Try.prog
  have hd := diff_any l hf hlen
  have hmf : ∀ q ∈ diff [] l, Fits q := fun q hq => by
    rcases (mem_diff l [] q).1 hq with h | h
    · simp at h
    · exact hf q h
  have hml : (diff [] l).length ≤ 1000000 := by have := diff_length l []; simp at this; omega
  have HLK : Hid (like (diff [] l) = like l) := by show _ = _; funext b c; exact like_diff l b c
  rw [← HLK.out]
  generalize diff [] l = m at *
  obtain ⟨p, HPp⟩ : ∃ p, Hid (p = like m) := ⟨_, rfl⟩
  rw [← HPp.out]
  have hB0 : Below w.heap.size w ((w.alloc (.cells (cells36 noughts) 22)).alloc (.cells (cells36 noughts) 22)) := ((Below.refl _ _).alloc (Nat.le_refl _) _).alloc (by simp) _
  have ha0 : Arr ((w.alloc (.cells (cells36 noughts) 22)).alloc (.cells (cells36 noughts) 22)) (w.heap.size + 1) noughts := ⟨heap_alloc2_new w _ _, rfl⟩
  have hr0 : Arr ((w.alloc (.cells (cells36 noughts) 22)).alloc (.cells (cells36 noughts) 22)) w.heap.size noughts := ⟨heap_alloc2_old w _ _, rfl⟩
  have hv0 := hv.below hB0
  obtain ⟨a0, len0, cap0, rfl⟩ : ∃ a len cap, v = .slice a len cap := by
    rcases hv with ⟨_, a, cap, h⟩ | ⟨b, off, cap, h, _⟩
    · exact ⟨_, _, _, h⟩
    · exact ⟨_, _, _, h⟩
  go_enter Try.func55, Try.ntmps55
  go_wp2_with (go_at_call 68; refine (hd _ _ hv0).mono ?_; rintro e w1 ⟨u, rfl, hu, b1⟩; have ha1 := ha0.later b1 ha0.lt; have hr1 := hr0.later b1 hr0.lt; have hB1 := chain hB0 b1)
  clear hz hcs hst hmm hd hv hv0 ha0 hr0 hB0 b1
  have hbm : w.heap.size + 1 < w1.heap.size := ha1.lt
  obtain ⟨B, hBe⟩ : ∃ B, B = w1.heap.size := ⟨_, rfl⟩
  have hmade : (w1.alloc (.map #[] 0)).ownsMap Try.prog 9 (plainElem (H := Unit) Try.prog 3) B 0 (.map []) := by rw [hBe]; exact World.ownsMap_made _ _ _ _
  have hu1 := hu.below ((Below.refl _ _).alloc (Nat.le_refl _) (.map #[] 0))
  have ha2 := ha1.later ((Below.refl _ _).alloc (Nat.le_refl _) (.map #[] 0)) ha1.lt
  have hr2 := hr1.later ((Below.refl _ _).alloc (Nat.le_refl _) (.map #[] 0)) hr1.lt
  have hB2 := hB1.alloc hB1.size (.map #[] 0)
  rw [← hBe] at hbm
  rw [← hBe]
  generalize w1.alloc (.map #[] 0) = w2 at *
  clear hu ha1 hr1 hB1 hBe
  go_loopw [13] (fun x wr => ∃ (i : Nat) (D : DataW Unit), x = .int .i64 i ∧ i ≤ 256 ∧ wr.ownsMap Try.prog 9 (plainElem (H := Unit) Try.prog 3) B i D ∧ Hid (MInv m D (repsBy p i)) ∧ Sets wr u m ∧ Arr wr (w.heap.size + 1) (tbl p i) ∧ Arr wr w.heap.size noughts ∧ Below w.heap.size w wr) (fun x _ => 256 - (intOf x).toNat)
  case atStart => exact ⟨0, _, rfl, by omega, hmade, minv_start m, hu1, ha2, hr2, hB2⟩
  case round =>
    obtain ⟨i, D, rfl, hi, hown, HM, hS, harr, hres, hB⟩ := hrel
    by_cases hin : i < 256
    · have hW := within_any m hmf hml i hin _ rfl
      have hkl : (⟨(key m i).toArray⟩ : ByteArray).data.toList = key m i := by simp
      have hksz : (⟨(key m i).toArray⟩ : ByteArray).size ≤ maxLen := by
        have := key_length m i
        show (key m i).toArray.size ≤ _
        unfold maxLen
        simp
        omega
      have hkey : keyOf Try.prog 9 (.string ⟨(key m i).toArray⟩) = some (.string (key m i)) := by
        have := Go.WideMaps.keyOf_string_mk (P := Try.prog) Try.underlying9 hksz
        rw [hkl] at this
        exact this
      generalize (⟨(key m i).toArray⟩ : ByteArray) = t at *
      have hhas := HM.out.has i
      have hsz := HM.out.size
      rw [← HPp.out] at hhas
      have hLl := repsBy_length p i
      have hpii : p i i = true := by rw [HPp.out]; exact like_self m i
      have HAT := HM.out.at' i
      rw [← HPp.out] at HAT
      cases hany : (repsBy p i).any (fun c => p i c)
      · rw [hany] at hhas
        have HN1 : Hid (repsBy p i ++ [i] = repsBy p (i + 1)) := (repsBy_out hany).symm
        have HN2 : Hid ((tbl p i).set i (repsBy p i).length = tbl p (i + 1)) := by show _ = _; rw [← tbl_step p i hin, clsBy_out hpii hany]
        have HMP : Hid (Tidy D → MInv m (D.put (.string (key m i)) (.lit (.int .i64 ((repsBy p i).length : Nat)))) (repsBy p i ++ [i])) := fun hT => minv_put HM.out hT (by rw [← HPp.out]; exact hany)
        have hT := hown.tidy law9
        generalize repsBy p i = L at *
        have hn1 : L.length < 256 := by omega
        clear HAT HM hany
        go_wp2_with (first | (go_at_call 69; refine (hW _ _ hS).mono ?_; rintro e w3 ⟨rfl, b3⟩; have hown3 := hown.kept (row := none) ⟨b3.os, b3.tape, b3.output, b3.size, fun k hk _ => b3.block k hk⟩ (by simp); have hS3 := hS.below b3; have harr3 := harr.later b3 harr.lt; have hres3 := hres.later b3 hres.lt; have hB3 := chain hB b3) | (at_lookup; refine wpList_lookup_own_ok_int _ rfl _ _ 75 rfl 9 3 .i64 law9 Try.underlying75 Try.underlying3 (zero3 _) B i D rfl hown3 _ _ rfl hkey ?_; intro c hat hwc; rw [hhas]) | (at_len; refine wpList_len_own _ rfl _ 75 rfl 9 3 Try.underlying75 _ B i D rfl hown3 ?_; rw [hsz]) | (at_mapUpdate; refine wpList_mapUpdate_own _ rfl _ _ _ 75 rfl 9 3 law9 Try.underlying75 _ B i D rfl hown3 (by unfold maxLen; omega) _ _ _ rfl rfl hkey _ [] (plainElem_int Try.underlying3 (WalkArith.wf_i64 (by omega))) ?_; intro w4 hown4 hgrow4; have hS4 := hS3.kept hgrow4 (map_not64 hown3); have harr4 := harr3.grown hgrow4 (by omega); have hres4 := hres3.grown hgrow4 (by omega); have hB4 := hB3.grown hgrow4 hB3.size (by intro k hk; cases hk; omega); have kc := harr4.cell i hin; have kf := harr4.fz i))
        refine ⟨⟨i + 1, _, by go_num, by omega, hown4.kept (touch_set w4 (w.heap.size + 1) i _) (by intro e; cases e; omega), by rw [← HN1.out]; exact HMP.out hT, hS4.kept (touch_set _ _ _ _) harr4.not64, by rw [← HN2.out]; exact harr4.put i _, hres4.other (by omega) i _, hB4.setCell (p := ⟨w.heap.size + 1, i, none⟩) (by show w.heap.size ≤ w.heap.size + 1; omega) _⟩, by simp [intOf]; omega⟩
      · rw [hany] at hhas
        have HN1 : Hid (repsBy p (i + 1) = repsBy p i) := repsBy_in hany
        have HN2 : Hid ((tbl p i).set i ((repsBy p i).findIdx (fun c => p i c)) = tbl p (i + 1)) := by show _ = _; rw [← tbl_step p i hin, (clsBy_in hany).1]
        have hat0 := HAT hany
        have hn1 : (repsBy p i).findIdx (fun c => p i c) < 256 := by have := (clsBy_in hany).2; have := (clsBy_in hany).1; omega
        generalize (repsBy p i).findIdx (fun c => p i c) = f at *
        clear HAT hany hsz
        go_wp2_with (first | (go_at_call 69; refine (hW _ _ hS).mono ?_; rintro e w3 ⟨rfl, b3⟩; have hown3 := hown.kept (row := none) ⟨b3.os, b3.tape, b3.output, b3.size, fun k hk _ => b3.block k hk⟩ (by simp); have hS3 := hS.below b3; have harr3 := harr.later b3 harr.lt; have hres3 := hres.later b3 hres.lt; have hB3 := chain hB b3; have kc := harr3.cell i hin; have kf := harr3.fz i) | (at_lookup; refine wpList_lookup_own_ok_int _ rfl _ _ 75 rfl 9 3 .i64 law9 Try.underlying75 Try.underlying3 (zero3 _) B i D rfl hown3 _ _ rfl hkey ?_; intro c hat hwc; rw [hhas, at_same hat0 hat]; clear hat hwc))
        refine ⟨⟨i + 1, _, by go_num, by omega, (hown3.kept (touch_set w3 (w.heap.size + 1) i _) (by intro e; cases e; omega)).mono (Nat.le_succ _), by rw [HN1.out]; exact HM.out, hS3.kept (touch_set _ _ _ _) harr3.not64, by rw [← HN2.out]; exact harr3.put i _, hres3.other (by omega) i _, hB3.setCell (p := ⟨w.heap.size + 1, i, none⟩) (by show w.heap.size ≤ w.heap.size + 1; omega) _⟩, by simp [intOf]; omega⟩
    · have he : i = 256 := by omega
      subst he
      have HN : Hid (Maps.size D = (repsBy p 256).length) := HM.out.size
      clear HM
      go_wp2_with (first | (refine wpList_load_row rfl 22 (.tmp 4) rfl (w.heap.size + 1) rfl 22 (cells36 (tbl p 256)) (0, 0) _ harr.1 Try.underlying22 rfl (info120 _ harr.2) ?_) | (at_len; refine wpList_len_own _ rfl _ 75 rfl 9 3 Try.underlying75 _ B 256 D rfl hown ?_) | (refine wpList_store_row rfl 22 (.tmp 2) (.tmp 38) rfl w.heap.size (cells36 (tbl p 256)) rfl rfl 22 _ hres.1 (info120 _ harr.2) (by rw [cells36_size _ hres.2, cells36_size _ harr.2]) (cells36_one _) ?_))
      refine ret36 Try.results55 w.heap.size (tbl p 256) (Maps.size D) rfl (hres.row harr.2) rfl rfl ?_
      exact ⟨by rw [HN.out], below_setRow hB (Nat.le_refl _) _⟩
end Go.Proofs.Ytkdkibnjfgcppaa.st

namespace Go.Proofs.Ytkdkibnjfgcppaa.bd
open Go.Sort Go.ChangeShapes Go.WideShapes Go.ChangeAt Go.RowKit Go.Maps
open st (Q4 none4 Fits has key sig packTo nth cells4 chain)
set_option linter.unusedVariables false
set_option maxRecDepth 10000

def scells (l : List Q4) : Array Value := (cells4 l).toArray
def SRow (w : World) (g : Nat) (l : List Q4) : Prop := w.heap[g]? = some (.cells (scells l) 45 (0, 0))
section
variable {w w' : World} {g : Nat} {l : List Q4}
theorem SRow.lt (h : SRow w g l) : g < w.heap.size := (Array.getElem?_eq_some_iff.1 h).1
theorem SRow.later (h : SRow w g l) (b : Below w.heap.size w w') : SRow w' g l := by unfold SRow; rw [b.block g h.lt]; exact h
theorem SRow.keep (h : SRow w g l) (e : w'.heap[g]? = w.heap[g]?) : SRow w' g l := e.trans h
theorem SRow.fz (h : SRow w g l) (i : Nat) : w.frozen? ⟨g, i, none⟩ = false := Lib.frozen_of_heap h i
theorem SRow.cells (h : SRow w g l) (i : Nat) (hi : i < l.length) : w.cell? ⟨g, i * 4, none⟩ = some (.int .u64 (nth l i).a) ∧ w.cell? ⟨g, i * 4 + 1, none⟩ = some (.int .u64 (nth l i).b) ∧ w.cell? ⟨g, i * 4 + 2, none⟩ = some (.int .u64 (nth l i).c) ∧ w.cell? ⟨g, i * 4 + 3, none⟩ = some (.int .u64 (nth l i).d) := by
  obtain ⟨h0, h1, h2, h3⟩ := st.cells4_at l i hi
  refine ⟨?_, ?_, ?_, ?_⟩
  all_goals (rw [Lib.cell_of_heap h]; simp only [scells, List.getElem?_toArray]; assumption)
theorem SRow.sets (h : SRow w g l) (hl : l.length ≤ 1000000) : st.Sets w (.slice (some ⟨g, 0, none⟩) l.length l.length) l :=
  .inr ⟨g, 0, l.length, rfl, Nat.le_refl _, by omega, h.lt, fun i hi => by
    rw [Nat.zero_add]; exact h.cells i hi⟩
end
theorem cells4_len (l : List Q4) : (cells4 l).length = l.length * 4 := by
  induction l with
  | nil => rfl
  | cons x l ih => simp [cells4, ih]; omega
theorem cells4_set (l : List Q4) (q : Q4) : ∀ i, i < l.length → (((((cells4 l).set (i * 4) (.int .u64 q.a)).set (i * 4 + 1) (.int .u64 q.b)).set (i * 4 + 2) (.int .u64 q.c)).set (i * 4 + 3) (.int .u64 q.d)) = cells4 (l.set i q) := by
  induction l with
  | nil => intro i h; simp at h
  | cons x l ih =>
    intro i h
    cases i with
    | zero => simp [cells4]
    | succ i =>
      have := ih i (by simpa using h)
      simp only [cells4, List.set_cons_succ]
      rw [show (i + 1) * 4 = i * 4 + 1 + 1 + 1 + 1 by omega]
      simp only [List.set_cons_succ]
      rw [this]
theorem SRow.put {w : World} {g : Nat} {l : List Q4} (h : SRow w g l) (i : Nat) (hi : i < l.length) (q : Q4) : SRow ((((w.setCell ⟨g, i * 4, none⟩ (.int .u64 q.a)).setCell ⟨g, i * 4 + 1, none⟩ (.int .u64 q.b)).setCell ⟨g, i * 4 + 2, none⟩ (.int .u64 q.c)).setCell ⟨g, i * 4 + 3, none⟩ (.int .u64 q.d)) g (l.set i q) := by
  unfold SRow
  rw [nf.set_heap _ g _ _ _ _ (nf.set_heap _ g _ _ _ _ (nf.set_heap _ g _ _ _ _ (nf.set_heap w g _ _ _ _ h)))]
  congr 2
  simp only [scells, List.setIfInBounds_toArray]
  rw [cells4_set l q i hi]
theorem set4_other (w : World) (g k : Nat) (hne : k ≠ g) (i : Nat) (a b c d : Value) : ((((w.setCell ⟨g, i * 4, none⟩ a).setCell ⟨g, i * 4 + 1, none⟩ b).setCell ⟨g, i * 4 + 2, none⟩ c).setCell ⟨g, i * 4 + 3, none⟩ d).heap[k]? = w.heap[k]? := by
  rw [Below.heap_setCell _ _ _ k hne, Below.heap_setCell _ _ _ k hne, Below.heap_setCell _ _ _ k hne, Below.heap_setCell _ _ _ k hne]
theorem below_set4 {N : Nat} {w w' : World} (h : Below N w w') {g : Nat} (hg : N ≤ g) (i : Nat) (a b c d : Value) : Below N w ((((w'.setCell ⟨g, i * 4, none⟩ a).setCell ⟨g, i * 4 + 1, none⟩ b).setCell ⟨g, i * 4 + 2, none⟩ c).setCell ⟨g, i * 4 + 3, none⟩ d) :=
  (((h.setCell (p := ⟨g, i * 4, none⟩) hg _).setCell (p := ⟨g, i * 4 + 1, none⟩) hg _).setCell (p := ⟨g, i * 4 + 2, none⟩) hg _).setCell (p := ⟨g, i * 4 + 3, none⟩) hg _
theorem cells4_none (n : Nat) : cells4 (List.replicate n none4) = List.replicate (n * 4) (.int .u64 0) := by
  induction n with
  | zero => rfl
  | succ n ih =>
    rw [List.replicate_succ, cells4, ih, show (n + 1) * 4 = n * 4 + 1 + 1 + 1 + 1 by omega]
    simp [List.replicate_succ, none4]
theorem scells_made (n : Nat) : madeCells #[.int .u64 0, .int .u64 0, .int .u64 0, .int .u64 0] (n * 4) = scells (List.replicate n none4) := by
  unfold scells
  rw [cells4_none]
  apply Array.ext
  · simp [size_madeCells]
  · intro i h1 h2
    have h3 : i % 4 = 0 ∨ i % 4 = 1 ∨ i % 4 = 2 ∨ i % 4 = 3 := by omega
    rcases h3 with h | h | h | h <;> simp [madeCells, h]
theorem make108 (n : Nat) (hn : n ≤ 1000000) (W : World) : (Instr.makeSlice 108 (.int .i64 (n : Int)) (.int .i64 (n : Int))).run Try.prog W = .ok (.slice (some ⟨W.heap.size, 0, none⟩) n n) (W.alloc (.cells (scells (List.replicate n none4)) 45)) := by
  obtain ⟨i0, hi, hz0, hz1, hz2⟩ := info_parts st.info45
  have hr := run_make (P := Try.prog) W 108 45 i0 _ Try.underlying108 hi hz0 .i64 .i64 n n (by omega) (Int.le_refl _) (by rw [hz2]; omega) (by omega)
  simp only [Int.toNat_natCast, hz1] at hr
  rw [hr, ← scells_made]
  rfl
theorem srow_new (W : World) (l : List Q4) : SRow (W.alloc (.cells (scells l) 45)) W.heap.size l := heap_alloc_new W _

def NowIs (n : Nat) : Prop := ∀ b w, w.cell? ⟨b, 0, none⟩ = some (.int .i64 (n : Int)) → Calls Try.prog 54 #[.pointer (some ⟨b, 0, none⟩)] w fun e w' => e = .returned (.slice (some ⟨w.heap.size, 0, none⟩) n n) ∧ w' = w.alloc (.cells (scells (List.replicate n none4)) 45)
set_option maxHeartbeats 1000000 in
theorem now_any (n : Nat) (hn : n ≤ 1000000) : NowIs n := by
  intro b w h0
  have mk := make108 n hn
  go_enter Try.func54, Try.ntmps54
  go_wp2_with (fail)
  go_ret
  exact ⟨rfl, rfl⟩

def TextIs (l : List Q4) (c : Nat) (t : ByteArray) : Prop := ∀ b v w, b < w.heap.size → w.cell? ⟨b, 0, none⟩ = some (.int .i64 (l.length : Int)) → st.Sets w v l → Calls Try.prog 53 #[.pointer (some ⟨b, 0, none⟩), v, .int .u8 c] w fun e w' => e = .returned (.string t) ∧ Below w.heap.size w w'
set_option maxHeartbeats 2000000 in
set_option maxRecDepth 100000 in
theorem text_any (l : List Q4) (hf : ∀ q ∈ l, Fits q) (hlen : l.length ≤ 1000000) (hpos : 1 ≤ l.length) (c : Nat) (hc : c < 256) (t : ByteArray) (ht : t = ⟨(key l c).toArray⟩) : TextIs l c t := by
  intro b v w hb h0 hv
  have HT : Hid (t = ⟨(key l c).toArray⟩) := ht
  clear ht
  rcases hv with ⟨rfl, a, cap, rfl⟩ | ⟨g, off, cap, rfl, hl, hm, hlt, hcell⟩
  · simp at hpos
  · obtain ⟨n, hn⟩ : ∃ n, n = (l.length + 7) / 8 := ⟨_, rfl⟩
    have HE1 : Hid (((l.length : Int) + 8 - 1) / 8 = (n : Int)) := by show _ = _; omega
    have hr0 := st.made_row w n
    obtain ⟨i0, hi0, hz0, hz1, hz2⟩ := info_parts st.info5
    have hB0 : Below w.heap.size w (w.alloc (.cells (madeCells #[.int .u8 0] n) 5)) := (Below.refl _ _).alloc (Nat.le_refl _) _
    have h1 := (hB0.cell (p := ⟨b, 0, none⟩) hb).trans h0
    have hn2 : n ≤ 1000000 := by omega
    have HNN : Hid (n = (l.length + 7) / 8) := hn
    clear hn
    go_enter Try.func53, Try.ntmps53
    go_wp2_with (refine wpList_make_row _ rfl (.tmp 16) (.tmp 16) 37 rfl 5 i0 (.int .u8 0) Try.underlying37 hi0 hz0 hz1 rfl .i64 .i64 n (congrArg (Value.int .i64) HE1.out) (congrArg (Value.int .i64) HE1.out) (by rw [hz2]; omega) (by omega) ?_)
    clear HE1 hi0 hz0 hz1 hz2
    go_loopw [23] (fun x wr => ∃ i : Nat, x = .int .i64 i ∧ i ≤ l.length ∧ st.Row wr w.heap.size (packTo (sig l c) i) ∧ Below w.heap.size w wr) (fun x _ => l.length - (intOf x).toNat)
    case atStart => exact ⟨0, rfl, by omega, by rw [packTo, st.sig_length, ← HNN.out]; exact hr0, hB0⟩
    case round =>
      obtain ⟨i, rfl, hi, hR, hB⟩ := hrel
      have hpl := st.packTo_length (sig l c) i
      rw [st.sig_length, ← HNN.out] at hpl
      by_cases hend : i < l.length
      · obtain ⟨c0, c1, c2, c3⟩ := hcell i hend
        rw [← hB.cell (p := ⟨g, off + i * 4, none⟩) hlt] at c0
        rw [← hB.cell (p := ⟨g, off + i * 4 + 1, none⟩) hlt] at c1
        rw [← hB.cell (p := ⟨g, off + i * 4 + 2, none⟩) hlt] at c2
        rw [← hB.cell (p := ⟨g, off + i * 4 + 3, none⟩) hlt] at c3
        have hfx := hf _ (st.nth_mem l i hend)
        by_cases hh : has (nth l i) c = true
        · have hp := st.has_any (nth l i) hfx c hc true hh.symm
          obtain ⟨k, hk⟩ : ∃ k, k = i / 8 := ⟨_, rfl⟩
          obtain ⟨m, hm8⟩ : ∃ m, m = i % 8 := ⟨_, rfl⟩
          have e2 : ((i : Int) / 8) = (k : Int) := by omega
          have e3 : ((i : Int) % 8) = (m : Int) := by omega
          obtain ⟨y, hy⟩ : ∃ y, y = (packTo (sig l c) i).getD k 0 := ⟨_, rfl⟩
          have hy2 : y < 256 := by rw [hy]; exact st.getD_lt_256 _ (st.packTo_lt _ _) _
          have e4 := st.bit8_or y m hy2 (by omega)
          have hkn : k < n := by have := HNN.out; omega
          have HP : Hid (packTo (sig l c) (i + 1) = (packTo (sig l c) i).set k (y ||| 2 ^ m)) := by show _ = _; rw [st.pack_in hend hh, hy, hk, hm8]
          have HC : Hid (∀ W, st.Row W w.heap.size (packTo (sig l c) i) → W.cell? ⟨w.heap.size, k, none⟩ = some (.int .u8 (y : Nat))) := fun W hW => by rw [hW.cell k (by omega), hy]
          generalize nth l i = x at *
          clear hcell hh hk hm8 hy hpl
          go_wp2_with (go_at_call 67; refine (hp _).mono ?_; rintro e w1 ⟨rfl, b1⟩; have hR3 := hR.later b1; have hB3 := chain hB b1; have kc := HC.out _ hR3; have kf := hR3.fz k)
          go_region
          all_goals go_wp2
          all_goals exact ⟨⟨i + 1, by go_num, by omega, by rw [HP.out]; exact hR3.put k _, (hB3.setCell (p := ⟨w.heap.size, k, none⟩) (Nat.le_refl _) _).drew⟩, by simp [intOf]; omega⟩
        · have hfl : has (nth l i) c = false := by simpa using hh
          have hp := st.has_any (nth l i) hfx c hc false hfl.symm
          have HP : Hid (packTo (sig l c) (i + 1) = packTo (sig l c) i) := st.pack_out hend hfl
          generalize nth l i = x at *
          clear hcell hh hfl
          go_wp2_with (go_at_call 67; refine (hp _).mono ?_; rintro e w1 ⟨rfl, b1⟩; have hR3 := hR.later b1; have hB3 := chain hB b1)
          go_roundw
          case rel => exact ⟨i + 1, by go_num, by omega, by rw [HP.out]; exact hR3, hB3⟩
          case measure => simp [intOf]; omega
      · have he : i = l.length := by omega
        have htx := hR.text (st.packTo_lt _ _)
        rw [hpl] at htx
        have HE : Hid (t = ⟨((packTo (sig l c) i).map UInt8.ofNat).toArray⟩) := by show _ = _; rw [HT.out, he]; rfl
        clear HT hcell
        go_wp2
        go_ret
        exact ⟨by rw [HE.out, he]; rfl, hB⟩
end Go.Proofs.Ytkdkibnjfgcppaa.bd

namespace Go.Proofs.Ytkdkibnjfgcppaa.bd
open Go.Sort Go.ChangeShapes Go.WideShapes Go.ChangeAt Go.RowKit Go.Maps
open st (Q4 none4 Fits has key sig packTo nth cells4 chain)
set_option linter.unusedVariables false
set_option maxRecDepth 10000

theorem owns_later {W W' : World} {B : Nat} {v : Value} {l : List Int} (h : df.Owns W B v l) (b : Below W.heap.size W W') : df.Owns W' B v l := by
  refine ⟨h.1, ?_⟩
  rcases h.2 with h0 | ⟨g, cap, cur, rfl, hb, hg, hr⟩
  · exact .inl h0
  · exact .inr ⟨g, cap, cur, rfl, hb, (b.block g (Array.getElem?_eq_some_iff.1 hg).1).trans hg, hr⟩
theorem bit8_and (x m : Nat) (hx : x < 256) : (bits .and .u8 ((x : Int) / 2 ^ m) 1 == 1) = x.testBit m := by
  have h1 : ((x : Int) / 2 ^ m) = ((x / 2 ^ m : Nat) : Int) := by simp
  have h2 := u8_and_nat (x / 2 ^ m) 1 (Nat.lt_of_le_of_lt (Nat.div_le_self _ _) hx) (by omega)
  rw [h1, show ((1 : Nat) : Int) = (1 : Int) from rfl] at *
  rw [h2, Nat.and_one_is_mod, Nat.testBit_eq_decide_div_mod_eq]
  generalize x / 2 ^ m = y
  by_cases h : y % 2 = 1
  · rw [h]; rfl
  · have : y % 2 = 0 := by omega
    rw [this]; rfl
theorem hasT_any (t : ByteArray) (i k m : Nat) (hk : i / 8 = k) (hm : i % 8 = m) (hkt : k < t.size) (hi : i ≤ 1000000) (r : Bool) (hr : r = (t[k].toNat).testBit m) (w : World) : Calls Try.prog 77 #[.string t, .int .i64 (i : Int)] w fun e w' => e = .returned (.bool r) ∧ w' = w := by
  have e2 : ((i : Int) / 8) = (k : Int) := by omega
  have e3 : ((i : Int) % 8) = (m : Int) := by omega
  have hm8 : m < 8 := by omega
  have HB : Hid ((bits BinOp.and IntKind.u8 (↑t[k].toNat / 2 ^ m) 1 == 1) = r) := by show _ = _; rw [hr]; exact bit8_and _ m (UInt8.toNat_lt _)
  clear hk hm hr
  go_enter Try.func77, Try.ntmps77
  go_wp2_with (fail)
  go_ret
  exact ⟨by rw [← HB.out]; rfl, rfl⟩

/-! the text of a set -/
def txt (σ : List Bool) : List UInt8 := (packTo σ σ.length).map UInt8.ofNat
def txtB (σ : List Bool) : ByteArray := ⟨(txt σ).toArray⟩
theorem key_txt (l : List Q4) (c : Nat) : (⟨(key l c).toArray⟩ : ByteArray) = txtB (sig l c) := by
  unfold txtB txt key
  rw [st.sig_length]
theorem txt_len (σ : List Bool) : (txt σ).length = (σ.length + 7) / 8 := by unfold txt; rw [List.length_map, st.packTo_length]
theorem txtB_size (σ : List Bool) : (txtB σ).size = (σ.length + 7) / 8 := by
  show (txt σ).toArray.size = _
  rw [List.size_toArray, txt_len]
theorem txtB_data (σ : List Bool) : (txtB σ).data.toList = txt σ := by simp [txtB]
theorem txt_bit (σ : List Bool) (i : Nat) (hi : i < σ.length) (h : i / 8 < (txtB σ).size) : ((txtB σ)[i / 8].toNat).testBit (i % 8) = σ[i] := by
  have hl := st.packTo_length σ σ.length
  have h2 : i / 8 < (packTo σ σ.length).length := by rw [hl]; omega
  have h1 := st.packTo_bit σ σ.length (Nat.le_refl _) i hi
  have e : (txtB σ)[i / 8].toNat = (packTo σ σ.length).getD (i / 8) 0 := by
    show ((txt σ).toArray[i / 8]'_).toNat = _
    have h3 := st.packTo_lt σ σ.length _ (List.getElem_mem h2)
    simp [txt, h2, Nat.mod_eq_of_lt h3]
  rw [e, h1]
  simp [hi]
theorem txt_inj {σ τ : List Bool} (hl : σ.length = τ.length) (h : txt σ = txt τ) : σ = τ := by
  refine st.pack_inj hl (List.ext_getElem (by rw [st.packTo_length, st.packTo_length, hl]) fun i h1 h2 => ?_)
  have e := congrArg (fun l => l[i]?) h
  simp only [txt, List.getElem?_map, List.getElem?_eq_getElem h1, List.getElem?_eq_getElem h2, Option.map_some, Option.some.injEq] at e
  have a1 := st.packTo_lt σ σ.length _ (List.getElem_mem h1)
  have a2 := st.packTo_lt τ τ.length _ (List.getElem_mem h2)
  have := congrArg UInt8.toNat e
  simpa [Nat.mod_eq_of_lt a1, Nat.mod_eq_of_lt a2] using this
def HasTIs (σ : List Bool) (i : Nat) (r : Bool) : Prop := ∀ w, Calls Try.prog 77 #[.string (txtB σ), .int .i64 (i : Int)] w fun e w' => e = .returned (.bool r) ∧ w' = w
theorem has_txt (σ : List Bool) (hl : σ.length ≤ 1000000) (i : Nat) (hi : i < σ.length) (r : Bool) (hr : r = σ[i]) : HasTIs σ i r := fun w => by
  have h : i / 8 < (txtB σ).size := by rw [txtB_size]; omega
  exact hasT_any (txtB σ) i (i / 8) (i % 8) rfl rfl h (by omega) r (by rw [hr]; exact (txt_bit σ i hi h).symm) w

/-- the states of a set, rising -/
def onTo (σ : List Bool) (i : Nat) : List Int := ((List.range i).filter fun j => σ.getD j false).map fun j : Nat => (j : Int)
theorem onTo_yes (σ : List Bool) (i : Nat) (hi : i < σ.length) (h : σ[i] = true) : onTo σ (i + 1) = onTo σ i ++ [(i : Int)] := by
  unfold onTo
  rw [List.range_succ, List.filter_append]
  simp [List.getD_eq_getElem?_getD, hi, h]
theorem onTo_no (σ : List Bool) (i : Nat) (hi : i < σ.length) (h : σ[i] = false) : onTo σ (i + 1) = onTo σ i := by
  unfold onTo
  rw [List.range_succ, List.filter_append]
  simp [List.getD_eq_getElem?_getD, hi, h]
theorem onTo_len (σ : List Bool) (i : Nat) : (onTo σ i).length ≤ i := by
  unfold onTo
  rw [List.length_map]
  exact Nat.le_trans (List.length_filter_le _ _) (by simp)
theorem mem_onTo (σ : List Bool) (t : Int) : t ∈ onTo σ σ.length ↔ ∃ i : Nat, t = (i : Int) ∧ σ[i]? = some true := by
  unfold onTo
  simp only [List.mem_map, List.mem_filter, List.mem_range]
  constructor
  · rintro ⟨i, ⟨h1, h2⟩, rfl⟩
    refine ⟨i, rfl, ?_⟩
    rw [List.getD_eq_getElem?_getD, List.getElem?_eq_getElem h1] at h2
    rw [List.getElem?_eq_getElem h1]
    simpa using h2
  · rintro ⟨i, rfl, h⟩
    have h1 := (List.getElem?_eq_some_iff.1 h).1
    exact ⟨i, ⟨h1, by rw [List.getD_eq_getElem?_getD, h]; rfl⟩, rfl⟩
def StatesIs (σ : List Bool) : Prop := ∀ b w, b < w.heap.size → w.cell? ⟨b, 0, none⟩ = some (.int .i64 (σ.length : Int)) → Calls Try.prog 76 #[.pointer (some ⟨b, 0, none⟩), .string (txtB σ)] w fun e w' => ∃ v, e = .returned v ∧ df.Owns w' w.heap.size v (onTo σ σ.length) ∧ Below w.heap.size w w'
set_option maxHeartbeats 1000000 in
set_option maxRecDepth 100000 in
theorem states_any (σ : List Bool) (hl : σ.length ≤ 1000000) : StatesIs σ := by
  intro b w hb h0
  have hasT : ∀ (i : Nat) (hi : i < σ.length) (r : Bool), r = σ[i] → HasTIs σ i r := fun i hi r hr => has_txt σ hl i hi r hr
  unfold HasTIs at hasT
  generalize txtB σ = t at *
  have ho0 : df.Owns w w.heap.size (.slice none 0 0) (onTo σ 0) := ⟨by simp [onTo], .inl ⟨rfl, rfl⟩⟩
  go_enter Try.func76, Try.ntmps76
  go_wp2_with (fail)
  go_loopw [5, 12] (fun y x wr => ∃ (i : Nat) (gy : Option Addr) (cy : Nat), y = .slice gy (onTo σ i).length cy ∧ x = .int .i64 i ∧ i ≤ σ.length ∧ df.Owns wr w.heap.size (.slice gy (onTo σ i).length cy) (onTo σ i) ∧ Below w.heap.size w wr) (fun _ x _ => σ.length - (intOf x).toNat)
  case atStart => exact ⟨0, none, 0, rfl, rfl, by omega, ho0, Below.refl _ _⟩
  case round =>
    obtain ⟨i, gy, cy, rfl, rfl, hi, ho, hB⟩ := hrel
    clear ho0
    by_cases hend : i < σ.length
    · cases hs : σ[i] with
      | true =>
        have h76 := hasT i hend true hs.symm
        have HN : Hid (onTo σ (i + 1) = onTo σ i ++ [(i : Int)]) := onTo_yes σ i hend hs
        have hln := onTo_len σ i
        have HO : Hid (df.Owns wr w.heap.size (.slice gy (onTo σ i).length cy) (onTo σ i)) := ho
        have HB : Hid (Below w.heap.size w wr) := hB
        have hsz := hB.size
        clear hasT hs ho hB
        go_wp2_with (first | (go_at_call 77; refine (h76 _).mono ?_; rintro e w1 ⟨rfl, rfl⟩) | (at_builtin; refine nf.wpList_append_at rfl (.tmp 18) (.tmp 20) rfl w.heap.size _ (onTo σ i) (i : Int) _ rfl rfl (owns_later HO.out (nf.below_alloc _ _)) (nf.tmp_cell _ _ _ rfl) (by omega) (by simp; omega) ?_; intro g' cap' w2 hown2 hgr2 hw2))
        go_roundw
        case rel => exact ⟨i + 1, some ⟨g', 0, none⟩, cap', by rw [HN.out]; simp, by go_num, by omega, by rw [HN.out]; simpa using hown2, (HB.out.alloc hsz _).grown hgr2 (by simp; omega) (df.own_ge HO.out)⟩
        case measure => simp [intOf]; omega
      | false =>
        have h76 := hasT i hend false hs.symm
        have HN : Hid (onTo σ (i + 1) = onTo σ i) := onTo_no σ i hend hs
        clear hasT hs
        go_wp2_with (go_at_call 77; refine (h76 _).mono ?_; rintro e w1 ⟨rfl, rfl⟩)
        go_roundw
        case rel => exact ⟨i + 1, gy, cy, by rw [HN.out], by go_num, by omega, by rw [HN.out]; exact ho, hB⟩
        case measure => simp [intOf]; omega
    · have he : i = σ.length := by omega
      subst he
      clear hasT
      go_wp2_with (fail)
      go_ret
      exact ⟨_, rfl, ho, hB⟩
end Go.Proofs.Ytkdkibnjfgcppaa.bd

namespace Go.Proofs.Ytkdkibnjfgcppaa.bd
open Go.Sort Go.ChangeShapes Go.WideShapes Go.ChangeAt Go.RowKit Go.Maps
open df (Kp Row iv In IntsV Owns)
set_option linter.unusedVariables false
set_option maxRecDepth 10000

/-- what of a builder stays -/
structure Hd where
  n : Int
  s : Int
  e : Int
  eo : Option Addr
  em : Nat
  ec : Nat
  vo : Value
  vf : Value
  vl : Value
  cl : List Value
def Hd.cells (h : Hd) (vs vm vn va : Value) : List Value := .int .i64 h.n :: .int .i64 h.s :: .int .i64 h.e :: .slice h.eo h.em h.ec :: h.vo :: h.vf :: h.vl :: vs :: vm :: (h.cl ++ [vn, va])
structure BBox (W : World) (b : Nat) (h : Hd) (vs vm vn va : Value) : Prop where
  blk : W.heap[b]? = some (.cells (h.cells vs vm vn va).toArray 77 (0, 0))
  cl : h.cl.length = 256
section
variable {W W' : World} {b : Nat} {h : Hd} {vs vm vn va : Value}
theorem BBox.lt (k : BBox W b h vs vm vn va) : b < W.heap.size := (Array.getElem?_eq_some_iff.1 k.blk).1
theorem BBox.keep (k : BBox W b h vs vm vn va) (e : W'.heap[b]? = W.heap[b]?) : BBox W' b h vs vm vn va := ⟨e.trans k.blk, k.cl⟩
theorem BBox.fz (k : BBox W b h vs vm vn va) (i : Nat) : W.frozen? ⟨b, i, none⟩ = false := Lib.frozen_of_heap k.blk i
theorem BBox.c0 (k : BBox W b h vs vm vn va) : W.cell? ⟨b, 0, none⟩ = some (.int .i64 h.n) := by rw [Lib.cell_of_heap k.blk]; rfl
theorem BBox.c1 (k : BBox W b h vs vm vn va) : W.cell? ⟨b, 1, none⟩ = some (.int .i64 h.s) := by rw [Lib.cell_of_heap k.blk]; rfl
theorem BBox.c2 (k : BBox W b h vs vm vn va) : W.cell? ⟨b, 2, none⟩ = some (.int .i64 h.e) := by rw [Lib.cell_of_heap k.blk]; rfl
theorem BBox.c3 (k : BBox W b h vs vm vn va) : W.cell? ⟨b, 3, none⟩ = some (.slice h.eo h.em h.ec) := by rw [Lib.cell_of_heap k.blk]; rfl
theorem BBox.c4 (k : BBox W b h vs vm vn va) : W.cell? ⟨b, 4, none⟩ = some h.vo := by rw [Lib.cell_of_heap k.blk]; rfl
theorem BBox.c5 (k : BBox W b h vs vm vn va) : W.cell? ⟨b, 5, none⟩ = some h.vf := by rw [Lib.cell_of_heap k.blk]; rfl
theorem BBox.c6 (k : BBox W b h vs vm vn va) : W.cell? ⟨b, 6, none⟩ = some h.vl := by rw [Lib.cell_of_heap k.blk]; rfl
theorem BBox.c7 (k : BBox W b h vs vm vn va) : W.cell? ⟨b, 7, none⟩ = some vs := by rw [Lib.cell_of_heap k.blk]; rfl
theorem BBox.c8 (k : BBox W b h vs vm vn va) : W.cell? ⟨b, 8, none⟩ = some vm := by rw [Lib.cell_of_heap k.blk]; rfl
theorem tail_at (cl : List Value) (hc : cl.length = 256) (x y : Value) : (cl ++ [x, y])[256]? = some x ∧ (cl ++ [x, y])[257]? = some y := by
  rw [List.getElem?_append_right (by omega), List.getElem?_append_right (by omega), hc]
  exact ⟨rfl, rfl⟩
theorem tail_set (cl : List Value) (hc : cl.length = 256) (x y z : Value) : (cl ++ [x, y]).set 256 z = cl ++ [z, y] ∧ (cl ++ [x, y]).set 257 z = cl ++ [x, z] := by
  rw [List.set_append_right 256 z (by omega), List.set_append_right 257 z (by omega), hc]
  exact ⟨rfl, rfl⟩
theorem BBox.c265 (k : BBox W b h vs vm vn va) : W.cell? ⟨b, 265, none⟩ = some vn := by
  rw [Lib.cell_of_heap k.blk, List.getElem?_toArray]
  exact (tail_at h.cl k.cl vn va).1
theorem BBox.c266 (k : BBox W b h vs vm vn va) : W.cell? ⟨b, 266, none⟩ = some va := by
  rw [Lib.cell_of_heap k.blk, List.getElem?_toArray]
  exact (tail_at h.cl k.cl vn va).2
theorem BBox.set7 (k : BBox W b h vs vm vn va) (v : Value) : BBox (W.setCell ⟨b, 7, none⟩ v) b h v vm vn va := ⟨by rw [nf.set_heap _ _ _ _ 7 _ k.blk, List.setIfInBounds_toArray]; rfl, k.cl⟩
theorem BBox.set8 (k : BBox W b h vs vm vn va) (v : Value) : BBox (W.setCell ⟨b, 8, none⟩ v) b h vs v vn va := ⟨by rw [nf.set_heap _ _ _ _ 8 _ k.blk, List.setIfInBounds_toArray]; rfl, k.cl⟩
theorem BBox.set6 (k : BBox W b h vs vm vn va) (v : Value) : BBox (W.setCell ⟨b, 6, none⟩ v) b { h with vl := v } vs vm vn va := ⟨by rw [nf.set_heap _ _ _ _ 6 _ k.blk, List.setIfInBounds_toArray]; rfl, k.cl⟩
theorem BBox.set265 (k : BBox W b h vs vm vn va) (v : Value) : BBox (W.setCell ⟨b, 265, none⟩ v) b h vs vm v va := by
  refine ⟨?_, k.cl⟩
  rw [nf.set_heap _ _ _ _ 265 _ k.blk, List.setIfInBounds_toArray]
  show some (Obj.cells (_ :: _ :: _ :: _ :: _ :: _ :: _ :: _ :: _ :: ((h.cl ++ [vn, va]).set 256 v)).toArray 77 (0, 0)) = _
  rw [(tail_set h.cl k.cl vn va v).1]
  rfl
theorem BBox.set266 (k : BBox W b h vs vm vn va) (v : Value) : BBox (W.setCell ⟨b, 266, none⟩ v) b h vs vm vn v := by
  refine ⟨?_, k.cl⟩
  rw [nf.set_heap _ _ _ _ 266 _ k.blk, List.setIfInBounds_toArray]
  show some (Obj.cells (_ :: _ :: _ :: _ :: _ :: _ :: _ :: _ :: _ :: ((h.cl ++ [vn, va]).set 257 v)).toArray 77 (0, 0)) = _
  rw [(tail_set h.cl k.cl vn va v).2]
  rfl
end

structure Bu (X : Nat → Prop) (W : World) (B b mb : Nat) (h : Hd) (vs vn va : Value) (ss nn : List Value) (ac : List Bool) (m : Nat) (D : DataW Unit) : Prop where
  box : BBox W b h vs (.map (some mb)) vn va
  map : W.ownsMap Try.prog 9 (plainElem (H := Unit) Try.prog 3) mb m D
  os : W.ownsRow B 39 1 vs ss.length ss
  on : W.ownsRow B 39 1 vn nn.length nn
  oa : W.ownsRow B 4 1 va ac.length (ac.map Value.bool)
  sn : ∀ g, vs.ownBlock = some g → vn.ownBlock ≠ some g
  bb : B ≤ b
  bm : B ≤ mb
  ap : ∀ k, X k → k < W.heap.size ∧ k ≠ b ∧ k ≠ mb ∧ some k ≠ vs.ownBlock ∧ some k ≠ vn.ownBlock ∧ some k ≠ va.ownBlock
section
variable {X Y : Nat → Prop} {W W' : World} {B b mb : Nat} {h : Hd} {vs vn va : Value} {ss nn : List Value} {ac : List Bool} {m : Nat} {D : DataW Unit}
theorem Bu.mobj (k : Bu X W B b mb h vs vn va ss nn ac m D) : ∃ es clock, W.heap[mb]? = some (.map es clock) := by
  obtain ⟨es, clock, hb, _⟩ := k.map
  exact ⟨es, clock, hb⟩
theorem Bu.mlt (k : Bu X W B b mb h vs vn va ss nn ac m D) : mb < W.heap.size := by
  obtain ⟨es, clock, hb⟩ := k.mobj
  exact (Array.getElem?_eq_some_iff.1 hb).1
theorem Bu.ne (k : Bu X W B b mb h vs vn va ss nn ac m D) : b ≠ mb := fun e => by
  obtain ⟨es, clock, hb⟩ := k.mobj
  have := k.box.blk
  rw [e, hb] at this
  cases this
theorem Bu.ms (k : Bu X W B b mb h vs vn va ss nn ac m D) : some mb ≠ vs.ownBlock ∧ some mb ≠ vn.ownBlock ∧ some mb ≠ va.ownBlock := by
  obtain ⟨es, clock, hb⟩ := k.mobj
  exact ⟨ow.kind k.os hb rfl, ow.kind k.on hb rfl, ow.kind k.oa hb rfl⟩
theorem Bu.bs (k : Bu X W B b mb h vs vn va ss nn ac m D) : some b ≠ vs.ownBlock ∧ some b ≠ vn.ownBlock ∧ some b ≠ va.ownBlock :=
  ⟨ow.type k.os k.box.blk (by decide), ow.type k.on k.box.blk (by decide), ow.type k.oa k.box.blk (by decide)⟩
theorem own_ne {W : World} {B e1 e2 s1 s2 n1 n2 : Nat} {v1 v2 : Value} {x1 x2 : List Value} (h1 : W.ownsRow B e1 s1 v1 n1 x1) (h2 : W.ownsRow B e2 s2 v2 n2 x2) (hne : e1 ≠ e2) (g : Nat) (hg : v1.ownBlock = some g) : some g ≠ v2.ownBlock := by
  rcases h1.2 with ⟨rfl, _⟩ | ⟨gg, cap, cur, rfl, _, hgg, _⟩
  · cases hg
  · cases hg
    exact ow.type h2 hgg hne
theorem Bu.size (k : Bu X W B b mb h vs vn va ss nn ac m D) : B ≤ W.heap.size := Nat.le_trans k.bb (Nat.le_of_lt k.box.lt)
theorem map_keep (hm : W.ownsMap Try.prog 9 (plainElem (H := Unit) Try.prog 3) mb m D) (e : W'.heap[mb]? = W.heap[mb]?) : W'.ownsMap Try.prog 9 (plainElem (H := Unit) Try.prog 3) mb m D := by
  obtain ⟨es, clock, hb, hr⟩ := hm
  exact ⟨es, clock, e.trans hb, hr⟩
/-- other blocks turned, or new ones -/
theorem Bu.keep (k : Bu X W B b mb h vs vn va ss nn ac m D) (hs : W.heap.size ≤ W'.heap.size) (h1 : W'.heap[b]? = W.heap[b]?) (h2 : W'.heap[mb]? = W.heap[mb]?) (h3 : ∀ g, vs.ownBlock = some g → W'.heap[g]? = W.heap[g]?) (h4 : ∀ g, vn.ownBlock = some g → W'.heap[g]? = W.heap[g]?) (h5 : ∀ g, va.ownBlock = some g → W'.heap[g]? = W.heap[g]?) : Bu X W' B b mb h vs vn va ss nn ac m D :=
  ⟨k.box.keep h1, map_keep k.map h2, ow.keep k.os h3, ow.keep k.on h4, ow.keep k.oa h5, k.sn, k.bb, k.bm, fun g hg => ⟨Nat.lt_of_lt_of_le (k.ap g hg).1 hs, (k.ap g hg).2⟩⟩
theorem Bu.later (k : Bu X W B b mb h vs vn va ss nn ac m D) (c : Below W.heap.size W W') : Bu X W' B b mb h vs vn va ss nn ac m D :=
  k.keep c.size (c.block _ k.box.lt) (c.block _ k.mlt) (fun g e => c.block g (ow.lt k.os e).2) (fun g e => c.block g (ow.lt k.on e).2) (fun g e => c.block g (ow.lt k.oa e).2)
theorem Bu.apart (k : Bu X W B b mb h vs vn va ss nn ac m D) (hy : ∀ g, Y g → g < W.heap.size ∧ g ≠ b ∧ g ≠ mb ∧ some g ≠ vs.ownBlock ∧ some g ≠ vn.ownBlock ∧ some g ≠ va.ownBlock) : Bu Y W B b mb h vs vn va ss nn ac m D :=
  ⟨k.box, k.map, k.os, k.on, k.oa, k.sn, k.bb, k.bm, hy⟩
theorem far {e sz n : Nat} {v : Value} {xs : List Value} (ho : W.ownsRow B e sz v n xs) {g : Nat} (hg : W.heap.size ≤ g) : some g ≠ v.ownBlock := fun e => by
  have := (ow.lt ho e.symm).2; omega
/-- blocks made since belong to the rest, too -/
theorem Bu.more (k : Bu X W B b mb h vs vn va ss nn ac m D) (c : Below W.heap.size W W') (hy : ∀ g, Y g → X g ∨ (W.heap.size ≤ g ∧ g < W'.heap.size)) : Bu Y W' B b mb h vs vn va ss nn ac m D :=
  (k.later c).apart fun g hg => by
    rcases hy g hg with h1 | ⟨h1, h2⟩
    · exact ⟨Nat.lt_of_lt_of_le (k.ap g h1).1 c.size, (k.ap g h1).2⟩
    · have e1 := k.box.lt
      have e2 := k.mlt
      exact ⟨h2, by omega, by omega, far k.os h1, far k.on h1, far k.oa h1⟩
theorem Bu.putMap (k : Bu X W B b mb h vs vn va ss nn ac m D) {m' : Nat} {D' : DataW Unit} (ho : W'.ownsMap Try.prog 9 (plainElem (H := Unit) Try.prog 3) mb m' D') (hg : W.grownBy W' (some mb)) : Bu X W' B b mb h vs vn va ss nn ac m' D' := by
  have hh : ∀ g, g < W.heap.size → g ≠ mb → W'.heap[g]? = W.heap[g]? := fun g h1 h2 => hg.block g h1 (fun e => h2 (Option.some.inj e))
  exact ⟨k.box.keep (hh b k.box.lt k.ne), ho, ow.keep k.os fun g e => hh g (ow.lt k.os e).2 (fun e2 => k.ms.1 (by rw [← e2]; exact e.symm)), ow.keep k.on fun g e => hh g (ow.lt k.on e).2 (fun e2 => k.ms.2.1 (by rw [← e2]; exact e.symm)), ow.keep k.oa fun g e => hh g (ow.lt k.oa e).2 (fun e2 => k.ms.2.2 (by rw [← e2]; exact e.symm)), k.sn, k.bb, k.bm, fun g hg' => ⟨Nat.lt_of_lt_of_le (k.ap g hg').1 hg.size, (k.ap g hg').2⟩⟩
theorem new_ne {g g' k' cap' : Nat} {v : Value} (hw : some g' = v.ownBlock ∨ W.heap.size ≤ g') (h1 : g < W.heap.size) (h2 : some g ≠ v.ownBlock) : some g ≠ (Value.slice (some ⟨g', 0, none⟩) k' cap').ownBlock := fun e => by
  simp [Value.ownBlock] at e
  subst e
  rcases hw with e3 | e3
  · exact h2 e3
  · omega
/-- the row of sets grown, and laid in its cell -/
theorem Bu.putS (k : Bu X W B b mb h vs vn va ss nn ac m D) {ss' : List Value} {g' k' cap' : Nat} (hk' : k' = ss'.length) (ho : W'.ownsRow B 39 1 (.slice (some ⟨g', 0, none⟩) k' cap') k' ss') (hg : W.grownBy W' vs.ownBlock) (hw : some g' = vs.ownBlock ∨ W.heap.size ≤ g') :
    Bu X (W'.setCell ⟨b, 7, none⟩ (.slice (some ⟨g', 0, none⟩) k' cap')) B b mb h (.slice (some ⟨g', 0, none⟩) k' cap') vn va ss' nn ac m D := by
  subst hk'
  have hb1 := k.box.keep (hg.block b k.box.lt k.bs.1)
  have hh : ∀ g, g ≠ b → (W'.setCell ⟨b, 7, none⟩ (.slice (some ⟨g', 0, none⟩) ss'.length cap')).heap[g]? = W'.heap[g]? := fun g hk => Below.heap_setCell _ _ _ g hk
  have hm1 : W'.heap[mb]? = W.heap[mb]? := hg.block mb k.mlt k.ms.1
  have hn1 : ∀ g, vn.ownBlock = some g → W'.heap[g]? = W.heap[g]? := fun g e => hg.block g (ow.lt k.on e).2 (fun e2 => k.sn g e2.symm e)
  have ha1 : ∀ g, va.ownBlock = some g → W'.heap[g]? = W.heap[g]? := fun g e => hg.block g (ow.lt k.oa e).2 (own_ne k.oa k.os (by decide) g e)
  refine ⟨hb1.set7 _, map_keep k.map ((hh mb k.ne.symm).trans hm1), ow.keep ho fun g e => hh g (fun e2 => ow.type ho hb1.blk (by decide) (by rw [← e2]; exact e.symm)), ow.keep k.on fun g e => (hh g (fun e2 => k.bs.2.1 (by rw [← e2]; exact e.symm))).trans (hn1 g e), ow.keep k.oa fun g e => (hh g (fun e2 => k.bs.2.2 (by rw [← e2]; exact e.symm))).trans (ha1 g e), ?_, k.bb, k.bm, fun g hx => ?_⟩
  · intro g e e2
    exact new_ne hw (ow.lt k.on e2).2 (fun e3 => k.sn g e3.symm e2) e.symm
  · obtain ⟨a1, a2, a3, a4, a5, a6⟩ := k.ap g hx
    exact ⟨by have := hg.size; simp; omega, a2, a3, new_ne hw a1 a4, a5, a6⟩
theorem Bu.putN (k : Bu X W B b mb h vs vn va ss nn ac m D) {nn' : List Value} {g' k' cap' : Nat} (hk' : k' = nn'.length) (ho : W'.ownsRow B 39 1 (.slice (some ⟨g', 0, none⟩) k' cap') k' nn') (hg : W.grownBy W' vn.ownBlock) (hw : some g' = vn.ownBlock ∨ W.heap.size ≤ g') :
    Bu X (W'.setCell ⟨b, 265, none⟩ (.slice (some ⟨g', 0, none⟩) k' cap')) B b mb h vs (.slice (some ⟨g', 0, none⟩) k' cap') va ss nn' ac m D := by
  subst hk'
  have hb1 := k.box.keep (hg.block b k.box.lt k.bs.2.1)
  have hh : ∀ g, g ≠ b → (W'.setCell ⟨b, 265, none⟩ (.slice (some ⟨g', 0, none⟩) nn'.length cap')).heap[g]? = W'.heap[g]? := fun g hk => Below.heap_setCell _ _ _ g hk
  have hm1 : W'.heap[mb]? = W.heap[mb]? := hg.block mb k.mlt k.ms.2.1
  have hn1 : ∀ g, vs.ownBlock = some g → W'.heap[g]? = W.heap[g]? := fun g e => hg.block g (ow.lt k.os e).2 (fun e2 => k.sn g e e2.symm)
  have ha1 : ∀ g, va.ownBlock = some g → W'.heap[g]? = W.heap[g]? := fun g e => hg.block g (ow.lt k.oa e).2 (own_ne k.oa k.on (by decide) g e)
  refine ⟨hb1.set265 _, map_keep k.map ((hh mb k.ne.symm).trans hm1), ow.keep k.os fun g e => (hh g (fun e2 => k.bs.1 (by rw [← e2]; exact e.symm))).trans (hn1 g e), ow.keep ho fun g e => hh g (fun e2 => ow.type ho hb1.blk (by decide) (by rw [← e2]; exact e.symm)), ow.keep k.oa fun g e => (hh g (fun e2 => k.bs.2.2 (by rw [← e2]; exact e.symm))).trans (ha1 g e), ?_, k.bb, k.bm, fun g hx => ?_⟩
  · intro g e e2
    exact new_ne hw (ow.lt k.os e).2 (fun e3 => k.sn g e e3.symm) e2.symm
  · obtain ⟨a1, a2, a3, a4, a5, a6⟩ := k.ap g hx
    exact ⟨by have := hg.size; simp; omega, a2, a3, a4, new_ne hw a1 a5, a6⟩
theorem Bu.putA (k : Bu X W B b mb h vs vn va ss nn ac m D) {ac2 : List Bool} {g' k' cap' : Nat} (hk' : k' = ac2.length) (ho : W'.ownsRow B 4 1 (.slice (some ⟨g', 0, none⟩) k' cap') k' (ac2.map Value.bool)) (hg : W.grownBy W' va.ownBlock) (hw : some g' = va.ownBlock ∨ W.heap.size ≤ g') :
    Bu X (W'.setCell ⟨b, 266, none⟩ (.slice (some ⟨g', 0, none⟩) k' cap')) B b mb h vs vn (.slice (some ⟨g', 0, none⟩) k' cap') ss nn ac2 m D := by
  subst hk'
  have hb1 := k.box.keep (hg.block b k.box.lt k.bs.2.2)
  have hh : ∀ g, g ≠ b → (W'.setCell ⟨b, 266, none⟩ (.slice (some ⟨g', 0, none⟩) ac2.length cap')).heap[g]? = W'.heap[g]? := fun g hk => Below.heap_setCell _ _ _ g hk
  have hm1 : W'.heap[mb]? = W.heap[mb]? := hg.block mb k.mlt k.ms.2.2
  have hs1 : ∀ g, vs.ownBlock = some g → W'.heap[g]? = W.heap[g]? := fun g e => hg.block g (ow.lt k.os e).2 (own_ne k.os k.oa (by decide) g e)
  have hn1 : ∀ g, vn.ownBlock = some g → W'.heap[g]? = W.heap[g]? := fun g e => hg.block g (ow.lt k.on e).2 (own_ne k.on k.oa (by decide) g e)
  refine ⟨hb1.set266 _, map_keep k.map ((hh mb k.ne.symm).trans hm1), ow.keep k.os fun g e => (hh g (fun e2 => k.bs.1 (by rw [← e2]; exact e.symm))).trans (hs1 g e), ow.keep k.on fun g e => (hh g (fun e2 => k.bs.2.1 (by rw [← e2]; exact e.symm))).trans (hn1 g e), ow.keep ho fun g e => hh g (fun e2 => ow.type ho hb1.blk (by decide) (by rw [← e2]; exact e.symm)), k.sn, k.bb, k.bm, fun g hx => ?_⟩
  obtain ⟨a1, a2, a3, a4, a5, a6⟩ := k.ap g hx
  exact ⟨by have := hg.size; simp; omega, a2, a3, a4, a5, new_ne hw a1 a6⟩
end
/-- how far a world is moved -/
structure Mv (X : Nat → Prop) (B : Nat) (W W' : World) : Prop where
  kp : Kp X W W'
  be : Below B W W'
section
variable {X Y : Nat → Prop} {B : Nat} {W W' W'' : World}
theorem Mv.refl (X : Nat → Prop) (B : Nat) (W : World) : Mv X B W W := ⟨⟨Nat.le_refl _, fun _ _ => rfl⟩, Below.refl _ _⟩
theorem Mv.trans (h : Mv X B W W') (k : Mv X B W' W'') : Mv X B W W'' := ⟨h.kp.trans k.kp, h.be.trans k.be⟩
theorem Mv.less (h : Mv X B W W') (hx : ∀ b, Y b → X b) : Mv Y B W W' := ⟨⟨h.kp.1, fun b hb => h.kp.2 b (hx b hb)⟩, h.be⟩
theorem Mv.set (h : Mv X B W W') {g : Nat} (hX : ∀ b, X b → b ≠ g) (hB : B ≤ g) (i : Nat) (v : Value) : Mv X B W (W'.setCell ⟨g, i, none⟩ v) :=
  h.trans ⟨⟨by simp, fun b hb => Below.heap_setCell _ _ _ b (hX b hb)⟩, (Below.refl B W').setCell (p := ⟨g, i, none⟩) hB v⟩
theorem Mv.later (k : Mv X B W W') (c : Below W'.heap.size W' W'') (hX : ∀ b, X b → b < W'.heap.size) (hB : B ≤ W'.heap.size) : Mv X B W W'' := k.trans ⟨⟨c.size, fun b hb => c.block b (hX b hb)⟩, c.mono hB⟩
theorem Mv.grown {r : Option Nat} (k : Mv X B W W') (hg : W'.grownBy W'' r) (hr : ∀ g, r = some g → B ≤ g) (hX : ∀ b, X b → b < W'.heap.size ∧ some b ≠ r) (hB : B ≤ W'.heap.size) : Mv X B W W'' :=
  k.trans ⟨⟨hg.size, fun b hb => hg.block b (hX b hb).1 (hX b hb).2⟩, (Below.refl B W').grown hg hB hr⟩
end
end Go.Proofs.Ytkdkibnjfgcppaa.bd

namespace Go.Proofs.Ytkdkibnjfgcppaa.bd
open Go.Sort Go.ChangeShapes Go.WideShapes Go.ChangeAt Go.RowKit Go.Maps
open df (Kp Row iv In IntsV Owns)
set_option linter.unusedVariables false
set_option maxRecDepth 10000

def RowV (X : Nat → Prop) (W : World) (v : Value) (l : List Int) : Prop := ∃ o cap, v = .slice o l.length cap ∧ Row X W iv o cap l
theorem RowV.carry {X Y : Nat → Prop} {W W' : World} {v : Value} {l : List Int} (h : RowV X W v l) (hk : ∀ b, X b → W'.heap[b]? = W.heap[b]?) (hq : ∀ b, X b → Y b) : RowV Y W' v l := by
  obtain ⟨o, cap, e, hr⟩ := h
  exact ⟨o, cap, e, hr.carry hk hq⟩
structure Rws (X : Nat → Prop) (W : World) (ss : List Value) (ls : List (List Int)) : Prop where
  len : ss.length = ls.length
  at' : ∀ (i : Nat) v l, ss[i]? = some v → ls[i]? = some l → RowV X W v l
theorem Rws.carry {X Y : Nat → Prop} {W W' : World} {ss : List Value} {ls : List (List Int)} (h : Rws X W ss ls) (hk : ∀ b, X b → W'.heap[b]? = W.heap[b]?) (hq : ∀ b, X b → Y b) : Rws Y W' ss ls :=
  ⟨h.len, fun i v l h1 h2 => (h.at' i v l h1 h2).carry hk hq⟩
theorem Rws.snoc {X : Nat → Prop} {W : World} {ss : List Value} {ls : List (List Int)} (h : Rws X W ss ls) {v : Value} {l : List Int} (hv : RowV X W v l) : Rws X W (ss ++ [v]) (ls ++ [l]) :=
  ⟨by simp [h.len], fun i u m h1 h2 => by
    by_cases hi : i < ss.length
    · rw [List.getElem?_append_left hi] at h1
      rw [List.getElem?_append_left (by rw [← h.len]; exact hi)] at h2
      exact h.at' i u m h1 h2
    · have hi2 := (List.getElem?_eq_some_iff.1 h1).1
      have e : i = ss.length := by simp at hi2; omega
      subst e
      rw [List.getElem?_append_right (Nat.le_refl _)] at h1
      rw [h.len, List.getElem?_append_right (Nat.le_refl _)] at h2
      simp at h1 h2
      subst h1 h2
      exact hv⟩
theorem rws_nil (X : Nat → Prop) (W : World) : Rws X W [] [] := ⟨rfl, fun i v l h => by simp at h⟩

structure MapOk (n : Nat) (L : List (List Bool)) (D : DataW Unit) : Prop where
  has : ∀ τ : List Bool, τ.length = n → Maps.has D (.string (txt τ)) = (decide (τ = off n) || decide (τ ∈ L))
  none : D.atKey (.string (txt (off n))) (.lit (.int .i64 0)) = .lit (.int .i64 (-1))
  at' : ∀ (k : Nat) τ, L[k]? = some τ → D.atKey (.string (txt τ)) (.lit (.int .i64 0)) = .lit (.int .i64 (k : Int))
theorem off_len (n : Nat) : (off n).length = n := by simp [off]
theorem MapOk.put {n : Nat} {L : List (List Bool)} {D : DataW Unit} (h : MapOk n L D) (hT : Tidy D) (hL : ∀ σ ∈ L, σ.length = n) {σ : List Bool} (hs : σ.length = n) (h1 : σ ≠ off n) (h2 : σ ∉ L) : MapOk n (L ++ [σ]) (D.put (.string (txt σ)) (.lit (.int .i64 (L.length : Int)))) := by
  have hne : ∀ τ : List Bool, τ.length = n → τ ≠ σ → (Lit.string (txt τ)) ≠ .string (txt σ) := fun τ ht e e2 => e (txt_inj (by rw [ht, hs]) (Lit.string.inj e2))
  refine ⟨fun τ ht => ?_, ?_, fun k τ hk => ?_⟩
  · by_cases e : τ = σ
    · subst e
      rw [has_put_same hT.isMap (show WideAt.IsKeyLit (.string _) from trivial)]
      simp
    · rw [has_put_other (hne τ ht e), h.has τ ht]
      simp [e]
  · rw [atKey_put_other (hne _ (off_len n) h1.symm)]
    exact h.none
  · by_cases hk2 : k < L.length
    · rw [List.getElem?_append_left hk2] at hk
      have hm := List.mem_of_getElem? hk
      rw [atKey_put_other (hne τ (hL τ hm) (fun e => h2 (e ▸ hm)))]
      exact h.at' k τ hk
    · have hi2 := (List.getElem?_eq_some_iff.1 hk).1
      have e : k = L.length := by simp at hi2; omega
      subst e
      rw [List.getElem?_append_right (Nat.le_refl _)] at hk
      simp at hk
      subst hk
      rw [atKey_put_same hT.isMap (show WideAt.IsKeyLit (.string _) from trivial)]

/-- the builder between two of its steps -/
structure Bst (X Y : Nat → Prop) (W : World) (B b mb : Nat) (h : Hd) (n e : Nat) (L : List (List Bool)) (nn : List Value) (vs vn va : Value) (ss : List Value) (m : Nat) (D : DataW Unit) : Prop where
  bu : Bu X W B b mb h vs vn va ss nn (L.map fun σ => σ.getD e false) m D
  rs : Rws Y W ss (L.map fun σ => onTo σ σ.length)
  yx : ∀ k, Y k → X k
  mp : MapOk n L D
  m1 : m ≤ L.length + 1
  hn : h.n = (n : Int)
  he : h.e = (e : Int)
  en : e < n
  n2 : n ≤ 2000
  ln : ∀ σ ∈ L, σ.length = n
theorem key_of (σ : List Bool) (h : σ.length ≤ 2000) : keyOf Try.prog 9 (.string (txtB σ)) = some (.string (txt σ)) := by
  have hs := txtB_size σ
  have := Go.WideMaps.keyOf_string_mk (P := Try.prog) (s := txtB σ) Try.underlying9 (by rw [hs]; unfold maxLen; omega)
  rw [txtB_data] at this
  exact this
def OldIs (σ : List Bool) (r : Int) (b : Nat) (W : World) : Prop := Calls Try.prog 58 #[.pointer (some ⟨b, 0, none⟩), .string (txtB σ)] W fun e W' => e = .returned (.int .i64 r) ∧ W' = W
set_option maxHeartbeats 1000000 in
theorem number_old {X Y : Nat → Prop} {W : World} {B b mb : Nat} {h : Hd} {n e : Nat} {L : List (List Bool)} {nn : List Value} {vs vn va : Value} {ss : List Value} {m : Nat} {D : DataW Unit} (k : Bst X Y W B b mb h n e L nn vs vn va ss m D) (σ : List Bool) (hs : σ.length = n) (r : Int) (hr : σ = off n ∧ r = -1 ∨ ∃ i : Nat, L[i]? = some σ ∧ r = (i : Int)) : OldIs σ r b W := by
  have hn2 := k.n2
  have hkey := key_of σ (by omega)
  have hat : D.atKey (.string (txt σ)) (.lit (.int .i64 0)) = .lit (.int .i64 r) := by
    rcases hr with ⟨rfl, rfl⟩ | ⟨i, h1, rfl⟩
    · exact k.mp.none
    · exact k.mp.at' i σ h1
  have hhas : Maps.has D (.string (txt σ)) = true := by
    rw [k.mp.has σ hs]
    rcases hr with ⟨h1, _⟩ | ⟨i, h1, _⟩
    · simp [h1]
    · simp [List.mem_of_getElem? h1]
  have c8 := k.bu.box.c8
  have hown := k.bu.map
  unfold OldIs
  generalize txtB σ = t at *
  generalize Lit.string (txt σ) = kl at *
  clear k hr hs
  go_enter Try.func58, Try.ntmps58
  go_wp2_with (at_lookup; refine wpList_lookup_own_ok_int _ rfl _ _ 75 rfl 9 3 .i64 st.law9 Try.underlying75 Try.underlying3 (st.zero3 _) mb m D rfl hown _ _ rfl hkey ?_; intro c hat2 hwc; rw [hat] at hat2; simp only [DataW.lit.injEq, Lit.int.injEq, true_and] at hat2; subst hat2; rw [hhas]; clear hwc)
  go_ret
  exact ⟨rfl, rfl⟩
end Go.Proofs.Ytkdkibnjfgcppaa.bd

namespace Go.Proofs.Ytkdkibnjfgcppaa.bd
open Go.Sort Go.ChangeShapes Go.WideShapes Go.ChangeAt Go.RowKit Go.Maps
open df (Kp Row iv In IntsV Owns)
set_option linter.unusedVariables false
set_option maxRecDepth 10000

theorem info39 : (Try.prog.info? 39).map (fun i => (i.zero, i.size, i.bytes)) = some (some (.slice none 0 0), 1, 24) := by kernel_rfl
theorem info4 : (Try.prog.info? 4).map (fun i => (i.zero, i.size, i.bytes)) = some (some (.bool false), 1, 1) := by kernel_rfl
theorem below_drew (w : World) : Below w.heap.size w w.drew := (Below.refl _ _).drew
theorem owns_rowV {X : Nat → Prop} {W : World} {B : Nat} {v : Value} {l : List Int} (h : Owns W B v l) (hx : ∀ g, some g = v.ownBlock → X g) : RowV X W v l := by
  obtain ⟨g, cap, rfl⟩ := df.own_slice h
  exact ⟨g, cap, rfl, nf.own_row h hx⟩
theorem new1d (W : World) (u : Value) (t : TypeId) : ∀ j x, [u][j]? = some x → (W.alloc (.cells #[u] t)).drew.cell? ((⟨W.heap.size, 0, none⟩ : Addr).add j) = some x := ow.new1 W u t
def NewIs (X Y : Nat → Prop) (W : World) (B b mb : Nat) (h : Hd) (n e : Nat) (L : List (List Bool)) (nn : List Value) (σ : List Bool) (r : Int) : Prop := Calls Try.prog 58 #[.pointer (some ⟨b, 0, none⟩), .string (txtB σ)] W fun ev W' => ev = .returned (.int .i64 r) ∧ ∃ X' Y' vs vn va ss m D, (∀ k, X k → X' k) ∧ (∀ k, X' k → X k ∨ W.heap.size ≤ k) ∧ (∀ k, Y k → Y' k) ∧ (∀ k, Y' k → Y k ∨ W.heap.size ≤ k) ∧ Bst X' Y' W' B b mb h n e (L ++ [σ]) nn vs vn va ss m D ∧ Mv X B W W'
theorem new_all {X X' Y : Nat → Prop} {vb : Option Nat} {W w2 Wf : World} {B b mb : Nat} {h : Hd} {n e : Nat} {L : List (List Bool)} {nn : List Value} {vs vn va vs' va' v : Value} {ss ss' : List Value} {ac' : List Bool} {m : Nat} {D : DataW Unit} (k : Bst X Y W B b mb h n e L nn vs vn va ss m D) {σ : List Bool} (hs : σ.length = n) (h1 : σ ≠ off n) (h2 : σ ∉ L)
    (M1 : Mv X B W w2) (hX : ∀ k, X k → X' k) (hX2 : ∀ k, X' k → X k ∨ W.heap.size ≤ k) (M2 : Mv X' B w2 Wf) (hvb : ∀ g, some g = vb → X' g ∧ W.heap.size ≤ g) (hv : RowV (fun g => Y g ∨ some g = vb) w2 v (onTo σ σ.length)) (hss : ss' = ss ++ [v]) (hac : ac' = (L.map fun σ => σ.getD e false) ++ [σ.getD e false]) (bu : Bu X' Wf B b mb h vs' vn va' ss' nn ac' (m + 1) (D.put (.string (txt σ)) (.lit (.int .i64 (ss.length : Int))))) (hT : Tidy D) :
    ∃ X' Y' vs vn va ss m D, (∀ k, X k → X' k) ∧ (∀ k, X' k → X k ∨ W.heap.size ≤ k) ∧ (∀ k, Y k → Y' k) ∧ (∀ k, Y' k → Y k ∨ W.heap.size ≤ k) ∧ Bst X' Y' Wf B b mb h n e (L ++ [σ]) nn vs vn va ss m D ∧ Mv X B W Wf := by
  have hl := k.rs.len
  rw [List.length_map] at hl
  refine ⟨X', fun g => Y g ∨ some g = vb, vs', vn, va', ss', m + 1, D.put (.string (txt σ)) (.lit (.int .i64 (ss.length : Int))), hX, hX2, fun _ h => .inl h, fun g hg => hg.imp id (fun e => (hvb g e).2), ⟨?_, ?_, fun g hg => hg.elim (fun h => hX g (k.yx g h)) (fun e => (hvb g e).1), ?_, ?_, k.hn, k.he, k.en, k.n2, ?_⟩, M1.trans (M2.less hX)⟩
  · rw [hac] at bu
    rw [List.map_append]
    exact bu
  · rw [hss, List.map_append]
    refine Rws.snoc ?_ ?_
    · exact (k.rs.carry (fun g hg => M1.kp.2 g (k.yx g hg)) (fun _ h => h)).carry (fun g hg => M2.kp.2 g (hX g (k.yx g hg))) (fun _ h => .inl h)
    · exact hv.carry (fun g hg => M2.kp.2 g (hg.elim (fun h => hX g (k.yx g h)) (fun e => (hvb g e).1))) (fun _ h => h)
  · rw [hl]
    exact k.mp.put hT k.ln hs h1 h2
  · have := k.m1; simp; omega
  · intro τ hτ
    rcases List.mem_append.1 hτ with h | h
    · exact k.ln τ h
    · rw [List.mem_singleton.1 h]; exact hs
def ops57_6 : Array Oper := #[
  { dst := some 41, op := Op.move (Operand.tmp 0), type := 72, pos := "build.go:135", after := #[], guard := none },
  { dst := some 42, op := Op.move (Operand.tmp 0), type := 72, pos := "build.go:135", after := #[], guard := none },
  { dst := some 43, op := Op.nilCheck (Operand.tmp 42), type := 0, pos := "build.go:135", after := #[{ on := 1, ground := Ground.data }], guard := none },
  { dst := some 44, op := Op.fieldAddr 77 (Operand.tmp 43) 6, type := 0, pos := "build.go:135", after := #[{ on := 2, ground := Ground.data }], guard := none },
  { dst := some 45, op := Op.fieldAddr 26 (Operand.tmp 44) 2, type := 0, pos := "build.go:135", after := #[{ on := 3, ground := Ground.data }], guard := none },
  { dst := some 46, op := Op.load 24 (Operand.tmp 45), type := 24, pos := "build.go:135", after := #[{ on := 4, ground := Ground.data }], guard := none },
  { dst := some 47, op := Op.move (Operand.tmp 1), type := 9, pos := "build.go:135", after := #[], guard := none },
  { dst := some 48, op := Op.move (Operand.tmp 0), type := 72, pos := "build.go:135", after := #[], guard := none },
  { dst := some 49, op := Op.nilCheck (Operand.tmp 48), type := 0, pos := "build.go:135", after := #[{ on := 7, ground := Ground.data }], guard := none },
  { dst := some 50, op := Op.fieldAddr 77 (Operand.tmp 49) 0, type := 0, pos := "build.go:135", after := #[{ on := 8, ground := Ground.data }], guard := none },
  { dst := some 51, op := Op.fieldAddr 52 (Operand.tmp 50) 2, type := 0, pos := "build.go:135", after := #[{ on := 9, ground := Ground.data }], guard := none },
  { dst := some 52, op := Op.load 3 (Operand.tmp 51), type := 3, pos := "build.go:135", after := #[{ on := 10, ground := Ground.data }], guard := none },
  { dst := some 53, op := Op.call { callee := Callee.value (Operand.func 77), args := #[Operand.tmp 47, Operand.tmp 52], argTypes := #[9, 3] }, type := 4, pos := "build.go:135", after := #[{ on := 6, ground := Ground.data }, { on := 11, ground := Ground.data }], guard := none },
  { dst := some 54, op := Op.buildSlice 24 1 #[(0, Operand.tmp 53)], type := 24, pos := "build.go:135", after := #[{ on := 12, ground := Ground.data }], guard := none },
  { dst := some 55, op := Op.call { callee := Callee.builtin Builtin.append, args := #[Operand.tmp 46, Operand.tmp 54], argTypes := #[24, 24] }, type := 24, pos := "build.go:135", after := #[{ on := 5, ground := Ground.data }, { on := 13, ground := Ground.data }, { on := 12, ground := Ground.chain }], guard := none },
  { dst := some 56, op := Op.nilCheck (Operand.tmp 41), type := 0, pos := "build.go:135", after := #[{ on := 0, ground := Ground.data }, { on := 0, ground := Ground.phase }, { on := 1, ground := Ground.phase }, { on := 2, ground := Ground.phase }, { on := 3, ground := Ground.phase }, { on := 4, ground := Ground.phase }, { on := 5, ground := Ground.phase }, { on := 6, ground := Ground.phase }, { on := 7, ground := Ground.phase }, { on := 8, ground := Ground.phase }, { on := 9, ground := Ground.phase }, { on := 10, ground := Ground.phase }, { on := 11, ground := Ground.phase }, { on := 12, ground := Ground.phase }, { on := 13, ground := Ground.phase }, { on := 14, ground := Ground.phase }], guard := none },
  { dst := some 57, op := Op.fieldAddr 77 (Operand.tmp 56) 6, type := 0, pos := "build.go:135", after := #[{ on := 15, ground := Ground.data }, { on := 0, ground := Ground.phase }, { on := 1, ground := Ground.phase }, { on := 2, ground := Ground.phase }, { on := 3, ground := Ground.phase }, { on := 4, ground := Ground.phase }, { on := 5, ground := Ground.phase }, { on := 6, ground := Ground.phase }, { on := 7, ground := Ground.phase }, { on := 8, ground := Ground.phase }, { on := 9, ground := Ground.phase }, { on := 10, ground := Ground.phase }, { on := 11, ground := Ground.phase }, { on := 12, ground := Ground.phase }, { on := 13, ground := Ground.phase }, { on := 14, ground := Ground.phase }], guard := none },
  { dst := some 58, op := Op.fieldAddr 26 (Operand.tmp 57) 2, type := 0, pos := "build.go:135", after := #[{ on := 16, ground := Ground.data }, { on := 0, ground := Ground.phase }, { on := 1, ground := Ground.phase }, { on := 2, ground := Ground.phase }, { on := 3, ground := Ground.phase }, { on := 4, ground := Ground.phase }, { on := 5, ground := Ground.phase }, { on := 6, ground := Ground.phase }, { on := 7, ground := Ground.phase }, { on := 8, ground := Ground.phase }, { on := 9, ground := Ground.phase }, { on := 10, ground := Ground.phase }, { on := 11, ground := Ground.phase }, { on := 12, ground := Ground.phase }, { on := 13, ground := Ground.phase }, { on := 14, ground := Ground.phase }], guard := none },
  { dst := none, op := Op.store 24 (Operand.tmp 58) (Operand.tmp 55), type := 0, pos := "build.go:135", after := #[{ on := 17, ground := Ground.data }, { on := 14, ground := Ground.data }, { on := 14, ground := Ground.chain }, { on := 0, ground := Ground.phase }, { on := 1, ground := Ground.phase }, { on := 2, ground := Ground.phase }, { on := 3, ground := Ground.phase }, { on := 4, ground := Ground.phase }, { on := 5, ground := Ground.phase }, { on := 6, ground := Ground.phase }, { on := 7, ground := Ground.phase }, { on := 8, ground := Ground.phase }, { on := 9, ground := Ground.phase }, { on := 10, ground := Ground.phase }, { on := 11, ground := Ground.phase }, { on := 12, ground := Ground.phase }, { on := 13, ground := Ground.phase }, { on := 14, ground := Ground.phase }], guard := none }]

/-! the statement that appends to Accept, in all its orders -/
structure C6 where
  b : Nat
  t : ByteArray
  e : Nat
  r : Bool
  va : Value
def C6.fix (c : C6) (i : Nat) : Option Value := [some (.pointer (some ⟨c.b, 0, none⟩)), some (.pointer (some ⟨c.b, 0, none⟩)), some (.pointer (some ⟨c.b, 0, none⟩)), some (.pointer (some ⟨c.b, 9, none⟩)), some (.pointer (some ⟨c.b, 266, none⟩)), some c.va, some (.string c.t), some (.pointer (some ⟨c.b, 0, none⟩)), some (.pointer (some ⟨c.b, 0, none⟩)), some (.pointer (some ⟨c.b, 0, none⟩)), some (.pointer (some ⟨c.b, 2, none⟩)), some (.int .i64 (c.e : Int)), some (.bool c.r), none, none, some (.pointer (some ⟨c.b, 0, none⟩)), some (.pointer (some ⟨c.b, 9, none⟩)), some (.pointer (some ⟨c.b, 266, none⟩)), none].getD i none
structure W6 (X : Nat → Prop) (W : World) (B mb : Nat) (h : Hd) (vs vn : Value) (ss nn : List Value) (ac : List Bool) (m : Nat) (D : DataW Unit) (c : C6) (d : Nat → Prop) (vals : Nat → Value) (w : World) : Prop where
  bu : ¬ d 14 → Bu X w B c.b mb h vs vn c.va ss nn ac m D ∧ Mv X B W w
  el : d 13 → ¬ d 14 → ∃ g, vals 13 = .slice (some ⟨g, 0, none⟩) 1 1 ∧ g < w.heap.size ∧ ∀ j u, [Value.bool c.r][j]? = some u → w.cell? ((⟨g, 0, none⟩ : Addr).add j) = some u
  ap : d 14 → ¬ d 18 → ∃ g cap, vals 14 = .slice (some ⟨g, 0, none⟩) (ac.length + 1) cap ∧ Bu X (w.setCell ⟨c.b, 266, none⟩ (.slice (some ⟨g, 0, none⟩) (ac.length + 1) cap)) B c.b mb h vs vn (.slice (some ⟨g, 0, none⟩) (ac.length + 1) cap) ss nn (ac ++ [c.r]) m D ∧ Mv X B W (w.setCell ⟨c.b, 266, none⟩ (.slice (some ⟨g, 0, none⟩) (ac.length + 1) cap)) ∧ w.cell? ⟨c.b, 266, none⟩ = some c.va ∧ w.frozen? ⟨c.b, 266, none⟩ = false
  fin : d 18 → ∃ va', Bu X w B c.b mb h vs vn va' ss nn (ac ++ [c.r]) m D ∧ Mv X B W w
section
variable {X : Nat → Prop} {W : World} {B mb : Nat} {h : Hd} {vs vn : Value} {ss nn : List Value} {ac : List Bool} {m : Nat} {D : DataW Unit} {c : C6} {d : Nat → Prop} {vals : Nat → Value} {w : World}
theorem W6.plain (k : W6 X W B mb h vs vn ss nn ac m D c d vals w) {i : Nat} (h1 : i ≠ 13) (h2 : i ≠ 14) (h3 : i ≠ 18) (v : Value) : W6 X W B mb h vs vn ss nn ac m D c (fun j => j = i ∨ d j) (dw.upd vals i v) w :=
  ⟨fun a => k.bu fun b => a (.inr b), fun a b => by
    rw [dw.upd_ne _ _ (Ne.symm h1)]
    exact k.el (a.resolve_left (fun e => h1 e.symm)) fun x => b (.inr x), fun a b => by
    rw [dw.upd_ne _ _ (Ne.symm h2)]
    exact k.ap (a.resolve_left (fun e => h2 e.symm)) fun x => b (.inr x), fun a => k.fin (a.resolve_left (fun e => h3 e.symm))⟩
theorem W6.later (k : W6 X W B mb h vs vn ss nn ac m D c d vals w) {w' : World} (hn : ¬ d 14) (hn2 : ¬ d 18) (hb : Below w.heap.size w w') : W6 X W B mb h vs vn ss nn ac m D c d vals w' := by
  obtain ⟨b1, m1⟩ := k.bu hn
  refine ⟨fun _ => ⟨b1.later hb, m1.later hb (fun g hg => (b1.ap g hg).1) b1.size⟩, fun a b => ?_, fun a => absurd a hn, fun a => absurd a hn2⟩
  obtain ⟨g, e, hg, hh⟩ := k.el a b
  have ad : ∀ j, ((⟨g, 0, none⟩ : Addr).add j).block = g := fun j => by unfold Addr.add; split <;> simp_all
  exact ⟨g, e, Nat.lt_of_lt_of_le hg hb.size, fun j u hu => by rw [hb.cell (by rw [ad]; exact hg)]; exact hh j u hu⟩
end
theorem f77_6 (b : Nat) (w : World) : (Instr.fieldAt 77 (.pointer (some ⟨b, 0, none⟩)) 6).run Try.prog w = .ok (.pointer (some ⟨b, 9, none⟩)) w := by go_simp
theorem f77_0 (b : Nat) (w : World) : (Instr.fieldAt 77 (.pointer (some ⟨b, 0, none⟩)) 0).run Try.prog w = .ok (.pointer (some ⟨b, 0, none⟩)) w := by go_simp
theorem f37_2 (b : Nat) (w : World) : (Instr.fieldAt 26 (.pointer (some ⟨b, 9, none⟩)) 2).run Try.prog w = .ok (.pointer (some ⟨b, 266, none⟩)) w := by go_simp
theorem f24_2 (b : Nat) (w : World) : (Instr.fieldAt 52 (.pointer (some ⟨b, 0, none⟩)) 2).run Try.prog w = .ok (.pointer (some ⟨b, 2, none⟩)) w := by go_simp
section
variable {o : Oper} {a : Act} {w : World}
theorem x_load35 {x : Operand} {p : Addr} {v : Value} (h : o.op = .load 24 x) (hx : a.eval x = .pointer (some p)) (hc : w.cell? p = some v) : (execOp a.eval o).run Try.prog w = .ok (.value v) w := by
  unfold execOp; rw [h]; simp only [hx]; go_simp
theorem x_load3 {x : Operand} {p : Addr} {v : Value} (h : o.op = .load 3 x) (hx : a.eval x = .pointer (some p)) (hc : w.cell? p = some v) : (execOp a.eval o).run Try.prog w = .ok (.value v) w := by
  unfold execOp; rw [h]; simp only [hx]; go_simp
theorem x_call76 {x y : Operand} (h : o.op = .call { callee := .value (.func 77), args := #[x, y], argTypes := #[9, 3] }) : (execOp a.eval o).run Try.prog w = .ok (.enter 77 #[a.eval x, a.eval y]) w := by
  unfold execOp; rw [h]; kernel_rfl
theorem x_build35 {x : Operand} {r : Bool} (h : o.op = .buildSlice 24 1 #[(0, x)]) (hx : a.eval x = .bool r) : (execOp a.eval o).run Try.prog w = .ok (.value (.slice (some ⟨w.heap.size, 0, none⟩) 1 1)) (w.alloc (.cells #[.bool r] 4)) := by
  unfold execOp; rw [h]; simp only [List.map_toArray, List.map, hx]; go_simp
theorem x_store35 {x y : Operand} {p : Addr} {u : Value} {g : Option Addr} {n cap : Nat} (h : o.op = .store 24 x y) (hx : a.eval x = .pointer (some p)) (hy : a.eval y = .slice g n cap) (hc : w.cell? p = some u) (hf : w.frozen? p = false) : (execOp a.eval o).run Try.prog w = .ok .skip (w.setCell p (.slice g n cap)) := by
  unfold execOp; rw [h]; simp only [hx, hy]; go_simp
end
theorem base0 : ∀ i, i < ops57_6.size → dw.slot ops57_6 i ≠ some 0 := by decide +kernel
theorem base1 : ∀ i, i < ops57_6.size → dw.slot ops57_6 i ≠ some 1 := by decide +kernel
set_option maxHeartbeats 1000000 in
theorem reg6 {Q : Exit → Act → World → Prop} {a0 : Act} {id : Nat} (hs : a0.tmps.size = 60) (c : C6) (e0 : a0.eval (.tmp 0) = .pointer (some ⟨c.b, 0, none⟩)) (e1 : a0.eval (.tmp 1) = .string c.t) {X : Nat → Prop} {W : World} {B mb : Nat} {h : Hd} {vs vn : Value} {ss nn : List Value} {ac : List Bool} {m : Nat} {D : DataW Unit} (k : Bu X W B c.b mb h vs vn c.va ss nn ac m D) (he : h.e = (c.e : Int)) (hal : ac.length ≤ 1000000)
    (h76 : ∀ w, Calls Try.prog 77 #[.string c.t, .int .i64 (c.e : Int)] w fun ev w' => ev = .returned (.bool c.r) ∧ Below w.heap.size w w')
    (fin : ∀ vals w va', (∀ j, j < 19 → ∀ u, c.fix j = some u → vals j = u) → Bu X w B c.b mb h vs vn va' ss nn (ac ++ [c.r]) m D → Mv X B W w → Q .normal (dw.fold ops57_6.toList 0 vals a0) w) : (Code.region id ops57_6 true).wp Try.prog Q a0 W := by
  refine dw.region (by kernel_rfl) (by rw [hs]; kernel_rfl) c.fix (W6 X W B mb h vs vn ss nn ac m D c) (fun vals => ⟨fun _ => ⟨k.later (below_drew W), (Mv.refl X B W).later (below_drew W) (fun g hg => (k.ap g hg).1) k.size⟩, fun x => x.elim, fun x => x.elim, fun x => x.elim⟩) ?_ ?_
  · intro i hi
    match i, hi with
    | 0, _ => intro d vals a w o ho hn hd hdl hcl hf hx hw K Q' E hk; have b0 := (hf.base 0 fun i hi => base0 i (hdl i hi)).trans e0; have b1 := (hf.base 1 fun i hi => base1 i (hdl i hi)).trans e1; exact dw.s_val (dw.gd_of ho rfl) ((dw.x_move (dw.op_of ho rfl)).trans (by rw [b0])) (hk _ w (fun u hu => by cases hu; rfl) (hw.plain (by decide) (by decide) (by decide) _))
    | 1, _ => intro d vals a w o ho hn hd hdl hcl hf hx hw K Q' E hk; have b0 := (hf.base 0 fun i hi => base0 i (hdl i hi)).trans e0; have b1 := (hf.base 1 fun i hi => base1 i (hdl i hi)).trans e1; exact dw.s_val (dw.gd_of ho rfl) ((dw.x_move (dw.op_of ho rfl)).trans (by rw [b0])) (hk _ w (fun u hu => by cases hu; rfl) (hw.plain (by decide) (by decide) (by decide) _))
    | 2, _ => intro d vals a w o ho hn hd hdl hcl hf hx hw K Q' E hk; have b0 := (hf.base 0 fun i hi => base0 i (hdl i hi)).trans e0; have b1 := (hf.base 1 fun i hi => base1 i (hdl i hi)).trans e1; exact dw.s_val (dw.gd_of ho rfl) (dw.x_nil (dw.op_of ho rfl) ((hf.eval 1 (hd 1 (by kernel_rfl)) (t := 42) rfl).trans (hx 1 (hd 1 (by kernel_rfl)) _ rfl))) (hk _ w (fun u hu => by cases hu; rfl) (hw.plain (by decide) (by decide) (by decide) _))
    | 3, _ => intro d vals a w o ho hn hd hdl hcl hf hx hw K Q' E hk; have b0 := (hf.base 0 fun i hi => base0 i (hdl i hi)).trans e0; have b1 := (hf.base 1 fun i hi => base1 i (hdl i hi)).trans e1; exact dw.s_val (dw.gd_of ho rfl) (dw.x_field (dw.op_of ho rfl) ((hf.eval 2 (hd 2 (by kernel_rfl)) (t := 43) rfl).trans (hx 2 (hd 2 (by kernel_rfl)) _ rfl)) (f77_6 _ _)) (hk _ w (fun u hu => by cases hu; rfl) (hw.plain (by decide) (by decide) (by decide) _))
    | 4, _ => intro d vals a w o ho hn hd hdl hcl hf hx hw K Q' E hk; have b0 := (hf.base 0 fun i hi => base0 i (hdl i hi)).trans e0; have b1 := (hf.base 1 fun i hi => base1 i (hdl i hi)).trans e1; exact dw.s_val (dw.gd_of ho rfl) (dw.x_field (dw.op_of ho rfl) ((hf.eval 3 (hd 3 (by kernel_rfl)) (t := 44) rfl).trans (hx 3 (hd 3 (by kernel_rfl)) _ rfl)) (f37_2 _ _)) (hk _ w (fun u hu => by cases hu; rfl) (hw.plain (by decide) (by decide) (by decide) _))
    | 5, _ => intro d vals a w o ho hn hd hdl hcl hf hx hw K Q' E hk; exact dw.s_val (dw.gd_of ho rfl) (x_load35 (dw.op_of ho rfl) ((hf.eval 4 (hd 4 (by kernel_rfl)) (t := 45) rfl).trans (hx 4 (hd 4 (by kernel_rfl)) _ rfl)) (hw.bu (fun x => hn (hcl 14 5 x (by kernel_rfl)))).1.box.c266) (hk _ w (fun u hu => by cases hu; rfl) (hw.plain (by decide) (by decide) (by decide) _))
    | 6, _ => intro d vals a w o ho hn hd hdl hcl hf hx hw K Q' E hk; have b0 := (hf.base 0 fun i hi => base0 i (hdl i hi)).trans e0; have b1 := (hf.base 1 fun i hi => base1 i (hdl i hi)).trans e1; exact dw.s_val (dw.gd_of ho rfl) ((dw.x_move (dw.op_of ho rfl)).trans (by rw [b1])) (hk _ w (fun u hu => by cases hu; rfl) (hw.plain (by decide) (by decide) (by decide) _))
    | 7, _ => intro d vals a w o ho hn hd hdl hcl hf hx hw K Q' E hk; have b0 := (hf.base 0 fun i hi => base0 i (hdl i hi)).trans e0; have b1 := (hf.base 1 fun i hi => base1 i (hdl i hi)).trans e1; exact dw.s_val (dw.gd_of ho rfl) ((dw.x_move (dw.op_of ho rfl)).trans (by rw [b0])) (hk _ w (fun u hu => by cases hu; rfl) (hw.plain (by decide) (by decide) (by decide) _))
    | 8, _ => intro d vals a w o ho hn hd hdl hcl hf hx hw K Q' E hk; have b0 := (hf.base 0 fun i hi => base0 i (hdl i hi)).trans e0; have b1 := (hf.base 1 fun i hi => base1 i (hdl i hi)).trans e1; exact dw.s_val (dw.gd_of ho rfl) (dw.x_nil (dw.op_of ho rfl) ((hf.eval 7 (hd 7 (by kernel_rfl)) (t := 48) rfl).trans (hx 7 (hd 7 (by kernel_rfl)) _ rfl))) (hk _ w (fun u hu => by cases hu; rfl) (hw.plain (by decide) (by decide) (by decide) _))
    | 9, _ => intro d vals a w o ho hn hd hdl hcl hf hx hw K Q' E hk; have b0 := (hf.base 0 fun i hi => base0 i (hdl i hi)).trans e0; have b1 := (hf.base 1 fun i hi => base1 i (hdl i hi)).trans e1; exact dw.s_val (dw.gd_of ho rfl) (dw.x_field (dw.op_of ho rfl) ((hf.eval 8 (hd 8 (by kernel_rfl)) (t := 49) rfl).trans (hx 8 (hd 8 (by kernel_rfl)) _ rfl)) (f77_0 _ _)) (hk _ w (fun u hu => by cases hu; rfl) (hw.plain (by decide) (by decide) (by decide) _))
    | 10, _ => intro d vals a w o ho hn hd hdl hcl hf hx hw K Q' E hk; have b0 := (hf.base 0 fun i hi => base0 i (hdl i hi)).trans e0; have b1 := (hf.base 1 fun i hi => base1 i (hdl i hi)).trans e1; exact dw.s_val (dw.gd_of ho rfl) (dw.x_field (dw.op_of ho rfl) ((hf.eval 9 (hd 9 (by kernel_rfl)) (t := 50) rfl).trans (hx 9 (hd 9 (by kernel_rfl)) _ rfl)) (f24_2 _ _)) (hk _ w (fun u hu => by cases hu; rfl) (hw.plain (by decide) (by decide) (by decide) _))
    | 11, _ => intro d vals a w o ho hn hd hdl hcl hf hx hw K Q' E hk; exact dw.s_val (dw.gd_of ho rfl) (x_load3 (dw.op_of ho rfl) ((hf.eval 10 (hd 10 (by kernel_rfl)) (t := 51) rfl).trans (hx 10 (hd 10 (by kernel_rfl)) _ rfl)) ((hw.bu (fun x => hn (hcl 12 11 (hcl 14 12 x (by kernel_rfl)) (by kernel_rfl)))).1.box.c2.trans (by rw [he]))) (hk _ w (fun u hu => by cases hu; rfl) (hw.plain (by decide) (by decide) (by decide) _))
    | 12, _ =>
      intro d vals a w o ho hn hd hdl hcl hf hx hw K Q' E hk
      have n14 : ¬ d 14 := fun x => hn (hcl 14 12 x (by kernel_rfl))
      have n18 : ¬ d 18 := fun x => n14 (hcl 18 14 x (by kernel_rfl))
      have v6 := ((hf.eval 6 (hd 6 (by kernel_rfl)) (t := 47) rfl).trans (hx 6 (hd 6 (by kernel_rfl)) _ rfl))
      have v11 := ((hf.eval 11 (hd 11 (by kernel_rfl)) (t := 52) rfl).trans (hx 11 (hd 11 (by kernel_rfl)) _ rfl))
      refine dw.s_call (dw.gd_of ho rfl) (x_call76 (dw.op_of ho rfl)) (by rw [v6, v11]; exact h76 w) ?_
      rintro ev w' ⟨rfl, hb⟩
      exact ⟨_, rfl, hk _ w' (fun u hu => by cases hu; rfl) ((hw.later n14 n18 hb).plain (by decide) (by decide) (by decide) _)⟩
    | 13, _ =>
      intro d vals a w o ho hn hd hdl hcl hf hx hw K Q' E hk
      have n14 : ¬ d 14 := fun x => hn (hcl 14 13 x (by kernel_rfl))
      have n18 : ¬ d 18 := fun x => n14 (hcl 18 14 x (by kernel_rfl))
      refine dw.s_val (dw.gd_of ho rfl) (x_build35 (dw.op_of ho rfl) ((hf.eval 12 (hd 12 (by kernel_rfl)) (t := 53) rfl).trans (hx 12 (hd 12 (by kernel_rfl)) _ rfl))) (hk _ _ (fun u hu => by cases hu) ?_)
      have k1 := hw.later n14 n18 (nf.below_alloc w (.cells #[.bool c.r] 4))
      refine ⟨fun x => k1.bu n14, fun _ _ => ⟨w.heap.size, by rw [dw.upd_same], by simp, ow.new1 w _ _⟩, fun x => absurd (x.resolve_left (by decide)) n14, fun x => absurd (x.resolve_left (by decide)) n18⟩
    | 14, _ =>
      intro d vals a w o ho hn hd hdl hcl hf hx hw K Q' E hk
      have n18 : ¬ d 18 := fun x => hn (hcl 18 14 x (by kernel_rfl))
      obtain ⟨b1, m1⟩ := hw.bu hn
      obtain ⟨g, e, hg, hh⟩ := hw.el (hd 13 (by kernel_rfl)) hn
      have v5 := ((hf.eval 5 (hd 5 (by kernel_rfl)) (t := 46) rfl).trans (hx 5 (hd 5 (by kernel_rfl)) _ rfl))
      have v13 := (hf.eval 13 (hd 13 (by kernel_rfl)) (t := 54) rfl).trans e
      refine ow.step_append (dw.gd_of ho rfl) (.tmp 46) (.tmp 54) 24 (dw.op_of ho rfl) 4 (.bool false) 1 1 Try.underlying24 info4 rfl (by decide) (by decide) B c.va ac.length (ac.map Value.bool) g [.bool c.r] v5 v13 b1.oa rfl hh (ow.one1 _ rfl) hal b1.size ?_
      intro g8 cap8 w8 hown8 hgr8 hw8
      refine hk _ _ (fun u hu => by cases hu) ⟨fun x => absurd (.inl rfl) x, fun _ x => absurd (.inl rfl) x, fun _ _ => ⟨g8, cap8, by rw [dw.upd_same], ?_, ?_, (b1.box.keep (hgr8.block c.b b1.box.lt b1.bs.2.2)).c266, (b1.box.keep (hgr8.block c.b b1.box.lt b1.bs.2.2)).fz 266⟩, fun x => absurd (x.resolve_left (by decide)) n18⟩
      · exact b1.putA (by simp) (by rw [List.map_append]; exact hown8) hgr8 hw8
      · exact (m1.grown hgr8 (fun g e2 => (ow.lt b1.oa e2).1) (fun g hg => ⟨(b1.ap g hg).1, (b1.ap g hg).2.2.2.2.2⟩) b1.size).set (g := c.b) (fun g hg => (b1.ap g hg).2.1) b1.bb 266 _
    | 15, _ => intro d vals a w o ho hn hd hdl hcl hf hx hw K Q' E hk; have b0 := (hf.base 0 fun i hi => base0 i (hdl i hi)).trans e0; have b1 := (hf.base 1 fun i hi => base1 i (hdl i hi)).trans e1; exact dw.s_val (dw.gd_of ho rfl) (dw.x_nil (dw.op_of ho rfl) ((hf.eval 0 (hd 0 (by kernel_rfl)) (t := 41) rfl).trans (hx 0 (hd 0 (by kernel_rfl)) _ rfl))) (hk _ w (fun u hu => by cases hu; rfl) (hw.plain (by decide) (by decide) (by decide) _))
    | 16, _ => intro d vals a w o ho hn hd hdl hcl hf hx hw K Q' E hk; have b0 := (hf.base 0 fun i hi => base0 i (hdl i hi)).trans e0; have b1 := (hf.base 1 fun i hi => base1 i (hdl i hi)).trans e1; exact dw.s_val (dw.gd_of ho rfl) (dw.x_field (dw.op_of ho rfl) ((hf.eval 15 (hd 15 (by kernel_rfl)) (t := 56) rfl).trans (hx 15 (hd 15 (by kernel_rfl)) _ rfl)) (f77_6 _ _)) (hk _ w (fun u hu => by cases hu; rfl) (hw.plain (by decide) (by decide) (by decide) _))
    | 17, _ => intro d vals a w o ho hn hd hdl hcl hf hx hw K Q' E hk; have b0 := (hf.base 0 fun i hi => base0 i (hdl i hi)).trans e0; have b1 := (hf.base 1 fun i hi => base1 i (hdl i hi)).trans e1; exact dw.s_val (dw.gd_of ho rfl) (dw.x_field (dw.op_of ho rfl) ((hf.eval 16 (hd 16 (by kernel_rfl)) (t := 57) rfl).trans (hx 16 (hd 16 (by kernel_rfl)) _ rfl)) (f37_2 _ _)) (hk _ w (fun u hu => by cases hu; rfl) (hw.plain (by decide) (by decide) (by decide) _))
    | 18, _ =>
      intro d vals a w o ho hn hd hdl hcl hf hx hw K Q' E hk
      obtain ⟨g, cap, e, b1, m1, c1, z1⟩ := hw.ap (hd 14 (by kernel_rfl)) hn
      have v17 := ((hf.eval 17 (hd 17 (by kernel_rfl)) (t := 58) rfl).trans (hx 17 (hd 17 (by kernel_rfl)) _ rfl))
      have v14 := (hf.eval 14 (hd 14 (by kernel_rfl)) (t := 55) rfl).trans e
      exact dw.s_skip (dw.gd_of ho rfl) (x_store35 (dw.op_of ho rfl) v17 v14 c1 z1) (hk _ _ (fun u hu => by cases hu) ⟨fun x => absurd (.inr (hd 14 (by kernel_rfl))) x, fun _ x => absurd (.inr (hd 14 (by kernel_rfl))) x, fun _ x => absurd (.inl rfl) x, fun _ => ⟨_, b1, m1⟩⟩)
    | i + 19, hi => exact absurd hi (by simp [ops57_6])
  · intro vals w hx hw
    obtain ⟨va', b1, m1⟩ := hw.fin (by decide)
    exact fin vals w va' hx b1 m1
theorem fold57_6 (vals : Nat → Value) (a : Act) : dw.fold ops57_6.toList 0 vals a = ((((((((((((((((((a.put (some 41) (vals 0)).put (some 42) (vals 1)).put (some 43) (vals 2)).put (some 44) (vals 3)).put (some 45) (vals 4)).put (some 46) (vals 5)).put (some 47) (vals 6)).put (some 48) (vals 7)).put (some 49) (vals 8)).put (some 50) (vals 9)).put (some 51) (vals 10)).put (some 52) (vals 11)).put (some 53) (vals 12)).put (some 54) (vals 13)).put (some 55) (vals 14)).put (some 56) (vals 15)).put (some 57) (vals 16)).put (some 58) (vals 17)) := by
  unfold ops57_6
  simp only [dw.fold, dw.put_none, Nat.zero_add, Nat.reduceAdd]
set_option maxHeartbeats 4000000 in
set_option maxRecDepth 100000 in
theorem number_new {X Y : Nat → Prop} {W : World} {B b mb : Nat} {h : Hd} {n e : Nat} {L : List (List Bool)} {nn : List Value} {vs vn va : Value} {ss : List Value} {m : Nat} {D : DataW Unit} (k : Bst X Y W B b mb h n e L nn vs vn va ss m D) (σ : List Bool) (hs : σ.length = n) (h1 : σ ≠ off n) (h2 : σ ∉ L) (hL : L.length ≤ 500000) : NewIs X Y W B b mb h n e L nn σ (L.length : Int) := by
  have hn2 := k.n2
  have hkey := key_of σ (by omega)
  have hhas : Maps.has D (.string (txt σ)) = false := by
    rw [k.mp.has σ hs]
    simp [h1, h2]
  have hm1 := k.m1
  have HLL : Hid (ss.length = L.length) := by show _ = _; have := k.rs.len; rw [List.length_map] at this; exact this
  have hT := k.bu.map.tidy st.law9
  have HK : Hid (Bst X Y W B b mb h n e L nn vs vn va ss m D) := k
  have HBU : Hid (Bu X W B b mb h vs vn va ss nn (L.map fun σ => σ.getD e false) m D) := k.bu
  have c8 := k.bu.box.c8
  have c7 := k.bu.box.c7
  have hown := k.bu.map
  obtain ⟨gs, cs, hvs, hfs, hts⟩ := ow.form k.bu.os
  obtain ⟨ga, ca, hva, hfa, hta⟩ := ow.form k.bu.oa
  rw [List.length_map] at hva hfa
  have hssl : ss.length ≤ 500000 := by rw [HLL.out]; exact hL
  have hal : (L.map fun σ => σ.getD e false).length ≤ 500000 := by simpa using hL
  have h75 : StatesIs σ := states_any σ (by omega)
  unfold StatesIs at h75
  have h76 := has_txt σ (by omega) e (by rw [hs]; exact k.en) (σ.getD e false) (by rw [List.getD_eq_getElem?_getD, List.getElem?_eq_getElem (by rw [hs]; exact k.en)]; rfl)
  unfold HasTIs at h76
  replace h76 : ∀ w, Calls Try.prog 77 #[.string (txtB σ), .int .i64 (e : Int)] w fun ev w' => ev = .returned (.bool (σ.getD e false)) ∧ Below w.heap.size w w' := fun w => (h76 w).mono fun ev w' hh => ⟨hh.1, by rw [hh.2]; exact Below.refl _ _⟩
  have HC0 : Hid (h.n = (σ.length : Int)) := by show _ = _; rw [hs]; exact k.hn
  have HE : Hid (h.e = (e : Int)) := k.he
  have HTX : Hid (hs = hs) := rfl
  have HALL : Hid (∀ {X' : Nat → Prop} {vb : Option Nat} {w2 Wf : World} {vs' va' v : Value} {ss' : List Value} {ac' : List Bool}, Mv X B W w2 → (∀ k, X k → X' k) → (∀ k, X' k → X k ∨ W.heap.size ≤ k) → Mv X' B w2 Wf → (∀ g, some g = vb → X' g ∧ W.heap.size ≤ g) → RowV (fun g => Y g ∨ some g = vb) w2 v (onTo σ σ.length) → ss' = ss ++ [v] → ac' = (L.map fun σ => σ.getD e false) ++ [σ.getD e false] → Bu X' Wf B b mb h vs' vn va' ss' nn ac' (m + 1) (D.put (.string (txt σ)) (.lit (.int .i64 (ss.length : Int)))) → ∃ X' Y' vs vn va ss m D, (∀ k, X k → X' k) ∧ (∀ k, X' k → X k ∨ W.heap.size ≤ k) ∧ (∀ k, Y k → Y' k) ∧ (∀ k, Y' k → Y k ∨ W.heap.size ≤ k) ∧ Bst X' Y' Wf B b mb h n e (L ++ [σ]) nn vs vn va ss m D ∧ Mv X B W Wf) := fun M1 hX hX2 M2 hvb hv hss hac bu => new_all k hs h1 h2 M1 hX hX2 M2 hvb hv hss hac bu hT
  unfold NewIs
  generalize txtB σ = t at *
  subst hvs hva
  generalize (Lit.string (txt σ)) = kl at *
  generalize σ.getD e false = r at *
  clear k h1 h2 hs HTX
  go_enter Try.func58, Try.ntmps58
  go_wp2_with (first | (at_lookup; refine wpList_lookup_own_ok_int _ rfl _ _ 75 rfl 9 3 .i64 st.law9 Try.underlying75 Try.underlying3 (st.zero3 _) mb m D rfl hown _ _ rfl hkey ?_; intro c hat2 hwc; rw [hhas]; clear hat2 hwc) | (at_mapUpdate; refine wpList_mapUpdate_own _ rfl _ _ _ 75 rfl 9 3 st.law9 Try.underlying75 _ mb m D rfl hown (by unfold maxLen; omega) _ _ _ rfl rfl hkey _ [] (plainElem_int Try.underlying3 (WalkArith.wf_i64 (by omega))) ?_; intro w1 hown1 hgrow1; have HB1 := (show Hid _ from (HBU.out.putMap hown1 hgrow1).later (below_drew w1)); have HM1 := (show Hid (Mv X B W w1.drew) from ⟨⟨hgrow1.size, fun g hg => hgrow1.block g (HBU.out.ap g hg).1 (fun e2 => (HBU.out.ap g hg).2.2.1 (Option.some.inj e2))⟩, ((Below.refl B W).grown hgrow1 HBU.out.size (fun g e2 => by cases e2; exact HBU.out.bm)).drew⟩)))
  have d7 := HB1.out.box.c7
  have HQ0 : Hid (w1.drew.cell? ⟨b, 0, none⟩ = some (.int .i64 (σ.length : Int))) := by show _ = _; rw [HB1.out.box.c0, HC0.out]
  clear c7 c8 hown hkey hhas hgrow1 hown1 hm1 hT HBU
  go_region_law (first | (refine ow.step_append (by rfl) (.tmp 33) (.tmp 37) 23 (by rfl) 39 (.slice none 0 0) 1 24 Try.underlying23 info39 rfl (by decide) (by decide) B (.slice gs ss.length cs) ss.length ss w2.heap.size [.slice gv (onTo σ σ.length).length cv] (by rfl) (by rfl) HB3.out.os rfl (ow.new1 w2 _ _) (ow.one1 _ rfl) (by omega) HB3.out.size ?_; intro g' cap' w4 hown4 hgr4 hw4; have HB4 := (show Hid _ from HB3.out.putS (by simp) hown4 hgr4 hw4); have z7 := (HB3.out.box.keep (hgr4.block b HB3.out.box.lt HB3.out.bs.1)).c7; have y7 := (HB3.out.box.keep (hgr4.block b HB3.out.box.lt HB3.out.bs.1)).fz 7; have HM4 := (show Hid _ from ((HM3.out.grown hgr4 (fun g e2 => (ow.lt HB3.out.os e2).1) (fun g hg => ⟨(HB3.out.ap g hg).1, (HB3.out.ap g hg).2.2.2.1⟩) HB3.out.size).set (g := b) (fun g hg => (HB3.out.ap g hg).2.1) HB3.out.bb 7 (.slice (some ⟨g', 0, none⟩) (ss.length + 1) cap')))) | (go_wp2_with (go_at_call 76; refine (h75 b _ HB1.out.box.lt HQ0.out).mono ?_; rintro ev w2 ⟨v, rfl, ho2, b2⟩; obtain ⟨gv, cv, rfl⟩ := df.own_slice ho2; have HO2 := (show Hid _ from ho2); have HB2 := (show Hid _ from HB1.out.more (Y := fun g => X g ∨ some g = (Value.slice gv (onTo σ σ.length).length cv).ownBlock) b2 (fun g hg => hg.imp id (fun e2 => ow.lt ho2 e2.symm))); have HMA := (show Hid _ from HM1.out.later b2 (fun g hg => (HB1.out.ap g hg).1) HB1.out.size); have HB3 := (show Hid _ from HB2.out.later (nf.below_alloc w2 (.cells #[.slice gv (onTo σ σ.length).length cv] 39))); have HM3 := (show Hid _ from (Mv.refl (fun g => X g ∨ some g = (Value.slice gv (onTo σ σ.length).length cv).ownBlock) B w2).later (nf.below_alloc w2 (.cells #[.slice gv (onTo σ σ.length).length cv] 39)) (fun g hg => (HB2.out.ap g hg).1) HB2.out.size); have e7 := HB2.out.box.c7; have f7 := HB3.out.box.c7; have HBB2 := (show Hid _ from b2); clear ho2 b2)))
  all_goals
    clear z7 y7 d7 e7 f7 hown4 hgr4 hw4
    generalize w4.setCell ⟨b, 7, none⟩ (.slice (some ⟨g', 0, none⟩) (ss.length + 1) cap') = w5 at *
    have HFIN : Hid (∀ (Wf : World) (va' : Value), Bu (fun g => X g ∨ some g = (Value.slice gv (onTo σ σ.length).length cv).ownBlock) Wf B b mb h (.slice (some ⟨g', 0, none⟩) (ss.length + 1) cap') vn va' (ss ++ [.slice gv (onTo σ σ.length).length cv]) nn ((L.map fun σ => σ.getD e false) ++ [r]) (m + 1) (D.put kl (.lit (.int .i64 (ss.length : Int)))) → Mv (fun g => X g ∨ some g = (Value.slice gv (onTo σ σ.length).length cv).ownBlock) B w5 Wf → ∃ X' Y' vs vn va ss m D, (∀ k, X k → X' k) ∧ (∀ k, X' k → X k ∨ W.heap.size ≤ k) ∧ (∀ k, Y k → Y' k) ∧ (∀ k, Y' k → Y k ∨ W.heap.size ≤ k) ∧ Bst X' Y' Wf B b mb h n e (L ++ [σ]) nn vs vn va ss m D ∧ Mv X B W Wf) := by
      intro Wf va' hbu hmv
      exact HALL.out HMA.out (fun g hg => .inl hg) (fun g hg => hg.imp id (fun e2 => Nat.le_trans HM1.out.kp.1 (ow.lt HO2.out e2.symm).1)) (HM4.out.trans hmv) (vb := (Value.slice gv (onTo σ σ.length).length cv).ownBlock) (fun g e2 => ⟨.inr e2, Nat.le_trans HM1.out.kp.1 (ow.lt HO2.out e2.symm).1⟩) (owns_rowV HO2.out (fun g e2 => .inr e2)) rfl rfl hbu
    clear HALL HMA HM1 HO2 HBB2 HB1 HK HB3 HM3 HB2 HM4
    go_wp2_with (fail)
    refine reg6 rfl ⟨b, t, e, r, .slice ga L.length ca⟩ rfl rfl HB4.out HE.out (by omega) h76 ?_
    intro vals w va' hx hbu hmv
    have HBX := (show Hid _ from HFIN.out w va' hbu hmv)
    clear hx hbu hmv HFIN HB4
    rw [fold57_6]
    go_wp2_with (fail)
    go_ret
    exact ⟨congrArg (fun q : Nat => Ending.returned (Value.int .i64 (q : Int))) HLL.out, HBX.out⟩
end Go.Proofs.Ytkdkibnjfgcppaa.bd

namespace Go.Proofs.Ytkdkibnjfgcppaa.bd
open nf (Nfa Ed Over Rt hasE setOf)
open st (Q4 none4 Fits has nth jn cnt mem)
set_option linter.unusedVariables false

theorem filter_le {p r : Nat → Bool} : ∀ (l : List Nat), (∀ x ∈ l, p x = true → r x = true) → (l.filter p).length ≤ (l.filter r).length
  | [], _ => Nat.le_refl _
  | x :: l, h => by
    have ih := filter_le l fun y hy => h y (List.mem_cons_of_mem _ hy)
    have hx := h x List.mem_cons_self
    rw [List.filter_cons, List.filter_cons]
    cases hp : p x with
    | true => rw [hx hp]; simpa using ih
    | false =>
      cases hr : r x with
      | true => simp; omega
      | false => simpa using ih
theorem filter_lt {p r : Nat → Bool} : ∀ (l : List Nat), (∀ x ∈ l, p x = true → r x = true) → (∃ x ∈ l, p x = false ∧ r x = true) → (l.filter p).length < (l.filter r).length
  | [], _, ⟨x, hx, _⟩ => by simp at hx
  | x :: l, h, ⟨y, hy, hp, hr⟩ => by
    rw [List.filter_cons, List.filter_cons]
    rcases List.mem_cons.1 hy with e | hy
    · subst e
      have ih := filter_le l fun y hy => h y (List.mem_cons_of_mem _ hy)
      rw [hp, hr]
      simp
      omega
    · have ih := filter_lt l (fun y hy => h y (List.mem_cons_of_mem _ hy)) ⟨y, hy, hp, hr⟩
      have hx := h x List.mem_cons_self
      cases hp : p x with
      | true => rw [hx hp]; simpa using ih
      | false =>
        cases hr : r x with
        | true => simp; omega
        | false => simpa using ih
theorem cnt_more {q r : Q4} (hq : Fits q) (hr : Fits r) (h : jn q r ≠ q) : cnt q < cnt (jn q r) := by
  unfold cnt mem
  refine filter_lt _ (fun x hx hp => ?_) ?_
  · rw [st.has_jn q r x (List.mem_range.1 hx), hp]; rfl
  · by_cases e : ∃ x, x < 256 ∧ has q x = false ∧ has (jn q r) x = true
    · obtain ⟨x, h1, h2, h3⟩ := e
      exact ⟨x, List.mem_range.2 h1, h2, h3⟩
    · exfalso
      refine h (st.ext (st.fits_jn hq hr) hq fun x hx => ?_)
      cases hp : has q x with
      | true => rw [st.has_jn q r x hx, hp]; rfl
      | false =>
        cases hj : has (jn q r) x with
        | true => exact absurd ⟨x, hx, hp, hj⟩ e
        | false => rfl
theorem jn_self {q : Q4} (h : Fits q) : jn q q = q := st.ext (st.fits_jn h h) h fun n hn => by rw [st.has_jn q q n hn, Bool.or_self]

def miss (R : List Q4) : Nat := (R.map fun q => 256 - cnt q).sum
theorem miss_set : ∀ (R : List Q4) (i : Nat) (hi : i < R.length) (q : Q4), cnt R[i] < cnt q → miss (R.set i q) < miss R
  | [], i, hi, _, _ => by simp at hi
  | r :: R, 0, _, q, h => by
    have := st.cnt_le q
    simp at h
    simp [miss]
    omega
  | r :: R, i + 1, hi, q, h => by
    have := miss_set R i (by simpa using hi) q (by simpa using h)
    simp [miss] at this ⊢
    omega
theorem nth_get (R : List Q4) (i : Nat) (h : i < R.length) : nth R i = R[i] := by unfold nth; rw [List.getD_eq_getElem?_getD, List.getElem?_eq_getElem h]; rfl
theorem nth_set (R : List Q4) (i j : Nat) (q : Q4) (hi : i < R.length) (hj : j < R.length) : nth (R.set i q) j = if j = i then q else nth R j := by
  rw [nth_get _ _ (by simpa using hj), nth_get _ _ hj, List.getElem_set]
  by_cases e : i = j
  · rw [if_pos e, if_pos e.symm]
  · rw [if_neg e, if_neg (Ne.symm e)]
theorem fits_nth {R : List Q4} (hf : ∀ q ∈ R, Fits q) (i : Nat) (h : i < R.length) : Fits (nth R i) := by rw [nth_get _ _ h]; exact hf _ (List.getElem_mem h)
theorem fits_set {R : List Q4} (hf : ∀ q ∈ R, Fits q) (i : Nat) {q : Q4} (hq : Fits q) : ∀ r ∈ R.set i q, Fits r := fun r hr => by
  rcases List.mem_or_eq_of_mem_set hr with h | h
  · exact hf r h
  · rw [h]; exact hq

/-- where a byte lies -/
def At (R : List Q4) (c : Nat) (t : Int) : Prop := ∃ j : Nat, j < R.length ∧ t = (j : Int) ∧ has (nth R j) c = true
/-- the targets of a state's Free edges -/
def Tgt (x : Nfa) (n : Nat) (F : Nat → List Int) : Prop := ∀ s, s < n → ∀ t, t ∈ F s ↔ ∃ e ∈ x.edges, e.free = true ∧ e.fr = (s : Int) ∧ e.to = t
structure Hand (x : Nfa) (n : Nat) (F : Nat → List Int) (R0 R : List Q4) (q : List Int) (s : Nat) (p : List Int) : Prop where
  len : R.length = n
  fits : ∀ q ∈ R, Fits q
  base : ∀ i c, i < n → c < 256 → has (nth R0 i) c = true → has (nth R i) c = true
  snd : ∀ i c, i < n → c < 256 → has (nth R i) c = true → nf.Reach x (At R0 c) (i : Int)
  cls : ∀ i, i < n → (i : Int) ∉ q → i ≠ s → ∀ t : Nat, (t : Int) ∈ F i → ∀ c, c < 256 → has (nth R i) c = true → has (nth R t) c = true
  own : ∀ t : Nat, (t : Int) ∈ p → ∀ c, c < 256 → has (nth R s) c = true → has (nth R t) c = true
  rng : ∀ t ∈ q, 0 ≤ t ∧ t < (n : Int)
section
variable {x : Nfa} {n : Nat} {F : Nat → List Int} {R0 R : List Q4} {q : List Int} {s : Nat} {p : List Int}
theorem Hand.same (h : Hand x n F R0 R q s p) {t : Nat} (ht : t < n) (hs : s < n) (he : jn (nth R t) (nth R s) = nth R t) : Hand x n F R0 R q s (p ++ [(t : Int)]) :=
  ⟨h.len, h.fits, h.base, h.snd, h.cls, fun u hu c hc hh => by
    rcases List.mem_append.1 hu with h1 | h1
    · exact h.own u h1 c hc hh
    · have e : u = t := by have := List.mem_singleton.1 h1; omega
      rw [e, ← he, st.has_jn _ _ c hc, hh, Bool.or_true], h.rng⟩
theorem Hand.more (R1 : Rt x n) (hF : Tgt x n F) (h : Hand x n F R0 R q s p) {t : Nat} (ht : t < n) (hs : s < n) (hm : (t : Int) ∈ F s) (he : jn (nth R t) (nth R s) ≠ nth R t) : Hand x n F R0 (R.set t (jn (nth R t) (nth R s))) (q ++ [(t : Int)]) s (p ++ [(t : Int)]) := by
  have hl := h.len
  have hts : t ≠ s := fun e => he (by rw [e]; exact jn_self (fits_nth h.fits s (by omega)))
  have g : ∀ j, j < n → nth (R.set t (jn (nth R t) (nth R s))) j = if j = t then jn (nth R t) (nth R s) else nth R j := fun j hj => nth_set R t j _ (by omega) (by omega)
  have up : ∀ j c, j < n → c < 256 → has (nth R j) c = true → has (nth (R.set t (jn (nth R t) (nth R s))) j) c = true := fun j c hj hc hh => by
    rw [g j hj]
    by_cases e : j = t
    · rw [if_pos e, st.has_jn _ _ c hc, ← e, hh, Bool.true_or]
    · rw [if_neg e]; exact hh
  have tn : ∀ i, i < n → ∀ u : Nat, (u : Int) ∈ F i → u < n := fun i hi u hu => by
    obtain ⟨e, he1, _, _, he2⟩ := (hF i hi _).1 hu
    have := R1.to e he1
    omega
  refine ⟨by simpa using hl, fits_set h.fits t (st.fits_jn (fits_nth h.fits t (by omega)) (fits_nth h.fits s (by omega))), fun i c hi hc hh => up i c hi hc (h.base i c hi hc hh), fun i c hi hc hh => ?_, fun i hi hn hne u hu c hc hh => ?_, fun u hu c hc hh => ?_, fun u hu => ?_⟩
  · rw [g i hi] at hh
    by_cases e : i = t
    · rw [if_pos e, st.has_jn _ _ c hc, Bool.or_eq_true] at hh
      rcases hh with h1 | h1
      · rw [e]; exact h.snd t c ht hc h1
      · obtain ⟨ed, a1, a2, a3, a4⟩ := (hF s hs _).1 hm
        have := nf.Reach.step (x := x) (P := At R0 c) (e := ed) (by rw [a3]; exact h.snd s c hs hc h1) a1 a2
        rw [a4] at this
        rw [e]; exact this
    · rw [if_neg e] at hh; exact h.snd i c hi hc hh
  · have hit : i ≠ t := fun e => hn (List.mem_append_right _ (by rw [e]; exact List.mem_singleton_self _))
    rw [g i hi, if_neg hit] at hh
    exact up u c (tn i hi u hu) hc (h.cls i hi (fun e => hn (List.mem_append_left _ e)) hne u hu c hc hh)
  · rw [g s hs, if_neg (Ne.symm hts)] at hh
    rcases List.mem_append.1 hu with h1 | h1
    · by_cases hu2 : u < n
      · exact up u c hu2 hc (h.own u h1 c hc hh)
      · have := h.own u h1 c hc hh
        unfold nth at this ⊢
        rw [List.getD_eq_getElem?_getD, List.getElem?_eq_none (by simp; omega)]
        rw [List.getD_eq_getElem?_getD, List.getElem?_eq_none (by omega)] at this
        exact this
    · have e : u = t := by have := List.mem_singleton.1 h1; omega
      rw [e, g t ht, if_pos rfl, st.has_jn _ _ c hc, hh, Bool.or_true]
  · rcases List.mem_append.1 hu with h1 | h1
    · exact h.rng u h1
    · rw [List.mem_singleton.1 h1]; omega
end
/-- between two states -/
structure Held (x : Nfa) (n : Nat) (F : Nat → List Int) (R0 R : List Q4) (q : List Int) : Prop where
  len : R.length = n
  fits : ∀ q ∈ R, Fits q
  base : ∀ i c, i < n → c < 256 → has (nth R0 i) c = true → has (nth R i) c = true
  snd : ∀ i c, i < n → c < 256 → has (nth R i) c = true → nf.Reach x (At R0 c) (i : Int)
  cls : ∀ i, i < n → (i : Int) ∉ q → ∀ t : Nat, (t : Int) ∈ F i → ∀ c, c < 256 → has (nth R i) c = true → has (nth R t) c = true
  rng : ∀ t ∈ q, 0 ≤ t ∧ t < (n : Int)
theorem Held.pop {x : Nfa} {n : Nat} {F : Nat → List Int} {R0 R : List Q4} {q : List Int} {s : Nat} (h : Held x n F R0 R (q ++ [(s : Int)])) : Hand x n F R0 R q s [] :=
  ⟨h.len, h.fits, h.base, h.snd, fun i hi hn hne => h.cls i hi fun hm => by
    rcases List.mem_append.1 hm with h1 | h1
    · exact hn h1
    · exact hne (by have := List.mem_singleton.1 h1; omega), fun t ht => by simp at ht, fun t ht => h.rng t (List.mem_append_left _ ht)⟩
theorem Hand.done {x : Nfa} {n : Nat} {F : Nat → List Int} {R0 R : List Q4} {q : List Int} {s : Nat} (h : Hand x n F R0 R q s (F s)) : Held x n F R0 R q :=
  ⟨h.len, h.fits, h.base, h.snd, fun i hi hn t ht c hc hh => by
    by_cases e : i = s
    · rw [e] at hh ht; exact h.own t ht c hc hh
    · exact h.cls i hi hn e t ht c hc hh, h.rng⟩
theorem Held.all {x : Nfa} {n : Nat} (R1 : Rt x n) {F : Nat → List Int} (hF : Tgt x n F) {R0 R : List Q4} (hl0 : R0.length = n) (h : Held x n F R0 R []) (i c : Nat) (hi : i < n) (hc : c < 256) : has (nth R i) c = true ↔ nf.Reach x (At R0 c) (i : Int) := by
  refine ⟨h.snd i c hi hc, fun r => ?_⟩
  have key : ∃ j : Nat, j < n ∧ (i : Int) = (j : Int) ∧ has (nth R j) c = true := by
    refine r.least (Q := fun t => ∃ j : Nat, j < n ∧ t = (j : Int) ∧ has (nth R j) c = true) ?_ ?_
    · rintro t ⟨j, h1, h2, h3⟩
      exact ⟨j, by omega, h2, h.base j c (by omega) hc h3⟩
    · rintro e he hf ⟨j, h1, h2, h3⟩
      have ht := R1.to e he
      refine ⟨e.to.toNat, by omega, by omega, h.cls j h1 (by simp) e.to.toNat ((hF j h1 _).2 ⟨e, he, hf, h2, by omega⟩) c hc h3⟩
  obtain ⟨j, h1, h2, h3⟩ := key
  have : i = j := by omega
  rw [this]; exact h3
end Go.Proofs.Ytkdkibnjfgcppaa.bd
