/-
  Texts put together: Plain mathematics: what the builder lays for an expression does, seen from the states that were there, just what one edge would do that takes the expression. Plain mathematics: what an expression takes, by its tree; the nfa that is laid for it takes just that.
-/
import Derived.Test.YtfilndgbgdnpiaaM04
import Derived.Test.YtfilndgbgdnpiaaM08
namespace Go.Proofs.Ytfilndgbgdnpiaa.nb
open st (Tr Q4 nodesOf goods okNode)
open nf (Ed)
set_option linter.unusedVariables false

/-- a text: its bytes, its length -/
structure Tx where
  d : Nat → Nat
  len : Nat
/-- what an edge does -/
def EdS (x : Tx) (e : Ed) : Rl := fun a b => e.fr = (a.1 : Int) ∧ e.to = (b.1 : Int) ∧ ((e.free = true ∧ a.2 = b.2) ∨ (e.free = false ∧ a.2 < x.len ∧ b.2 = a.2 + 1 ∧ nf.hasE e (x.d a.2) = true))
def EdR (x : Tx) (l : List Ed) : Rl := fun a b => ∃ e ∈ l, EdS x e a b
theorem edR_nil (x : Tx) (a b : Cf) : ¬ EdR x [] a b := fun ⟨e, he, _⟩ => by cases he
theorem edR_append (x : Tx) (l k : List Ed) (a b : Cf) : EdR x (l ++ k) a b ↔ Un (EdR x l) (EdR x k) a b := by
  unfold EdR Un
  constructor
  · rintro ⟨e, he, h⟩
    rcases List.mem_append.1 he with he | he
    · exact .inl ⟨e, he, h⟩
    · exact .inr ⟨e, he, h⟩
  · rintro (⟨e, he, h⟩ | ⟨e, he, h⟩)
    · exact ⟨e, List.mem_append_left _ he, h⟩
    · exact ⟨e, List.mem_append_right _ he, h⟩
/-- states that have come between two stages -/
def Bt (a b s : Nat) : Prop := a ≤ s ∧ s < b
/-- an edge between these states and two others -/
def Tch (f t a b : Nat) (e : Ed) : Prop := ∃ u v : Nat, e.fr = (u : Int) ∧ e.to = (v : Int) ∧ (u = f ∨ u = t ∨ Bt a b u) ∧ (v = f ∨ v = t ∨ Bt a b v)
theorem Tch.up {f t a b f' t' a' b' : Nat} {e : Ed} (h : Tch f t a b e) (hf : f = f' ∨ f = t' ∨ Bt a' b' f) (ht : t = f' ∨ t = t' ∨ Bt a' b' t) (h1 : a' ≤ a) (h2 : b ≤ b') : Tch f' t' a' b' e := by
  obtain ⟨u, v, e1, e2, hu, hv⟩ := h
  have key : ∀ s, (s = f ∨ s = t ∨ Bt a b s) → (s = f' ∨ s = t' ∨ Bt a' b' s) := by
    rintro s (rfl | rfl | ⟨h3, h4⟩)
    · exact hf
    · exact ht
    · exact .inr (.inr ⟨by omega, by omega⟩)
  exact ⟨u, v, e1, e2, key u hu, key v hv⟩
theorem tch_off {x : Tx} {l : List Ed} {f t a b : Nat} (h : ∀ e ∈ l, Tch f t a b e) (F : Nat → Prop) (hf : ¬ F f) (ht : ¬ F t) (hb : ∀ s, Bt a b s → ¬ F s) : Off F (EdR x l) := by
  rintro p q ⟨e, he, h1, h2, _⟩
  obtain ⟨u, v, e1, e2, hu, hv⟩ := h e he
  have eu : u = p.1 := by omega
  have ev : v = q.1 := by omega
  subst eu ev
  have key : ∀ s, (s = f ∨ s = t ∨ Bt a b s) → ¬ F s := by
    rintro s (rfl | rfl | h)
    · exact hf
    · exact ht
    · exact hb s h
  exact ⟨key _ hu, key _ hv⟩
theorem mc_off {f t : Nat} {T : Nat → Nat → Prop} (F : Nat → Prop) (hf : ¬ F f) (ht : ¬ F t) : Off F (Mc f t T) := fun a b h => ⟨by rw [h.1]; exact hf, by rw [h.2.1]; exact ht⟩

/-- between two stages something was laid that does what one edge would do -/
structure Fr (x : Tx) (y z : St) (f t : Nat) (T : Nat → Nat → Prop) (new : List Ed) : Prop where
  es : z.es = y.es ++ new
  n : y.n ≤ z.n
  tch : ∀ e ∈ new, Tch f t y.n z.n e
  same : Same (Bt y.n z.n) (EdR x new) (Mc f t T)
def Frx (x : Tx) (y z : St) (f t : Nat) (T : Nat → Nat → Prop) : Prop := ∃ new, Fr x y z f t T new
theorem Frx.to {x : Tx} {y z : St} {f t : Nat} {T U : Nat → Nat → Prop} (h : Frx x y z f t T) (k : ∀ i j, T i j ↔ U i j) : Frx x y z f t U := by
  obtain ⟨new, h⟩ := h
  exact ⟨new, h.es, h.n, h.tch, h.same.trans (Same.of fun a b => and_congr Iff.rfl (and_congr Iff.rfl (k _ _)))⟩
theorem edR_one (x : Tx) (e : Ed) (a b : Cf) : EdR x [e] a b ↔ EdS x e a b := ⟨fun ⟨u, hu, h⟩ => by rw [List.mem_singleton] at hu; rw [← hu]; exact h, fun h => ⟨e, List.mem_singleton.2 rfl, h⟩⟩
theorem edS_free (x : Tx) (f t : Nat) (a b : Cf) : EdS x ⟨f, t, true, 0, 0, 0, 0⟩ a b ↔ Mc f t Eq a b := by
  unfold EdS Mc
  constructor
  · rintro ⟨h1, h2, ⟨_, h3⟩ | ⟨h3, _⟩⟩
    · exact ⟨by simp only [] at h1; omega, by simp only [] at h2; omega, h3⟩
    · cases h3
  · rintro ⟨h1, h2, h3⟩
    exact ⟨by simp only []; omega, by simp only []; omega, .inl ⟨rfl, h3⟩⟩
theorem fr_free (x : Tx) (y : St) (f t : Nat) : Frx x y (y.free f t) f t Eq :=
  ⟨[⟨f, t, true, 0, 0, 0, 0⟩], rfl, Nat.le_refl _, fun e he => by rw [List.mem_singleton] at he; subst he; exact ⟨f, t, rfl, rfl, .inl rfl, .inr (.inl rfl)⟩, Same.of fun a b => (edR_one x _ a b).trans (edS_free x f t a b)⟩
/-- over one byte of a set -/
def OvS (x : Tx) (q : Q4) (i j : Nat) : Prop := i < x.len ∧ j = i + 1 ∧ nf.hasE ⟨0, 0, false, q.a, q.b, q.c, q.d⟩ (x.d i) = true
theorem fr_over (x : Tx) (y : St) (q : Q4) (f t : Nat) : Frx x y (y.over q f t) f t (OvS x q) :=
  ⟨[⟨f, t, false, q.a, q.b, q.c, q.d⟩], rfl, Nat.le_refl _, fun e he => by rw [List.mem_singleton] at he; subst he; exact ⟨f, t, rfl, rfl, .inl rfl, .inr (.inl rfl)⟩, Same.of fun a b => (edR_one x _ a b).trans (by
    unfold EdS Mc OvS
    constructor
    · rintro ⟨h1, h2, ⟨h3, _⟩ | ⟨_, h3, h4, h5⟩⟩
      · cases h3
      · exact ⟨by simp only [] at h1; omega, by simp only [] at h2; omega, h3, h4, h5⟩
    · rintro ⟨h1, h2, h3, h4, h5⟩
      exact ⟨by simp only []; omega, by simp only []; omega, .inr ⟨rfl, h3, h4, h5⟩⟩)⟩
/-- nothing is laid -/
theorem fr_none (x : Tx) (y : St) (f t : Nat) : Frx x y y f t (fun _ _ => False) :=
  ⟨[], by simp, Nat.le_refl _, fun e he => absurd he (by simp), Same.of fun a b => ⟨fun h => absurd h (edR_nil x a b), fun h => h.2.2.elim⟩⟩
/-- one beside the other -/
theorem Frx.or {x : Tx} {y z u : St} {f t : Nat} {T U : Nat → Nat → Prop} (h : Frx x y z f t T) (k : Frx x z u f t U) (hf : f < y.n) (ht : t < y.n) : Frx x y u f t (Or2 T U) := by
  obtain ⟨l, h⟩ := h
  obtain ⟨m, k⟩ := k
  have hn := h.n
  have kn := k.n
  refine ⟨l ++ m, by rw [k.es, h.es, List.append_assoc], by omega, fun e he => ?_, ?_⟩
  · rcases List.mem_append.1 he with he | he
    · exact (h.tch e he).up (.inl rfl) (.inr (.inl rfl)) (Nat.le_refl _) kn
    · exact (k.tch e he).up (.inl rfl) (.inr (.inl rfl)) hn (Nat.le_refl _)
  · have b := (h.same).both (k.same) (tch_off k.tch _ (fun s => by unfold Bt at s; omega) (fun s => by unfold Bt at s; omega) (fun s h1 h2 => by unfold Bt at h1 h2; omega)) (mc_off _ (fun s => by unfold Bt at s; omega) (fun s => by unfold Bt at s; omega))
    exact ((Same.of (edR_append x l m)).trans (b.up (fun s h1 => by unfold Bt at h1 ⊢; omega))).trans (Same.of (mc_or f t T U))
/-- one behind the other, over a new state -/
theorem Frx.seq {x : Tx} {y z u : St} {f t : Nat} {T U : Nat → Nat → Prop} (h : Frx x y.new z f y.n T) (k : Frx x z u y.n t U) (hf : f < y.n) (ht : t < y.n) : Frx x y u f t (Sq T U) := by
  obtain ⟨l, h⟩ := h
  obtain ⟨m, k⟩ := k
  have hn : y.n + 1 ≤ z.n := h.n
  have kn := k.n
  have h0 : y.new.n = y.n + 1 := rfl
  refine ⟨l ++ m, by rw [k.es, h.es, List.append_assoc]; rfl, by omega, fun e he => ?_, ?_⟩
  · rcases List.mem_append.1 he with he | he
    · exact (h.tch e he).up (.inl rfl) (.inr (.inr ⟨Nat.le_refl _, by omega⟩)) (by omega) kn
    · exact (k.tch e he).up (.inr (.inr ⟨Nat.le_refl _, by omega⟩)) (.inr (.inl rfl)) (by omega) (Nat.le_refl _)
  · have b := (h.same).both (k.same) (tch_off k.tch _ (fun s => by unfold Bt at s; omega) (fun s => by unfold Bt at s; omega) (fun s h1 h2 => by unfold Bt at h1 h2; omega)) (mc_off _ (fun s => by unfold Bt at s; omega) (fun s => by unfold Bt at s; omega))
    have c := mc_seq f y.n t T U (by omega) (by omega)
    exact ((Same.of (edR_append x l m)).trans (b.up (fun s h1 => by unfold Bt at h1 ⊢; omega))).trans (c.up (fun s h1 => by unfold Bt; omega))
/-- again and again -/
theorem Frx.star {x : Tx} {y z : St} {f t : Nat} {T : Nat → Nat → Prop} (h : Frx x (y.new.free f y.n) z y.n y.n T) (hf : f < y.n) (ht : t < y.n) : Frx x y (z.free y.n t) f t (Star T) := by
  obtain ⟨l, h⟩ := h
  have hn : y.n + 1 ≤ z.n := h.n
  have h0 : (y.new.free f y.n).n = y.n + 1 := rfl
  refine ⟨⟨f, y.n, true, 0, 0, 0, 0⟩ :: (l ++ [⟨y.n, t, true, 0, 0, 0, 0⟩]), ?_, by show y.n ≤ z.n; omega, fun e he => ?_, ?_⟩
  · show z.es ++ _ = _
    rw [h.es]
    simp [St.free, St.new]
  · show Tch f t y.n z.n e
    rcases List.mem_cons.1 he with rfl | he
    · exact ⟨f, y.n, rfl, rfl, .inl rfl, .inr (.inr ⟨Nat.le_refl _, by omega⟩)⟩
    · rcases List.mem_append.1 he with he | he
      · exact (h.tch e he).up (.inr (.inr ⟨Nat.le_refl _, by omega⟩)) (.inr (.inr ⟨Nat.le_refl _, by omega⟩)) (by omega) (Nat.le_refl _)
      · rw [List.mem_singleton] at he
        subst he
        exact ⟨y.n, t, rfl, rfl, .inr (.inr ⟨Nat.le_refl _, by omega⟩), .inr (.inl rfl)⟩
  · have s1 : Same (Bt (y.n + 1) z.n) (Un (EdR x l) (Un (Mc f y.n Eq) (Mc y.n t Eq))) (Un (Mc y.n y.n T) (Un (Mc f y.n Eq) (Mc y.n t Eq))) := by
      have b := (h.same).both (Same.refl (fun _ => False) (Un (Mc f y.n Eq) (Mc y.n t Eq))) ((mc_off _ (fun s => by unfold Bt at s; omega) (fun s => by unfold Bt at s; omega)).un (mc_off _ (fun s => by unfold Bt at s; omega) (fun s => by unfold Bt at s; omega))) (fun _ _ _ => ⟨fun h => h, fun h => h⟩)
      exact b.up (fun s h1 => h1.elim (fun h => h) (fun h => h.elim))
    have c := mc_star f y.n t Eq T Eq (by omega) (by omega)
    have e1 : ∀ a b, EdR x (⟨f, y.n, true, 0, 0, 0, 0⟩ :: (l ++ [⟨y.n, t, true, 0, 0, 0, 0⟩])) a b ↔ Un (EdR x l) (Un (Mc f y.n Eq) (Mc y.n t Eq)) a b := fun a b => by
      rw [← List.singleton_append, edR_append]
      unfold Un
      rw [edR_append, edR_one, edS_free]
      unfold Un
      rw [edR_one, edS_free]
      exact ⟨fun h => h.elim (fun h => .inr (.inl h)) fun h => h.elim .inl fun h => .inr (.inr h), fun h => h.elim (fun h => .inr (.inl h)) fun h => h.elim .inl fun h => .inr (.inr h)⟩
    have e2 : ∀ a b, Un (Mc y.n y.n T) (Un (Mc f y.n Eq) (Mc y.n t Eq)) a b ↔ Un (Mc f y.n Eq) (Un (Mc y.n y.n T) (Mc y.n t Eq)) a b := fun a b => or_left_comm
    refine ((((Same.of e1).trans (s1.up (fun s h1 => by unfold Bt at h1 ⊢; show y.n ≤ s ∧ s < z.n; omega))).trans (Same.of e2)).trans (c.up (fun s h1 => by unfold Bt; show y.n ≤ s ∧ s < z.n; omega))).trans (Same.of fun a b => ?_)
    unfold Mc Sq
    constructor
    · rintro ⟨h1, h2, k, rfl, j, h3, rfl⟩
      exact ⟨h1, h2, h3⟩
    · rintro ⟨h1, h2, h3⟩
      exact ⟨h1, h2, _, rfl, _, h3, rfl⟩
/-- once, and again and again -/
theorem Frx.plus {x : Tx} {y z : St} {f t : Nat} {T : Nat → Nat → Prop} (h : Frx x ((y.new.free f y.n).new.free (y.n + 1) y.n) z y.n (y.n + 1) T) (hf : f < y.n) (ht : t < y.n) : Frx x y (z.free (y.n + 1) t) f t (Sq (Star T) T) := by
  obtain ⟨l, h⟩ := h
  have hn : y.n + 2 ≤ z.n := h.n
  have h0 : ((y.new.free f y.n).new.free (y.n + 1) y.n).n = y.n + 2 := rfl
  refine ⟨⟨f, y.n, true, 0, 0, 0, 0⟩ :: ⟨(y.n + 1 : Nat), y.n, true, 0, 0, 0, 0⟩ :: (l ++ [⟨(y.n + 1 : Nat), t, true, 0, 0, 0, 0⟩]), ?_, by show y.n ≤ z.n; omega, fun e he => ?_, ?_⟩
  · show z.es ++ _ = _
    rw [h.es]
    simp [St.free, St.new]
  · show Tch f t y.n z.n e
    rcases List.mem_cons.1 he with rfl | he
    · exact ⟨f, y.n, rfl, rfl, .inl rfl, .inr (.inr ⟨Nat.le_refl _, by omega⟩)⟩
    · rcases List.mem_cons.1 he with rfl | he
      · exact ⟨y.n + 1, y.n, rfl, rfl, .inr (.inr ⟨by omega, by omega⟩), .inr (.inr ⟨Nat.le_refl _, by omega⟩)⟩
      · rcases List.mem_append.1 he with he | he
        · exact (h.tch e he).up (.inr (.inr ⟨Nat.le_refl _, by omega⟩)) (.inr (.inr ⟨by omega, by omega⟩)) (by omega) (Nat.le_refl _)
        · rw [List.mem_singleton] at he
          subst he
          exact ⟨y.n + 1, t, rfl, rfl, .inr (.inr ⟨by omega, by omega⟩), .inr (.inl rfl)⟩
  · obtain ⟨c, hc⟩ : ∃ c, c = y.n := ⟨_, rfl⟩
    obtain ⟨d, hd⟩ : ∃ d, d = y.n + 1 := ⟨_, rfl⟩
    have s1 : Same (Bt (y.n + 2) z.n) (Un (EdR x l) (Un (Mc f c Eq) (Un (Mc d c Eq) (Mc d t Eq)))) (Un (Mc c d T) (Un (Mc f c Eq) (Un (Mc d c Eq) (Mc d t Eq)))) := by
      have hs := h.same
      rw [← hd, ← hc] at hs
      have nb : ∀ s, s < y.n + 2 → ¬ Bt (y.n + 2) z.n s := fun s h1 h2 => by unfold Bt at h2; omega
      have b := hs.both (Same.refl (fun _ => False) (Un (Mc f c Eq) (Un (Mc d c Eq) (Mc d t Eq)))) ((mc_off _ (nb f (by omega)) (nb c (by omega))).un ((mc_off _ (nb d (by omega)) (nb c (by omega))).un (mc_off _ (nb d (by omega)) (nb t (by omega))))) (fun _ _ _ => ⟨fun h => h, fun h => h⟩)
      exact b.up (fun s h1 => h1.elim (fun h => h) (fun h => h.elim))
    have s2 : Same (fun s => s = d) (Un (Un (Mc c d T) (Un (Mc d c Eq) (Mc d t Eq))) (Mc f c Eq)) (Un (Un (Mc c c T) (Mc c t T)) (Mc f c Eq)) := by
      have b := (mc_fork c d t T (by omega) (by omega)).both (Same.refl (fun _ => False) (Mc f c Eq)) (mc_off _ (by omega) (by omega)) (fun _ _ _ => ⟨fun h => h, fun h => h⟩)
      exact b.up (fun s h1 => h1.elim (fun h => h) (fun h => h.elim))
    have s3 := mc_star f c t Eq T T (by omega) (by omega)
    have e1 : ∀ a b, EdR x (⟨f, y.n, true, 0, 0, 0, 0⟩ :: ⟨(y.n + 1 : Nat), y.n, true, 0, 0, 0, 0⟩ :: (l ++ [⟨(y.n + 1 : Nat), t, true, 0, 0, 0, 0⟩])) a b ↔ Un (EdR x l) (Un (Mc f c Eq) (Un (Mc d c Eq) (Mc d t Eq))) a b := fun a b => by
      rw [← List.singleton_append, edR_append]
      unfold Un
      rw [← List.singleton_append (x := (⟨(y.n + 1 : Nat), y.n, true, 0, 0, 0, 0⟩ : Ed)), edR_append, edR_one, edS_free]
      unfold Un
      rw [edR_append, edR_one, edS_free]
      unfold Un
      rw [edR_one, edS_free, ← hd, ← hc]
      exact ⟨fun h => h.elim (fun h => .inr (.inl h)) fun h => h.elim (fun h => .inr (.inr (.inl h))) fun h => h.elim .inl fun h => .inr (.inr (.inr h)), fun h => h.elim (fun h => .inr (.inr (.inl h))) fun h => h.elim .inl fun h => h.elim (fun h => .inr (.inl h)) fun h => .inr (.inr (.inr h))⟩
    have e2 : ∀ a b, Un (Mc c d T) (Un (Mc f c Eq) (Un (Mc d c Eq) (Mc d t Eq))) a b ↔ Un (Un (Mc c d T) (Un (Mc d c Eq) (Mc d t Eq))) (Mc f c Eq) a b := fun a b =>
      ⟨fun h => h.elim (fun h => .inl (.inl h)) fun h => h.elim .inr fun h => .inl (.inr h), fun h => h.elim (fun h => h.elim .inl fun h => .inr (.inr h)) fun h => .inr (.inl h)⟩
    have e3 : ∀ a b, Un (Un (Mc c c T) (Mc c t T)) (Mc f c Eq) a b ↔ Un (Mc f c Eq) (Un (Mc c c T) (Mc c t T)) a b := fun a b => or_comm
    have up : ∀ s, (Bt (y.n + 2) z.n s ∨ s = d ∨ s = c) → Bt y.n z.n s := fun s h1 => by unfold Bt at h1 ⊢; omega
    show Same (Bt y.n z.n) _ _
    refine ((((((Same.of e1).trans (s1.up (fun s h1 => up s (.inl h1)))).trans (Same.of e2)).trans (s2.up (fun s h1 => up s (.inr (.inl h1))))).trans (Same.of e3)).trans (s3.up (fun s h1 => up s (.inr (.inr h1))))).trans (Same.of fun a b => ?_)
    unfold Mc Sq
    constructor
    · rintro ⟨h1, h2, k, rfl, h3⟩
      exact ⟨h1, h2, h3⟩
    · rintro ⟨h1, h2, h3⟩
      exact ⟨h1, h2, _, rfl, h3⟩
end Go.Proofs.Ytfilndgbgdnpiaa.nb

namespace Go.Proofs.Ytfilndgbgdnpiaa.nb
open st (Tr Q4 nodesOf goods okNode)
open nf (Ed)
set_option linter.unusedVariables false

def Pow (T : Nat → Nat → Prop) : Nat → Nat → Nat → Prop
  | 0, i, j => i = j
  | n + 1, i, j => ∃ k, T i k ∧ Pow T n k j
mutual
/-- from a place to a place -/
def Tk (x : Tx) : Tr → Nat → Nat → Prop
  | .node k q mn mx l, i, j =>
    if k = 1 then OvS x q i j
    else if k = 2 then TkC x l i j
    else if k = 3 then TkA x l i j
    else if k = 4 then (∃ n, mn.toNat ≤ n ∧ (mx = -1 ∨ n ≤ mx.toNat) ∧ Pow (TkH x l) n i j)
    else False
def TkC (x : Tx) : List Tr → Nat → Nat → Prop
  | [], i, j => i = j
  | t :: l, i, j => ∃ k, Tk x t i k ∧ TkC x l k j
def TkA (x : Tx) : List Tr → Nat → Nat → Prop
  | [], i, j => False
  | t :: l, i, j => Tk x t i j ∨ TkA x l i j
def TkH (x : Tx) : List Tr → Nat → Nat → Prop
  | [], i, j => False
  | t :: _, i, j => Tk x t i j
end
theorem Pow.snoc {T : Nat → Nat → Prop} : ∀ {n i j k : Nat}, Pow T n i j → T j k → Pow T (n + 1) i k
  | 0, i, j, k, h, t => by cases h; exact ⟨k, t, rfl⟩
  | n + 1, i, j, k, ⟨m, h1, h2⟩, t => ⟨m, h1, Pow.snoc h2 t⟩
theorem Pow.unsnoc {T : Nat → Nat → Prop} : ∀ {n i k : Nat}, Pow T (n + 1) i k → ∃ j, Pow T n i j ∧ T j k
  | 0, i, k, ⟨m, h1, h2⟩ => by cases h2; exact ⟨i, rfl, h1⟩
  | n + 1, i, k, ⟨m, h1, h2⟩ => by
    obtain ⟨j, h3, h4⟩ := Pow.unsnoc h2
    exact ⟨j, ⟨m, h1, h3⟩, h4⟩
theorem pow_add {T : Nat → Nat → Prop} : ∀ (m n i j : Nat), Pow T (m + n) i j ↔ Sq (Pow T m) (Pow T n) i j
  | 0, n, i, j => by
    rw [Nat.zero_add]
    exact ⟨fun h => ⟨i, rfl, h⟩, fun ⟨k, h1, h2⟩ => by cases h1; exact h2⟩
  | m + 1, n, i, j => by
    rw [show m + 1 + n = (m + n) + 1 by omega]
    constructor
    · rintro ⟨k, h1, h2⟩
      obtain ⟨c, h3, h4⟩ := (pow_add m n k j).1 h2
      exact ⟨c, ⟨k, h1, h3⟩, h4⟩
    · rintro ⟨c, ⟨k, h1, h3⟩, h4⟩
      exact ⟨k, h1, (pow_add m n k j).2 ⟨c, h3, h4⟩⟩
theorem star_pow {T : Nat → Nat → Prop} (i j : Nat) : Star T i j ↔ ∃ n, Pow T n i j := by
  constructor
  · intro h
    induction h with
    | refl i => exact ⟨0, rfl⟩
    | step t _ ih =>
      obtain ⟨n, hn⟩ := ih
      exact ⟨n + 1, _, t, hn⟩
  · rintro ⟨n, h⟩
    induction n generalizing i with
    | zero => cases h; exact .refl _
    | succ n ih =>
      obtain ⟨k, h1, h2⟩ := h
      exact .step h1 (ih k h2)
/-- no less than it was -/
def Ge (x y : St) : Prop := x.n ≤ y.n ∧ x.es.length ≤ y.es.length
theorem Ge.refl (x : St) : Ge x x := ⟨Nat.le_refl _, Nat.le_refl _⟩
theorem Ge.trans {x y z : St} (h : Ge x y) (k : Ge y z) : Ge x z := ⟨Nat.le_trans h.1 k.1, Nat.le_trans h.2 k.2⟩
theorem ge_new (x : St) : Ge x x.new := ⟨Nat.le_succ _, Nat.le_refl _⟩
theorem ge_free (x : St) (f t : Nat) : Ge x (x.free f t) := ⟨Nat.le_refl _, by simp [St.free]⟩
theorem Ge.full {x y : St} (h : Ge x y) (k : y.full = false) : x.full = false := by
  simp [St.full] at k ⊢
  have := h.1
  have := h.2
  omega
def Gr (L : Lay) : Prop := ∀ f t x, Ge x (L f t x)
theorem times_gr {L : Lay} (h : Gr L) : ∀ (k f : Nat) (x : St), Ge x (times L k f x).2
  | 0, f, x => Ge.refl _
  | k + 1, f, x => ((ge_new x).trans (h f x.n x.new)).trans (times_gr h k x.n _)
theorem upTo_gr {L : Lay} (h : Gr L) (least to : Nat) : ∀ (k i f : Nat) (x : St), Ge x (upTo L least to k i f x)
  | 0, i, f, x => ge_free x f to
  | k + 1, i, f, x => by
    unfold upTo
    dsimp only
    refine Ge.trans ?_ (((ge_new _).trans (h f _ _)).trans (upTo_gr h least to k (i + 1) _ _))
    split
    · exact ge_free x f to
    · exact Ge.refl _
theorem again_gr {L : Lay} (h : Gr L) (least f to : Nat) (x : St) : Ge x (again L least f to x) := by
  have h1 := times_gr h (least - 1) f x
  unfold again
  dsimp only
  split
  · exact h1.trans ((((((ge_new _).trans (ge_free _ _ _)).trans (ge_new _)).trans (ge_free _ _ _)).trans (h _ _ _)).trans (ge_free _ _ _))
  · exact h1.trans ((((ge_new _).trans (ge_free _ _ _)).trans (h _ _ _)).trans (ge_free _ _ _))
mutual
theorem lay_gr : ∀ (t : Tr), Gr (layT t)
  | .node k q mn mx l => by
    intro f t x
    rw [layT]
    split
    · exact Ge.refl _
    · split
      · exact ⟨Nat.le_refl _, by simp [St.over]⟩
      · split
        · exact (row_gr l f x).trans (ge_free _ _ _)
        · split
          · exact alt_gr l f t x
          · split
            · split
              · exact again_gr (head_gr l) _ f t x
              · exact upTo_gr (head_gr l) _ t _ _ f x
            · exact Ge.refl _
theorem row_gr : ∀ (l : List Tr) (f : Nat) (x : St), Ge x (rowT l f x).2
  | [], f, x => Ge.refl _
  | t :: l, f, x => by
    rw [rowT]
    exact ((ge_new x).trans (lay_gr t f x.n x.new)).trans (row_gr l x.n _)
theorem alt_gr : ∀ (l : List Tr), Gr (altT l)
  | [] => fun f t x => Ge.refl _
  | k :: l => fun f t x => by
    rw [altT]
    exact (lay_gr k f t x).trans (alt_gr l f t _)
theorem head_gr : ∀ (l : List Tr), Gr (headT l)
  | [] => fun f t x => Ge.refl _
  | k :: _ => lay_gr k
end
/-- what it lays, where it has room, does what one edge would do -/
def Does (x : Tx) (L : Lay) (T : Nat → Nat → Prop) : Prop := ∀ f t y, f < y.n → t < y.n → (L f t y).full = false → Frx x y (L f t y) f t T
/-- up to so many times -/
def Ut (T : Nat → Nat → Prop) (least : Nat) : Nat → Nat → Nat → Nat → Prop
  | 0, i => Eq
  | k + 1, i => Or2 (fun a b => least ≤ i ∧ a = b) (Sq T (Ut T least k (i + 1)))
theorem upTo_does {x : Tx} {L : Lay} {T : Nat → Nat → Prop} (h : Does x L T) (hr : Gr L) (least to : Nat) : ∀ (k i f : Nat) (y : St), f < y.n → to < y.n → (upTo L least to k i f y).full = false → Frx x y (upTo L least to k i f y) f to (Ut T least k i)
  | 0, i, f, y, hf, ht, _ => fr_free x y f to
  | k + 1, i, f, y, hf, ht, hfu => by
    unfold upTo at hfu ⊢
    dsimp only at hfu ⊢
    by_cases hi : least ≤ i
    · rw [if_pos hi] at hfu ⊢
      have g1 := upTo_gr hr least to k (i + 1) (y.free f to).n (L f (y.free f to).n (y.free f to).new)
      have a1 := h f (y.free f to).n (y.free f to).new (by show f < y.n + 1; omega) (by show y.n < y.n + 1; omega) (g1.full hfu)
      have g2 := hr f (y.free f to).n (y.free f to).new
      have g3 : y.n + 1 ≤ (L f (y.free f to).n (y.free f to).new).n := g2.1
      have a2 := upTo_does h hr least to k (i + 1) (y.free f to).n (L f (y.free f to).n (y.free f to).new) (by show y.n < _; omega) (by omega) hfu
      have a3 := Frx.seq (y := y.free f to) a1 a2 (by show f < y.n; omega) (by show to < y.n; omega)
      refine ((fr_free x y f to).or a3 hf ht).to fun a b => or_congr ⟨fun e => ⟨hi, e⟩, fun e => e.2⟩ Iff.rfl
    · rw [if_neg hi] at hfu ⊢
      have g1 := upTo_gr hr least to k (i + 1) y.n (L f y.n y.new)
      have a1 := h f y.n y.new (by show f < y.n + 1; omega) (by show y.n < y.n + 1; omega) (g1.full hfu)
      have g3 : y.n + 1 ≤ (L f y.n y.new).n := (hr f y.n y.new).1
      have a2 := upTo_does h hr least to k (i + 1) y.n (L f y.n y.new) (by omega) (by omega) hfu
      have a3 := Frx.seq a1 a2 hf ht
      exact a3.to fun a b => ⟨fun e => .inr e, fun e => e.elim (fun e => absurd e.1 hi) id⟩
theorem ut_pow {T : Nat → Nat → Prop} (least : Nat) : ∀ (k i a b : Nat), least ≤ i + k → (Ut T least k i a b ↔ ∃ n, n ≤ k ∧ least ≤ i + n ∧ Pow T n a b)
  | 0, i, a, b, h => ⟨fun e => ⟨0, Nat.le_refl _, h, e⟩, fun ⟨n, h1, h2, h3⟩ => by
      obtain rfl : n = 0 := by omega
      exact h3⟩
  | k + 1, i, a, b, h => by
    constructor
    · rintro (⟨h1, rfl⟩ | ⟨c, h1, h2⟩)
      · exact ⟨0, Nat.zero_le _, h1, rfl⟩
      · obtain ⟨n, h3, h4, h5⟩ := (ut_pow least k (i + 1) c b (by omega)).1 h2
        exact ⟨n + 1, by omega, by omega, c, h1, h5⟩
    · rintro ⟨n, h1, h2, h3⟩
      cases n with
      | zero => exact .inl ⟨h2, h3⟩
      | succ n =>
        obtain ⟨c, h4, h5⟩ := h3
        exact .inr ⟨c, h4, (ut_pow least k (i + 1) c b (by omega)).2 ⟨n, by omega, by omega, h5⟩⟩
/-- the last copy, which is gone through again and again -/
def lastL (L : Lay) (f to : Nat) (x : St) : St := (L x.n (x.n + 1) ((x.new.free f x.n).new.free (x.n + 1) x.n)).free (x.n + 1) to
theorem again_succ (L : Lay) (k f to : Nat) (x : St) : again L (k + 1) f to x = lastL L (times L k f x).1 to (times L k f x).2 := by
  unfold again lastL
  rw [if_pos (Nat.succ_pos _)]
  rfl
theorem again_zero (L : Lay) (f to : Nat) (x : St) : again L 0 f to x = (L x.n x.n (x.new.free f x.n)).free x.n to := by
  unfold again
  rw [if_neg (Nat.lt_irrefl _)]
  rfl
theorem last_gr {L : Lay} (hr : Gr L) (f to : Nat) (x : St) : Ge x (lastL L f to x) := ((((((ge_new _).trans (ge_free _ _ _)).trans (ge_new _)).trans (ge_free _ _ _)).trans (hr _ _ _)).trans (ge_free _ _ _))
theorem last_does {x : Tx} {L : Lay} {T : Nat → Nat → Prop} (h : Does x L T) (hr : Gr L) (f to : Nat) (y : St) (hf : f < y.n) (ht : to < y.n) (hfu : (lastL L f to y).full = false) : Frx x y (lastL L f to y) f to (Sq (Star T) T) := by
  have a1 := h y.n (y.n + 1) ((y.new.free f y.n).new.free (y.n + 1) y.n) (by show y.n < y.n + 1 + 1; omega) (by show y.n + 1 < y.n + 1 + 1; omega) ((ge_free _ _ _).full hfu)
  exact a1.plus hf ht
theorem times_does {x : Tx} {L : Lay} {T : Nat → Nat → Prop} (h : Does x L T) (hr : Gr L) (to : Nat) : ∀ (k f : Nat) (y : St), f < y.n → to < y.n → (lastL L (times L k f y).1 to (times L k f y).2).full = false → Frx x y (lastL L (times L k f y).1 to (times L k f y).2) f to (Sq (Pow T k) (Sq (Star T) T))
  | 0, f, y, hf, ht, hfu => (last_does h hr f to y hf ht hfu).to fun a b => ⟨fun e => ⟨a, rfl, e⟩, fun ⟨c, h1, h2⟩ => by cases h1; exact h2⟩
  | k + 1, f, y, hf, ht, hfu => by
    unfold times at hfu ⊢
    have g1 := (times_gr hr k y.n (L f y.n y.new)).trans (last_gr hr (times L k y.n (L f y.n y.new)).1 to (times L k y.n (L f y.n y.new)).2)
    have a1 := h f y.n y.new (by show f < y.n + 1; omega) (by show y.n < y.n + 1; omega) (g1.full hfu)
    have g3 : y.n + 1 ≤ (L f y.n y.new).n := (hr f y.n y.new).1
    have a2 := times_does h hr to k y.n (L f y.n y.new) (by omega) (by omega) hfu
    refine (Frx.seq a1 a2 hf ht).to fun a b => ?_
    constructor
    · rintro ⟨c, h1, d, h2, h3⟩
      exact ⟨d, ⟨c, h1, h2⟩, h3⟩
    · rintro ⟨d, ⟨c, h1, h2⟩, h3⟩
      exact ⟨c, h1, d, h2, h3⟩
theorem again_does {x : Tx} {L : Lay} {T : Nat → Nat → Prop} (h : Does x L T) (hr : Gr L) (least f to : Nat) (y : St) (hf : f < y.n) (ht : to < y.n) (hfu : (again L least f to y).full = false) : Frx x y (again L least f to y) f to (fun i j => ∃ n, least ≤ n ∧ Pow T n i j) := by
  cases least with
  | zero =>
    rw [again_zero] at hfu ⊢
    have a1 := h y.n y.n (y.new.free f y.n) (by show y.n < y.n + 1; omega) (by show y.n < y.n + 1; omega) ((ge_free _ _ _).full hfu)
    exact (a1.star hf ht).to fun a b => (star_pow a b).trans ⟨fun ⟨n, h⟩ => ⟨n, Nat.zero_le _, h⟩, fun ⟨n, _, h⟩ => ⟨n, h⟩⟩
  | succ k =>
    rw [again_succ] at hfu ⊢
    refine (times_does h hr to k f y hf ht hfu).to fun a b => ?_
    constructor
    · rintro ⟨c, h1, d, h2, h3⟩
      obtain ⟨n, hn⟩ := (star_pow c d).1 h2
      exact ⟨k + n + 1, by omega, Pow.snoc ((pow_add k n a d).2 ⟨c, h1, hn⟩) h3⟩
    · rintro ⟨n, hn, hp⟩
      obtain ⟨m, rfl⟩ : ∃ m, n = (k + m) + 1 := ⟨n - k - 1, by omega⟩
      obtain ⟨d, h1, h2⟩ := Pow.unsnoc hp
      obtain ⟨c, h3, h4⟩ := (pow_add k m a d).1 h1
      exact ⟨c, h3, d, (star_pow c d).2 ⟨m, h4⟩, h2⟩
theorem times_ok (t : Tr) (h : okNode t = true) (hk : t.kind = 4) : t.kids.length = 1 ∧ 0 ≤ t.min ∧ (t.max = -1 ∨ t.min ≤ t.max) := by
  unfold okNode st.timesOk at h
  rw [if_neg (by omega), if_neg (by omega), if_neg (by omega), if_pos hk] at h
  simp at h
  omega
mutual
theorem lay_does (x : Tx) : ∀ (t : Tr), t.good = true → Does x (layT t) (Tk x t)
  | .node k q mn mx l, hgd => by
    intro f t y hf ht hfu
    have hg2 := hgd
    rw [Tr.good_eq, Bool.and_eq_true] at hg2
    have hkid := hg2.2
    have htm := times_ok _ hg2.1
    simp only [Tr.kids, Tr.kind, Tr.min, Tr.max] at hkid htm
    rw [layT] at hfu ⊢
    have hyf : ¬ y.full = true := by
      intro e
      rw [if_pos e] at hfu
      rw [e] at hfu
      cases hfu
    rw [if_neg hyf] at hfu ⊢
    by_cases k1 : k = 1
    · rw [if_pos k1] at hfu ⊢
      exact (fr_over x y q f t).to fun a b => by rw [Tk, if_pos k1]
    · rw [if_neg k1] at hfu ⊢
      by_cases k2 : k = 2
      · rw [if_pos k2] at hfu ⊢
        exact (row_does x l hkid f t y hf ht hfu).to fun a b => by rw [Tk, if_neg k1, if_pos k2]
      · rw [if_neg k2] at hfu ⊢
        by_cases k3 : k = 3
        · rw [if_pos k3] at hfu ⊢
          exact (alt_does x l hkid f t y hf ht hfu).to fun a b => by rw [Tk, if_neg k1, if_neg k2, if_pos k3]
        · rw [if_neg k3] at hfu ⊢
          by_cases k4 : k = 4
          · rw [if_pos k4] at hfu ⊢
            obtain ⟨_, hm0, hm1⟩ := htm k4
            by_cases m1 : mx = -1
            · rw [if_pos m1] at hfu ⊢
              refine (again_does (head_does x l hkid) (head_gr l) mn.toNat f t y hf ht hfu).to fun a b => ?_
              rw [Tk, if_neg k1, if_neg k2, if_neg k3, if_pos k4]
              exact ⟨fun ⟨n, h1, h2⟩ => ⟨n, h1, .inl m1, h2⟩, fun ⟨n, h1, _, h2⟩ => ⟨n, h1, h2⟩⟩
            · rw [if_neg m1] at hfu ⊢
              refine (upTo_does (head_does x l hkid) (head_gr l) mn.toNat t mx.toNat 0 f y hf ht hfu).to fun a b => ?_
              rw [Tk, if_neg k1, if_neg k2, if_neg k3, if_pos k4, ut_pow mn.toNat mx.toNat 0 a b (by omega)]
              exact ⟨fun ⟨n, h1, h2, h3⟩ => ⟨n, by omega, .inr h1, h3⟩, fun ⟨n, h1, h2, h3⟩ => ⟨n, h2.elim (fun e => absurd e m1) id, by omega, h3⟩⟩
          · rw [if_neg k4] at hfu ⊢
            exact (fr_none x y f t).to fun a b => by rw [Tk, if_neg k1, if_neg k2, if_neg k3, if_neg k4]
theorem row_does (x : Tx) : ∀ (l : List Tr), goods l = true → ∀ (f t : Nat) (y : St), f < y.n → t < y.n → ((rowT l f y).2.free (rowT l f y).1 t).full = false → Frx x y ((rowT l f y).2.free (rowT l f y).1 t) f t (TkC x l)
  | [], _, f, t, y, hf, ht, _ => (fr_free x y f t).to fun a b => by rw [TkC]
  | u :: l, hg, f, t, y, hf, ht, hfu => by
    rw [goods, Bool.and_eq_true] at hg
    rw [rowT] at hfu ⊢
    have g1 := (row_gr l y.n (layT u f y.n y.new)).trans (ge_free _ (rowT l y.n (layT u f y.n y.new)).1 t)
    have a1 := lay_does x u hg.1 f y.n y.new (by show f < y.n + 1; omega) (by show y.n < y.n + 1; omega) (g1.full hfu)
    have g3 : y.n + 1 ≤ (layT u f y.n y.new).n := (lay_gr u f y.n y.new).1
    have a2 := row_does x l hg.2 y.n t (layT u f y.n y.new) (by omega) (by omega) hfu
    exact (Frx.seq a1 a2 hf ht).to fun a b => by rw [TkC]; rfl
theorem alt_does (x : Tx) : ∀ (l : List Tr), goods l = true → Does x (altT l) (TkA x l)
  | [], _ => fun f t y hf ht _ => (fr_none x y f t).to fun a b => by rw [TkA]
  | u :: l, hg => by
    rw [goods, Bool.and_eq_true] at hg
    intro f t y hf ht hfu
    rw [altT] at hfu ⊢
    have a1 := lay_does x u hg.1 f t y hf ht ((alt_gr l f t _).full hfu)
    have g3 : y.n ≤ (layT u f t y).n := (lay_gr u f t y).1
    have a2 := alt_does x l hg.2 f t (layT u f t y) (by omega) (by omega) hfu
    exact (a1.or a2 hf ht).to fun a b => by rw [TkA]; rfl
theorem head_does (x : Tx) : ∀ (l : List Tr), goods l = true → Does x (headT l) (TkH x l)
  | [], _ => fun f t y hf ht _ => (fr_none x y f t).to fun a b => by rw [TkH]
  | u :: l, hg => by
    rw [goods, Bool.and_eq_true] at hg
    intro f t y hf ht hfu
    rw [headT] at hfu ⊢
    exact (lay_does x u hg.1 f t y hf ht hfu).to fun a b => by rw [TkH]
end
end Go.Proofs.Ytfilndgbgdnpiaa.nb
