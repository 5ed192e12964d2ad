/-
  Texts put together: Contracts over this program: two crowds and a row beside one another. Contracts over this program: where what an nfa takes may end (nfa.Ends). What an nfa takes: the lists that there are.
-/
import Derived.Test.YtfilndgbgdnpiaaKNq
import Derived.Test.YtfilndgbgdnpiaaKNl
import Derived.Deep.RegionWith
namespace Go.Proofs.Ytfilndgbgdnpiaa.nf
open Go.RowKit Go.Shelf
set_option linter.unusedVariables false
open df (Kp Owns Row iv In IntsV)

def Fp (c sb : Nat) (va vw : Value) (b : Nat) : Prop := b = c ∨ b = sb ∨ some b = va.ownBlock ∨ some b = vw.ownBlock
/-- what a crowd keeps off: the rest, the other crowd's blocks, the row's block -/
def Off (X : Nat → Prop) (c sb : Nat) (va vw v : Value) (b : Nat) : Prop := X b ∨ Fp c sb va vw b ∨ some b = v.ownBlock
structure Mks (n : Nat) (m : List Bool) (l q : List Int) : Prop where
  ok : ∀ i, i < n → m[i]? = some (decide ((i : Int) ∈ l))
  nd : l.Nodup
  rg : ∀ t ∈ l, 0 ≤ t ∧ t < (n : Int)
  ql : q.length ≤ l.length
structure Pair (X : Nat → Prop) (W : World) (B c1 s1 c2 s2 n : Nat) (l1 q1 l2 q2 : List Int) (v : Value) (es : List Int) : Prop where
  lie : ∃ m1 a1 w1 m2 a2 w2, Crowd (Off X c2 s2 a2 w2 v) W B c1 s1 n m1 a1 w1 l1 q1 ∧ Crowd (Off X c1 s1 a1 w1 v) W B c2 s2 n m2 a2 w2 l2 q2 ∧ Mks n m1 l1 q1 ∧ Mks n m2 l2 q2
  row : Owns W B v es
  ap : ∀ b, X b → some b ≠ v.ownBlock
theorem Pair.swap {X : Nat → Prop} {W : World} {B c1 s1 c2 s2 n : Nat} {l1 q1 l2 q2 : List Int} {v : Value} {es : List Int} (h : Pair X W B c1 s1 c2 s2 n l1 q1 l2 q2 v es) : Pair X W B c2 s2 c1 s1 n l2 q2 l1 q1 v es := by
  obtain ⟨m1, a1, w1, m2, a2, w2, k1, k2, h1, h2⟩ := h.lie
  exact ⟨⟨m2, a2, w2, m1, a1, w1, k2, k1, h2, h1⟩, h.row, h.ap⟩
theorem Crowd.off {X Y : Nat → Prop} {W : World} {B c sb n : Nat} {m : List Bool} {va vw : Value} {l q : List Int} (h : Crowd X W B c sb n m va vw l q) (hy : ∀ b, Y b → b < W.heap.size ∧ b ≠ c ∧ b ≠ sb ∧ some b ≠ va.ownBlock ∧ some b ≠ vw.ownBlock) : Crowd Y W B c sb n m va vw l q :=
  ⟨h.blk, h.seen, h.ml, h.all, h.wait, h.two, h.bc, h.bs, hy⟩
theorem Crowd.fp_lt {X : Nat → Prop} {W : World} {B c sb n : Nat} {m : List Bool} {va vw : Value} {l q : List Int} (h : Crowd X W B c sb n m va vw l q) {b : Nat} (hb : Fp c sb va vw b) : b < W.heap.size := by
  rcases hb with rfl | rfl | e | e
  · exact h.lt
  · exact h.seen.lt
  · exact own_lt h.all e.symm
  · exact own_lt h.wait e.symm
theorem own_row {W : World} {B : Nat} {g : Option Addr} {k cap : Nat} {l : List Int} {P : Nat → Prop} (h : Owns W B (.slice g k cap) l) (hp : ∀ b, some b = (Value.slice g k cap).ownBlock → P b) : Row P W iv g cap l := by
  obtain ⟨e1, e2, e3⟩ := own_cap h
  refine ⟨e2, e3, fun i hi => ?_⟩
  obtain ⟨b, rfl, hc, hb⟩ := own_cell h i hi
  exact ⟨b, 0, rfl, hp b rfl, by rw [Nat.zero_add]; exact hc⟩
/-- a pair's first crowd may be worked on -/
theorem Pair.op {X : Nat → Prop} {W : World} {B c1 s1 c2 s2 n : Nat} {l1 q1 l2 q2 : List Int} {v : Value} {es : List Int} (h : Pair X W B c1 s1 c2 s2 n l1 q1 l2 q2 v es) :
    ∃ X1 : Nat → Prop, (∀ b, X b → X1 b) ∧ (∀ b, X1 b → b < W.heap.size) ∧ Cr X1 W B c1 s1 n l1 q1 ∧ Here X1 W c2 l2 ∧ ∀ W' l1' q1', Cr X1 W' B c1 s1 n l1' q1' → Moved X1 B W W' → Pair X W' B c1 s1 c2 s2 n l1' q1' l2 q2 v es := by
  obtain ⟨m1, a1, w1, m2, a2, w2, k1, k2, h1, h2⟩ := h.lie
  refine ⟨Off X c2 s2 a2 w2 v, fun b hb => .inl hb, fun b hb => (k1.ap b hb).1, ⟨⟨m1, a1, w1, k1, h1.ok⟩, h1.nd, h1.rg, h1.ql⟩, ?_, ?_⟩
  · obtain ⟨ga, ca, rfl⟩ := df.own_slice k2.all
    exact ⟨⟨_, ga, ca, w2, k2.blk, own_row k2.all (fun b hb => .inr (.inl (.inr (.inr (.inl hb)))))⟩, .inr (.inl (.inl rfl))⟩
  · intro W' l1' q1' hC hM
    obtain ⟨m, va, vw, K, hk⟩ := hC.lie
    have hsz := hM.kp.1
    have key : ∀ (v : Value) (l : List Int), Owns W B v l → (∀ b, some b = v.ownBlock → W'.heap[b]? = W.heap[b]?) → Owns W' B v l := fun v l ho hn => by
      refine ⟨ho.1, ?_⟩
      rcases ho.2 with h | ⟨g, cap, cur, rfl, hb, hg, hr⟩
      · exact .inl h
      · exact .inr ⟨g, cap, cur, rfl, hb, (hn g rfl).trans hg, hr⟩
    have k2' : Crowd (Off X c1 s1 a1 w1 v) W' B c2 s2 n m2 a2 w2 l2 q2 := k2.keep hsz (hM.kp.2 _ (.inr (.inl (.inl rfl)))) (hM.kp.2 _ (.inr (.inl (.inr (.inl rfl))))) (fun g e => hM.kp.2 _ (.inr (.inl (.inr (.inr (.inl e.symm)))))) (fun g e => hM.kp.2 _ (.inr (.inl (.inr (.inr (.inr e.symm))))))
    refine ⟨⟨m, va, vw, m2, a2, w2, K, k2'.off ?_, ⟨hk, hC.nd, hC.rg, hC.ql⟩, h2⟩, key v es h.row (fun b hb => hM.kp.2 b (.inr (.inr hb))), h.ap⟩
    intro b hb
    rcases hb with hb | hb | hb
    · exact k2'.ap b (.inl hb)
    · refine ⟨K.fp_lt hb, ?_⟩
      have f1 := K.ap c2 (.inr (.inl (.inl rfl)))
      have f2 := K.ap s2 (.inr (.inl (.inr (.inl rfl))))
      have f3 : ∀ b, some b = a2.ownBlock → b ≠ c1 ∧ b ≠ s1 ∧ some b ≠ va.ownBlock ∧ some b ≠ vw.ownBlock := fun b hb => (K.ap b (.inr (.inl (.inr (.inr (.inl hb)))))).2
      have f4 : ∀ b, some b = w2.ownBlock → b ≠ c1 ∧ b ≠ s1 ∧ some b ≠ va.ownBlock ∧ some b ≠ vw.ownBlock := fun b hb => (K.ap b (.inr (.inl (.inr (.inr (.inr hb)))))).2
      rcases hb with rfl | rfl | e | e
      · exact ⟨Ne.symm f1.2.1, Ne.symm f2.2.1, fun e => (f3 _ e).1 rfl, fun e => (f4 _ e).1 rfl⟩
      · exact ⟨Ne.symm f1.2.2.1, Ne.symm f2.2.2.1, fun e => (f3 _ e).2.1 rfl, fun e => (f4 _ e).2.1 rfl⟩
      · exact ⟨fun h => f1.2.2.2.1 (by rw [← h]; exact e), fun h => f2.2.2.2.1 (by rw [← h]; exact e), fun h => (f3 _ h).2.2.1 e, fun h => (f4 _ h).2.2.1 e⟩
      · exact ⟨fun h => f1.2.2.2.2 (by rw [← h]; exact e), fun h => f2.2.2.2.2 (by rw [← h]; exact e), fun h => (f3 _ h).2.2.2 e, fun h => (f4 _ h).2.2.2 e⟩
    · exact k2'.ap b (.inr (.inr hb))
theorem Pair.later {X : Nat → Prop} {W W' : World} {B c1 s1 c2 s2 n : Nat} {l1 q1 l2 q2 : List Int} {v : Value} {es : List Int} (h : Pair X W B c1 s1 c2 s2 n l1 q1 l2 q2 v es) (b : Below W.heap.size W W') : Pair X W' B c1 s1 c2 s2 n l1 q1 l2 q2 v es := by
  obtain ⟨m1, a1, w1, m2, a2, w2, k1, k2, h1, h2⟩ := h.lie
  refine ⟨⟨m1, a1, w1, m2, a2, w2, k1.later b, k2.later b, h1, h2⟩, ?_, h.ap⟩
  refine ⟨h.row.1, ?_⟩
  rcases h.row.2 with h | ⟨g, cap, cur, rfl, hb, hg, hr⟩
  · exact .inl h
  · exact .inr ⟨g, cap, cur, rfl, hb, (b.block g (Array.getElem?_eq_some_iff.1 hg).1).trans hg, hr⟩
theorem Pair.put {X : Nat → Prop} {W W' : World} {B c1 s1 c2 s2 n : Nat} {l1 q1 l2 q2 : List Int} {v : Value} {es es' : List Int} {g' k' cap' : Nat} (h : Pair X W B c1 s1 c2 s2 n l1 q1 l2 q2 v es) (ho : Owns W' B (.slice (some ⟨g', 0, none⟩) k' cap') es') (hg : W.grownBy W' v.ownBlock) (hw : some g' = v.ownBlock ∨ W.heap.size ≤ g') : Pair X W' B c1 s1 c2 s2 n l1 q1 l2 q2 (.slice (some ⟨g', 0, none⟩) k' cap') es' := by
  obtain ⟨m1, a1, w1, m2, a2, w2, k1, k2, h1, h2⟩ := h.lie
  have hsz : W.heap.size ≤ W'.heap.size := hg.size
  have hlt : g' < W'.heap.size := own_lt ho rfl
  have one : ∀ {Y Z : Nat → Prop} {c sb : Nat} {m : List Bool} {a u : Value} {l q : List Int}, Crowd Y W B c sb n m a u l q → (∀ b, some b = v.ownBlock → Y b) → (∀ b, Z b → Y b ∨ b = g') → Crowd Z W' B c sb n m a u l q := by
    intro Y Z c sb m a u l q k hv hz
    have fp : ∀ b, Fp c sb a u b → some b ≠ v.ownBlock := fun b hb e => by
      have := k.ap b (hv b e)
      rcases hb with r | r | r | r
      · exact this.2.1 r
      · exact this.2.2.1 r
      · exact this.2.2.2.1 r
      · exact this.2.2.2.2 r
    have k' : Crowd Y W' B c sb n m a u l q := k.keep hsz (hg.block c k.lt (fp _ (.inl rfl))) (hg.block sb k.seen.lt (fp _ (.inr (.inl rfl)))) (fun g e => hg.block g (own_lt k.all e) (fp _ (.inr (.inr (.inl e.symm))))) (fun g e => hg.block g (own_lt k.wait e) (fp _ (.inr (.inr (.inr e.symm)))))
    refine k'.off fun b hb => ?_
    rcases hz b hb with h | rfl
    · exact k'.ap b h
    · rcases hw with e | e
      · exact k'.ap b (hv b e)
      · have f := fun hb => k.fp_lt (b := b) hb
        exact ⟨hlt, fun h => by have := f (.inl h); omega, fun h => by have := f (.inr (.inl h)); omega, fun h => by have := f (.inr (.inr (.inl h))); omega, fun h => by have := f (.inr (.inr (.inr h))); omega⟩
  refine ⟨⟨m1, a1, w1, m2, a2, w2, one k1 (fun b hb => .inr (.inr hb)) ?_, one k2 (fun b hb => .inr (.inr hb)) ?_, h1, h2⟩, ho, fun b hb e => ?_⟩
  · rintro b (hb | hb | hb)
    · exact .inl (.inl hb)
    · exact .inl (.inr (.inl hb))
    · exact .inr (by simpa [Value.ownBlock] using hb)
  · rintro b (hb | hb | hb)
    · exact .inl (.inl hb)
    · exact .inl (.inr (.inl hb))
    · exact .inr (by simpa [Value.ownBlock] using hb)
  · have e' : b = g' := by simpa [Value.ownBlock] using e
    rcases hw with r | r
    · exact h.ap b hb (by rw [e']; exact r)
    · have := (k1.ap b (.inl hb)).1
      omega
theorem owns_lower {W : World} {B B' : Nat} {v : Value} {l : List Int} (h : Owns W B v l) (hB : B' ≤ B) : Owns W B' v l := by
  refine ⟨h.1, ?_⟩
  rcases h.2 with h | ⟨g, cap, cur, rfl, hb, hg, hr⟩
  · exact .inl h
  · exact .inr ⟨g, cap, cur, rfl, by omega, hg, hr⟩
theorem Pair.mk2 {W W' : World} {N c1 s1 c2 s2 n : Nat} (hN : N ≤ W.heap.size) (h1 : Cr (fun b => b < N) W N c1 s1 n [] []) (h2 : Cr (fun b => b < W.heap.size) W' W.heap.size c2 s2 n [] []) (b : Below W.heap.size W W') : Pair (fun b => b < N) W' N c1 s1 c2 s2 n [] [] [] [] (.slice none 0 0) [] := by
  obtain ⟨m1, a1, w1, k1, e1⟩ := h1.lie
  obtain ⟨m2, a2, w2, k2, e2⟩ := h2.lie
  have low : ∀ b, Fp c2 s2 a2 w2 b → W.heap.size ≤ b := fun b hb => by
    rcases hb with rfl | rfl | e | e
    · exact k2.bc
    · exact k2.bs
    · exact df.own_ge k2.all _ e.symm
    · exact df.own_ge k2.wait _ e.symm
  have k1' := k1.later b
  have k2' : Crowd (fun b => b < W.heap.size) W' N c2 s2 n m2 a2 w2 [] [] := ⟨k2.blk, k2.seen, k2.ml, owns_lower k2.all hN, owns_lower k2.wait hN, k2.two, Nat.le_trans hN k2.bc, Nat.le_trans hN k2.bs, k2.ap⟩
  refine ⟨⟨m1, a1, w1, m2, a2, w2, k1'.off fun b hb => ?_, k2'.off fun b hb => ?_, ⟨e1, h1.nd, h1.rg, h1.ql⟩, ⟨e2, h2.nd, h2.rg, h2.ql⟩⟩, World.ownsRow_nil _ _ _ _, fun b hb e => by cases e⟩
  · rcases hb with hb | hb | hb
    · exact k1'.ap b hb
    · have := low b hb
      have f := fun hb => k1.fp_lt (b := b) hb
      exact ⟨k2.fp_lt hb, fun h => by have := f (.inl h); omega, fun h => by have := f (.inr (.inl h)); omega, fun h => by have := f (.inr (.inr (.inl h))); omega, fun h => by have := f (.inr (.inr (.inr h))); omega⟩
    · cases hb
  · rcases hb with hb | hb | hb
    · exact k2'.ap b (by show b < W.heap.size; have : b < N := hb; omega)
    · exact k2'.ap b (k1.fp_lt hb)
    · cases hb
theorem WebAt.up {P Q : Nat → Prop} {W : World} {l : List Ed} {n : Nat} {o : Option Addr} {cap fb nb : Nat} (h : WebAt P W l n o cap fb nb) (hq : ∀ b, P b → Q b) (hl : ∀ b, Q b → b < W.heap.size) : WebAt Q W l n o cap fb nb :=
  ⟨h.fit, h.top, fun i hi => by obtain ⟨b, off, e, hp, hc⟩ := h.lie i hi; exact ⟨b, off, e, hq b hp, hc⟩, h.fr, h.nr, hq _ h.pf, hq _ h.pn, hl⟩

theorem WebAt.at' {N : Nat} {W W' : World} {l : List Ed} {n : Nat} {o : Option Addr} {cap fb nb : Nat} (h : WebAt (fun b => b < N) W l n o cap fb nb) (b : Below N W W') : WebAt (fun b => b < N) W' l n o cap fb nb := h.carry ⟨b.size, fun k hk => b.block k hk⟩

/-! what an nfa takes -/
def Over (x : Nfa) (b : Nat) (S : Int → Prop) (t : Int) : Prop := ∃ e ∈ x.edges, e.free = false ∧ hasE e b = true ∧ e.to = t ∧ S e.fr
/-- where it may be, over nothing yet, before the j-th byte -/
def Base (x : Nfa) (d : Nat → Nat) (at' : Nat) : Nat → Int → Prop
  | 0 => fun t => t = x.s
  | j + 1 => Over x (d (at' + j)) (Reach x (Base x d at' j))
structure IsRuns (x : Nfa) (d : Nat → Nat) (at' len : Nat) (L : List Int) : Prop where
  up : L.Pairwise (· < ·)
  mem : ∀ t, t ∈ L ↔ ∃ j, at' + j ≤ len ∧ t = ((at' + j : Nat) : Int) ∧ Reach x (Base x d at' j) x.e
structure SoFar (x : Nfa) (d : Nat → Nat) (at' k : Nat) (L : List Int) : Prop where
  up : L.Pairwise (· < ·)
  mem : ∀ t, t ∈ L ↔ ∃ j, j < k ∧ t = ((at' + j : Nat) : Int) ∧ Reach x (Base x d at' j) x.e
  len : L.length ≤ k
theorem SoFar.zero (x : Nfa) (d : Nat → Nat) (at' : Nat) : SoFar x d at' 0 [] := ⟨List.Pairwise.nil, fun t => by simp, Nat.le_refl _⟩
theorem SoFar.no {x : Nfa} {d : Nat → Nat} {at' k : Nat} {L : List Int} (h : SoFar x d at' k L) (hn : ¬ Reach x (Base x d at' k) x.e) : SoFar x d at' (k + 1) L :=
  ⟨h.up, fun t => (h.mem t).trans ⟨fun ⟨j, a, b, c⟩ => ⟨j, by omega, b, c⟩, fun ⟨j, a, b, c⟩ => ⟨j, by
    rcases Nat.lt_or_ge j k with h | h
    · exact h
    · have : j = k := by omega
      subst this; exact absurd c hn, b, c⟩⟩, Nat.le_succ_of_le h.len⟩
theorem SoFar.yes {x : Nfa} {d : Nat → Nat} {at' k : Nat} {L : List Int} (h : SoFar x d at' k L) (hn : Reach x (Base x d at' k) x.e) : SoFar x d at' (k + 1) (L ++ [((at' + k : Nat) : Int)]) := by
  refine ⟨List.pairwise_append.2 ⟨h.up, List.pairwise_singleton _ _, fun a ha b hb => ?_⟩, fun t => ?_, by have := h.len; simp; omega⟩
  · obtain ⟨j, h1, h2, _⟩ := (h.mem a).1 ha
    rw [List.mem_singleton.1 hb, h2]
    omega
  · rw [List.mem_append, List.mem_singleton, h.mem t]
    constructor
    · rintro (⟨j, a, b, c⟩ | e)
      · exact ⟨j, by omega, b, c⟩
      · exact ⟨k, by omega, e, hn⟩
    · rintro ⟨j, a, b, c⟩
      rcases Nat.lt_or_ge j k with h | h
      · exact .inl ⟨j, h, b, c⟩
      · have : j = k := by omega
        subst this; exact .inr b
theorem reach_none {x : Nfa} {P : Int → Prop} (h : ∀ t, ¬ P t) (t : Int) : ¬ Reach x P t := fun r => r.least (Q := fun _ => False) h (fun _ _ _ h => h)
theorem base_none {x : Nfa} {d : Nat → Nat} {at' k : Nat} (h : ∀ t, ¬ Base x d at' k t) : ∀ i t, ¬ Base x d at' (k + i) t
  | 0, t => h t
  | i + 1, t => fun ⟨e, _, _, _, _, r⟩ => reach_none (base_none h i) _ r
theorem SoFar.none {x : Nfa} {d : Nat → Nat} {at' k len : Nat} {L : List Int} (h : SoFar x d at' k L) (hk : at' + k ≤ len + 1) (hn : ∀ t, ¬ Base x d at' k t) : IsRuns x d at' len L :=
  ⟨h.up, fun t => (h.mem t).trans ⟨fun ⟨j, a, b, c⟩ => ⟨j, by omega, b, c⟩, fun ⟨j, a, b, c⟩ => ⟨j, by
    rcases Nat.lt_or_ge j k with h | h
    · exact h
    · obtain ⟨i, rfl⟩ := Nat.exists_eq_add_of_le h
      exact absurd c (reach_none (base_none hn i) _), b, c⟩⟩⟩
theorem SoFar.all {x : Nfa} {d : Nat → Nat} {at' k len : Nat} {L : List Int} (h : SoFar x d at' k L) (hk : at' + k = len + 1) : IsRuns x d at' len L :=
  ⟨h.up, fun t => (h.mem t).trans ⟨fun ⟨j, a, b, c⟩ => ⟨j, by omega, b, c⟩, fun ⟨j, a, b, c⟩ => ⟨j, by omega, b, c⟩⟩⟩
theorem addBs_mem (b : Nat) (es : List Ed) : ∀ st : List Int × List Int, st.1 = st.2 → (addBs b es st).1 = (addBs b es st).2 ∧ ∀ t, t ∈ (addBs b es st).1 ↔ t ∈ st.1 ∨ ∃ e ∈ es, e.free = false ∧ hasE e b = true ∧ e.to = t := by
  induction es with
  | nil => intro st h; exact ⟨h, fun t => by simp [addBs]⟩
  | cons e es ih =>
    intro st h
    have h1 : (addB b st e).1 = (addB b st e).2 := by
      unfold addB addE
      split
      · split
        · exact h
        · simp [h]
      · exact h
    obtain ⟨i1, i2⟩ := ih (addB b st e) h1
    refine ⟨i1, fun t => (i2 t).trans ?_⟩
    have h2 : ∀ t, t ∈ (addB b st e).1 ↔ t ∈ st.1 ∨ (e.free = false ∧ hasE e b = true ∧ e.to = t) := by
      intro t
      unfold addB addE
      split
      · next hh =>
        split
        · next hm => exact ⟨.inl, fun r => r.elim id (fun ⟨_, _, r⟩ => r ▸ hm)⟩
        · simp [hh.1, hh.2]; exact ⟨fun r => r.imp id Eq.symm, fun r => r.imp id Eq.symm⟩
      · next hh => exact ⟨.inl, fun r => r.elim id (fun ⟨a, b, _⟩ => absurd ⟨a, b⟩ hh)⟩
    rw [h2]
    constructor
    · rintro ((h | h) | ⟨e', m, h⟩)
      · exact .inl h
      · exact .inr ⟨e, List.mem_cons_self, h⟩
      · exact .inr ⟨e', List.mem_cons_of_mem _ m, h⟩
    · rintro (h | ⟨e', m, h⟩)
      · exact .inl (.inl h)
      · rcases List.mem_cons.1 m with rfl | m
        · exact .inl (.inr h)
        · exact .inr ⟨e', m, h⟩
theorem stepL_mem (L : List Ed) (b : Nat) (l : List Int) : ∀ st : List Int × List Int, st.1 = st.2 → (stepL L b l st).1 = (stepL L b l st).2 ∧ ∀ t, t ∈ (stepL L b l st).1 ↔ t ∈ st.1 ∨ ∃ e ∈ L, e.free = false ∧ hasE e b = true ∧ e.to = t ∧ e.fr ∈ l := by
  induction l with
  | nil => intro st h; exact ⟨h, fun t => by simp [stepL]⟩
  | cons s l ih =>
    intro st h
    obtain ⟨a1, a2⟩ := addBs_mem b (chainOf L L.length s) st h
    obtain ⟨i1, i2⟩ := ih _ a1
    refine ⟨i1, fun t => (i2 t).trans ?_⟩
    rw [a2]
    constructor
    · rintro ((h | ⟨e, m, h1, h2, h3⟩) | ⟨e, m, h1, h2, h3, h4⟩)
      · exact .inl h
      · obtain ⟨m1, m2⟩ := (mem_chain L s e L.length (Nat.le_refl _)).1 m
        exact .inr ⟨e, List.mem_of_mem_take m1, h1, h2, h3, by rw [m2]; exact List.mem_cons_self⟩
      · exact .inr ⟨e, m, h1, h2, h3, List.mem_cons_of_mem _ h4⟩
    · rintro (h | ⟨e, m, h1, h2, h3, h4⟩)
      · exact .inl (.inl h)
      · rcases List.mem_cons.1 h4 with h4 | h4
        · exact .inl (.inr ⟨e, (mem_chain L s e L.length (Nat.le_refl _)).2 ⟨by rw [List.take_length]; exact m, h4⟩, h1, h2, h3⟩)
        · exact .inr ⟨e, m, h1, h2, h3, h4⟩
end Go.Proofs.Ytfilndgbgdnpiaa.nf

namespace Go.Proofs.Ytfilndgbgdnpiaa.nf
open Go.RowKit Go.Shelf
set_option linter.unusedVariables false
open df (Kp Owns Row iv In IntsV)

theorem same_below (A : World) {W W' : World} (b : Below W.heap.size W W') (h1 : W.heap = A.heap) (h2 : W.os = A.os) (h3 : W.tape = A.tape) (h4 : W.output = A.output) : Below A.heap.size A W' :=
  ⟨b.os.trans h2, b.tape.trans h3, b.output.trans h4, h1 ▸ b.size, fun k hk => (b.block k (h1 ▸ hk)).trans (by rw [h1])⟩
def dOf (s : ByteArray) (i : Nat) : Nat := if h : i < s.size then s[i].toNat else 0
theorem dOf_eq (s : ByteArray) (i : Nat) (h : i < s.size) : dOf s i = s[i].toNat := dif_pos h
def EnIs (f : Nat) (x : Nfa) (s : ByteArray) (at' : Int) (L : List Int) : Prop := ∀ o cap w, Eds w o cap x.edges → Calls Try.prog f #[nfaV x.n x.s x.e o x.edges.length cap, .string s, .int .i64 at'] w fun e w' => ∃ v, e = .returned v ∧ IntsV w' v L ∧ Below w.heap.size w w'
set_option maxHeartbeats 1000000 in
theorem ends_no (x : Nfa) (s : ByteArray) (at' : Int) (hs : s.size ≤ 1000000) (h : ¬ (right x = true ∧ 0 ≤ at' ∧ at' ≤ s.size)) : EnIs 12 x s at' [] := by
  intro o cap w hE
  have b0 := box_new w x.n x.s x.e o x.edges.length cap
  have B1 := below_alloc w (.cells #[.int .i64 x.n, .int .i64 x.s, .int .i64 x.e, .slice o x.edges.length cap] 31)
  have d0 := b0.c0
  have d1 := b0.c1
  have d2 := b0.c2
  have d3 := b0.c3
  cases hr : right x with
  | false =>
    have r1 := right_any x false hr.symm o cap _ (hE.later B1)
    clear h hr
    go_enter Try.func12, Try.ntmps12
    go_wp2_with (go_at_call 30; refine r1.mono ?_; rintro e w2 ⟨rfl, b2⟩)
    go_ret
    exact ⟨_, rfl, ⟨none, 0, rfl, ⟨Nat.le_refl _, by omega, fun i hi => by simp at hi⟩⟩, chain B1 b2⟩
  | true =>
    have r1 := right_any x true hr.symm o cap _ (hE.later B1)
    by_cases ha : 0 ≤ at'
    · have hc : ¬ at' ≤ (s.size : Int) := fun hc => h ⟨hr, ha, hc⟩
      clear h hr
      go_enter Try.func12, Try.ntmps12
      go_wp2_with (go_at_call 30; refine r1.mono ?_; rintro e w2 ⟨rfl, b2⟩)
      go_ret
      exact ⟨_, rfl, ⟨none, 0, rfl, ⟨Nat.le_refl _, by omega, fun i hi => by simp at hi⟩⟩, chain B1 b2⟩
    · clear h hr
      go_enter Try.func12, Try.ntmps12
      go_wp2_with (go_at_call 30; refine r1.mono ?_; rintro e w2 ⟨rfl, b2⟩)
      go_ret
      exact ⟨_, rfl, ⟨none, 0, rfl, ⟨Nat.le_refl _, by omega, fun i hi => by simp at hi⟩⟩, chain B1 b2⟩
structure Head (x : Nfa) (n : Nat) (s : ByteArray) (at' N : Nat) (w4 W : World) (c1 s1 c2 s2 t : Nat) (v : Value) (l es : List Int) (k : Nat) : Prop where
  pr : Pair (fun b => b < N) W N c1 s1 c2 s2 n l l [] [] v es
  ba : ∀ u, u ∈ l ↔ Base x (dOf s) at' k u
  so : SoFar x (dOf s) at' k es
  be : Below N w4 W
  tk : t = at' + k
theorem base_next {x : Nfa} {s : ByteArray} {at' k t : Nat} {l' : List Int} (htk : t = at' + k) (ht : t < s.size) (hmem : ∀ u, u ∈ l' ↔ Reach x (Base x (dOf s) at' k) u) (u : Int) : u ∈ (stepL x.edges s[t].toNat l' ([], [])).1 ↔ Base x (dOf s) at' (k + 1) u := by
  refine ((stepL_mem x.edges s[t].toNat l' ([], []) rfl).2 u).trans ?_
  show _ ↔ Over x (dOf s (at' + k)) _ u
  rw [← htk, dOf_eq s t ht]
  constructor
  · rintro (h | ⟨e, a, b, c, d, f⟩)
    · simp at h
    · exact ⟨e, a, b, c, d, (hmem _).1 f⟩
  · rintro ⟨e, a, b, c, d, f⟩
    exact .inr ⟨e, a, b, c, d, (hmem _).2 f⟩
theorem runs_eq {x : Nfa} {d : Nat → Nat} {at' len : Nat} {L M : List Int} (h : IsRuns x d at' len L) (k : IsRuns x d at' len M) : L = M := up_eq L M h.up k.up (fun t => (h.mem t).trans (k.mem t).symm)
theorem all_cell {X : Nat → Prop} {W : World} {B c1 s1 c2 s2 n : Nat} {l1 q1 l2 q2 : List Int} {v : Value} {es : List Int} (h : Pair X W B c1 s1 c2 s2 n l1 q1 l2 q2 v es) : ∃ ga ca, W.cell? ⟨c1, 1, none⟩ = some (.slice ga l1.length ca) ∧ l1.length ≤ ca ∧ ca ≤ 9223372036854775807 ∧ W.cell? ⟨c1, 0, none⟩ = some (.slice (some ⟨s1, 0, none⟩) n n) ∧ ∀ e, e < n → W.cell? ⟨s1, e, none⟩ = some (.bool (decide ((e : Int) ∈ l1))) := by
  obtain ⟨m1, a1, w1, m2, a2, w2, k1, k2, h1, h2⟩ := h.lie
  obtain ⟨ga, ca, rfl⟩ := df.own_slice k1.all
  obtain ⟨_, e2, e3⟩ := own_cap k1.all
  refine ⟨ga, ca, k1.c1, e2, e3, k1.c0, fun e he => ?_⟩
  have hl := k1.ml
  have := k1.seen.cell e (by omega)
  have g := h1.ok e he
  rw [List.getElem?_eq_getElem (by omega)] at g
  rw [this, Option.some.inj g]
theorem Pair.size {X : Nat → Prop} {W : World} {B c1 s1 c2 s2 n : Nat} {l1 q1 l2 q2 : List Int} {v : Value} {es : List Int} (h : Pair X W B c1 s1 c2 s2 n l1 q1 l2 q2 v es) : B ≤ W.heap.size := by
  obtain ⟨m1, a1, w1, m2, a2, w2, k1, k2, h1, h2⟩ := h.lie
  exact k1.size
set_option maxHeartbeats 4000000 in
set_option maxRecDepth 100000 in
theorem ends_yes (x : Nfa) (n : Nat) (R : Rt x n) (hfit : ∀ e ∈ x.edges, Fits e) (s : ByteArray) (at' : Nat) (hs : s.size ≤ 100000) (hat : at' ≤ s.size) (h : right x = true) (L : List Int) (hL0 : IsRuns x (dOf s) at' s.size L) : EnIs 12 x s at' L := by
  intro o cap w hE
  have hcap := hE.fit
  have htop := hE.top
  have h11 := right_any x true h.symm o cap
  have h30 := new_any n R.n2 x.s x.e o x.edges.length cap
  have h29 := weave_any x n R.hx R.n2 R.m (fun i hi => R.fr _ (List.getElem_mem hi)) o cap
  have hx := R.hx
  have hn1 := R.n1
  have hn2 := R.n2
  have hm := R.m
  rw [hx] at h11 h29 ⊢
  have b0 := box_new w (n : Int) x.s x.e o x.edges.length cap
  have B1 := below_alloc w (.cells #[.int .i64 (n : Int), .int .i64 x.s, .int .i64 x.e, .slice o x.edges.length cap] 31)
  obtain ⟨w1, hw1⟩ : ∃ w1, w1 = w.alloc (.cells #[.int .i64 (n : Int), .int .i64 x.s, .int .i64 x.e, .slice o x.edges.length cap] 31) := ⟨_, rfl⟩
  rw [← hw1] at b0 B1
  have r1 := h11 w1 (hE.later B1)
  have HE := (show Hid (Eds w o cap x.edges) from hE)
  clear hE h11 h
  go_enter Try.func12, Try.ntmps12
  go_wp2_with (first | (go_at_call 30; rw [← hw1]; refine r1.mono ?_; rintro e w2 ⟨rfl, b2⟩; have x2 := b0.later b2; have d0 := x2.c0; have d1 := x2.c1; have d2 := x2.c2; have d3 := x2.c3; have E2 := eds_keep HE.out (fun b hb => (b2.block b (Nat.lt_of_lt_of_le hb B1.size)).trans (B1.block b hb)) (Nat.le_trans B1.size b2.size)) | (go_at_call 31; refine (h29 w2 E2).mono ?_; rintro e w3 ⟨fb, nb, rfl, rf, rn, hfn, hf3, hn3, b3⟩))
  rename_i K hK
  obtain ⟨w4, hw4⟩ : ∃ w4, w4 = w3.alloc (.cells #[.slice o x.edges.length cap, .slice (some ⟨fb, 0, none⟩) n n, .slice (some ⟨nb, 0, none⟩) x.edges.length x.edges.length] 70) := ⟨_, rfl⟩
  have b4 : Below w3.heap.size w3 w4 := by rw [hw4]; exact below_alloc _ _
  have q4 : WBox w4 w3.heap.size o x.edges.length cap n fb nb := by rw [hw4]; exact World.alloc_heap_new w3 _
  have x4 := (x2.later b3).later b4
  have s4 : w4.heap.size = w3.heap.size + 1 := by rw [hw4]; simp
  have B24 : Below w2.heap.size w2 w4 := chain b3 b4
  have B04 : Below w.heap.size w w4 := chain (chain B1 b2) B24
  have l3 := b3.size
  have l1 := (chain B1 b2).size
  have HV4 : Hid (WebAt (fun b => b < w4.heap.size) w4 x.edges n o cap fb nb) := by
    have E4 := eds_keep HE.out B04.block B04.size
    have rf4 := (b4.block fb rf.lt).trans rf
    have rn4 := (b4.block nb rn.lt).trans rn
    exact ⟨E4.fit, E4.top, E4.lie, rf4, rn4, IRow.lt rf4, IRow.lt rn4, fun _ h => h⟩
  have d40 := x4.c0
  have d41 := x4.c1
  have d42 := x4.c2
  have d43 := x4.c3
  rw [← hw4]
  have key : ∀ c1 s1 c2 s2 W, Pair (fun b => b < w4.heap.size) W w4.heap.size c1 s1 c2 s2 n [] [] [] [] (.slice none 0 0) [] → Below w4.heap.size w4 W → K { tmps := #[nfaV (n : Int) x.s x.e o x.edges.length cap, .string s, .int .i64 (at' : Int), .pointer (some ⟨w.heap.size, 0, none⟩), undef, undef, .slice none 0 0, .pointer (some ⟨w3.heap.size, 0, none⟩), .pointer (some ⟨c1, 0, none⟩), .pointer (some ⟨c2, 0, none⟩), undef, undef, .agg #[.int .i64 (n : Int), .int .i64 x.s, .int .i64 x.e, .slice o x.edges.length cap], .bool true, .bool false, .bool false, .int .i64 (at' : Int), .bool (decide ((at' : Int) < 0)), .bool (decide ((at' : Int) < 0)), .bool (decide ((at' : Int) < 0)), .int .i64 (at' : Int), .string s, .int .i64 (s.size : Int), .bool false, .bool (decide ((at' : Int) < 0)), .agg #[.int .i64 (n : Int), .int .i64 x.s, .int .i64 x.e, .slice o x.edges.length cap], .agg #[.slice o x.edges.length cap, .slice (some ⟨fb, 0, none⟩) n n, .slice (some ⟨nb, 0, none⟩) x.edges.length x.edges.length], .agg #[.int .i64 (n : Int), .int .i64 x.s, .int .i64 x.e, .slice o x.edges.length cap], .pointer (some ⟨c1, 0, none⟩), .agg #[.int .i64 (n : Int), .int .i64 x.s, .int .i64 x.e, .slice o x.edges.length cap], .pointer (some ⟨c2, 0, none⟩), undef, undef, undef, undef, undef, undef, undef, undef, undef, undef, undef, undef, undef, undef, undef, undef, undef, undef, undef, undef, undef, undef, undef, undef, undef, undef, undef, undef, undef, undef, undef, undef, undef, undef, undef, undef, undef, undef, undef, undef, undef, undef, undef, undef], defers := [] } W := by
    intro c1 s1 c2 s2 W P0 BW
    refine hK _ _ ?_
    clear hK K d0 d1 d2 d3 d40 d41 d42 d43 h29 h30 r1 hw4 hw1 E2 rf rn hfn hf3 hn3 hcap htop
    obtain ⟨X1, hX1, hX1l, hC, hhere, hback⟩ := P0.op
    obtain ⟨sn, hsn⟩ : ∃ sn : Nat, x.s = (sn : Int) := ⟨x.s.toNat, by have := R.s; omega⟩
    have hadd := add_any X1 w4.heap.size c1 s1 n hn2 [] [] sn (by have := R.s; omega) W hC
    have hb : Box W w.heap.size (n : Int) x.s x.e o x.edges.length cap := (BW.block _ (by have := x4.lt; omega)).trans x4
    have d1 := hb.c1
    rw [hsn] at d1
    have HSX := (show Hid (x.s = (sn : Int)) from hsn)
    clear hsn
    go_wp2_with (go_at_call 33; refine hadd.mono ?_; rintro e W1 ⟨⟨v1, rfl⟩, hC1, hM1⟩)
    have P1 := hback W1 _ _ hC1 hM1
    have B1' : Below w4.heap.size w4 W1 := BW.trans hM1.be
    have hh : Head x n s at' w4.heap.size w4 W1 c1 s1 c2 s2 at' (.slice none 0 0) [(sn : Int)] [] 0 := ⟨P1, fun u => by rw [List.mem_singleton]; show u = (sn : Int) ↔ u = x.s; rw [HSX.out], SoFar.zero _ _ _, B1', rfl⟩
    have h32 : SpreadIs x n := spread_any x n R.n2 R.m R.to
    unfold SpreadIs at h32
    have h33 := fun b hb => step_any x n R.n2 R.m (fun e he => ⟨R.to e he, hfit e he⟩) b hb
    unfold StepIs at h33
    have h34 := leave_any n R.n2
    unfold LeaveIs at h34
    obtain ⟨en, hen⟩ : ∃ en : Nat, x.e = (en : Int) := ⟨x.e.toNat, by have := R.e; omega⟩
    have hen2 : en < n := by have := R.e; omega
    have HEN := (show Hid (x.e = (en : Int)) from hen)
    clear hen
    clear hb d1 hadd P0 hC hhere hback hX1 hX1l P1 B1' hC1 hM1
    go_loopw [8, 9, 10, 11] (fun y8 y9 y10 y11 wr => ∃ (c1 s1 c2 s2 t k : Nat) (v : Value) (l es : List Int), y8 = .pointer (some ⟨c1, 0, none⟩) ∧ y9 = .pointer (some ⟨c2, 0, none⟩) ∧ v = y10 ∧ y11 = .int .i64 (t : Int) ∧ t ≤ s.size ∧ Hid (Head x n s at' w4.heap.size w4 wr c1 s1 c2 s2 t v l es k)) (fun _ _ _ y _ => s.size + 1 - (intOf y).toNat)
    case atStart => exact ⟨c1, s1, c2, s2, at', 0, _, _, _, rfl, rfl, rfl, rfl, hat, hh⟩
    case round =>
      clear hh
      obtain ⟨c1, s1, c2, s2, t, k, v, l, es, rfl, rfl, rfl, rfl, ht, HQ⟩ := hrel
      have hb : Box wr w.heap.size (n : Int) x.s x.e o x.edges.length cap := (HQ.out.be.block _ (by have := x4.lt; omega)).trans x4
      have hq : WBox wr w3.heap.size o x.edges.length cap n fb nb := (HQ.out.be.block _ (by omega)).trans q4
      obtain ⟨ga, ca, y1, hla, hlc, y0, _⟩ := all_cell HQ.out.pr
      by_cases hl : l = []
      · have HR : Hid (L = es) := runs_eq hL0 (HQ.out.so.none (by have := HQ.out.tk; omega) (fun u hu => by have := (HQ.out.ba u).2 hu; rw [hl] at this; simp at this))
        have hl0 : l.length = 0 := by rw [hl]; rfl
        rw [hl0] at y1
        go_wp2_with (fail)
        go_ret
        exact ⟨_, rfl, by rw [HR.out]; exact df.ints_of_owns HQ.out.pr.row, chain B04 HQ.out.be⟩
      · have hpos : 0 < l.length := List.length_pos_iff.2 hl
        have d2 := hb.c2
        rw [HEN.out] at d2
        have e0 := hq.c0
        have e1 := hq.c1
        have e2 := hq.c2
        obtain ⟨X1, hX1, hX1l, hC, hhere, hback⟩ := HQ.out.pr.op
        have HI : Hid (Inv x (Base x (dOf s) at' k) l l) := ⟨fun _ h => h, fun u hu => .base ((HQ.out.ba u).1 hu), fun u hu hn => absurd hu hn⟩
        have r32 := h32 _ X1 w4.heap.size c1 s1 l l o cap fb nb wr hC HI.out ((HV4.out.at' HQ.out.be).up hX1 hX1l)
        go_wp2_with (go_at_call 34; refine r32.mono ?_; rintro e w5 ⟨⟨v5, rfl⟩, l', hC5, hI5, hs5, hM5⟩)
        have P5 := hback w5 l' [] hC5 hM5
        have B5 : Below w4.heap.size w4 w5 := HQ.out.be.trans hM5.be
        have hmem : ∀ u, u ∈ l' ↔ Reach x (Base x (dOf s) at' k) u := inv_done hI5 (fun u hu => hs5 u ((HQ.out.ba u).2 hu))
        have hin := hmem x.e
        have hrg := hC5.rg
        have hesl : es.length ≤ 1000000 := by have := HQ.out.so.len; have := HQ.out.tk; omega
        obtain ⟨ga', ca', y1', hla', hlc', y0', hz1⟩ := all_cell P5
        have hb5 : Box w5 w.heap.size (n : Int) x.s x.e o x.edges.length cap := (B5.block _ (by have := x4.lt; omega)).trans x4
        have d25 := hb5.c2
        rw [HEN.out] at d25
        clear d2 e0 e1 e2 y1 y0 hhere hX1 hX1l hC hback r32 hC5 hI5 hs5 hM5 hb hq HI hb5
        by_cases he : x.e ∈ l'
        · skip
          have z1 : w5.cell? ⟨s1, en, none⟩ = some (.bool true) := by rw [hz1 en hen2, decide_eq_true (by rw [← HEN.out]; exact he)]
          have HS : Hid (SoFar x (dOf s) at' (k + 1) (es ++ [(t : Int)])) := by have := HQ.out.so.yes (hin.1 he); rwa [← HQ.out.tk] at this
          clear hz1
          go_quiet (fail)
          generalize hw5' : w5.drewN _ = w5' at *
          have P5' : Pair (fun b => b < w4.heap.size) w5' w4.heap.size c1 s1 c2 s2 n l' [] [] [] v es := by rw [← hw5']; exact P5.later (below_drewN (Below.refl _ _) _)
          have B5' : Below w4.heap.size w4 w5' := by rw [← hw5']; exact below_drewN B5 _
          clear z1
          have HA := (show Hid (Pair (fun b => b < w4.heap.size) (w5'.alloc (.cells #[.int .i64 (t : Int)] 3)) w4.heap.size c1 s1 c2 s2 n l' [] [] [] v es) from P5'.later (below_alloc _ _))
          have BA : Below w4.heap.size w4 (w5'.alloc (.cells #[.int .i64 (t : Int)] 3)) := B5'.alloc P5'.size _
          obtain ⟨gv, cv, hgv⟩ := df.own_slice P5'.row
          subst hgv
          by_cases hend : t = s.size
          · have HR : Hid (L = es ++ [(t : Int)]) := runs_eq hL0 (HS.out.all (by have := HQ.out.tk; omega))
            have hyes : ((t : Int) == (s.size : Int)) = true := by simp [hend]
            clear hend
            go_wp2_with ((at_builtin; refine wpList_append_at rfl (.tmp 55) (.tmp 57) rfl w4.heap.size (.slice gv es.length cv) es (t : Int) w5'.heap.size rfl rfl HA.out.row (tmp_cell w5' _ _ rfl) hesl HA.out.size ?_; intro g' cap' w6 hown6 hgr6 hpl6; have P6 := HA.out.put hown6 hgr6 hpl6; have B6 : Below w4.heap.size w4 w6 := BA.grown hgr6 HA.out.size (df.own_ge HA.out.row)))
            go_ret
            exact ⟨_, rfl, by rw [HR.out]; exact df.ints_of_owns P6.row, chain B04 B6⟩
          · have htt2 : t < s.size := by omega
            have hne : ((t : Int) == (s.size : Int)) = false := by simp; omega
            go_wp2_with ((at_builtin; refine wpList_append_at rfl (.tmp 55) (.tmp 57) rfl w4.heap.size (.slice gv es.length cv) es (t : Int) w5'.heap.size rfl rfl HA.out.row (tmp_cell w5' _ _ rfl) hesl HA.out.size ?_; intro g' cap' w6 hown6 hgr6 hpl6; have P6 := HA.out.put hown6 hgr6 hpl6; have B6 : Below w4.heap.size w4 w6 := BA.grown hgr6 HA.out.size (df.own_ge HA.out.row)))
            have P6d := P6.later (W' := w6.drew) ⟨rfl, rfl, rfl, Nat.le_refl _, fun _ _ => rfl⟩
            have B6d : Below w4.heap.size w4 w6.drew := B6.trans ⟨rfl, rfl, rfl, Nat.le_refl _, fun _ _ => rfl⟩
            obtain ⟨X2, hX2, hX2l, hC2, hH2, hback2⟩ := P6d.swap.op
            have V6 := (HV4.out.at' B6d).up hX2 hX2l
            have r33 := h33 s[t].toNat (UInt8.toNat_lt _) X2 w4.heap.size c1 c2 s2 l' [] [] o cap fb nb w6.drew hC2 hH2 hrg V6
            have q6 : WBox w6 w3.heap.size o x.edges.length cap n fb nb := (B6.block _ (by omega)).trans q4
            have e0 := q6.c0
            have e1 := q6.c1
            have e2 := q6.c2
            obtain ⟨hst1, hst2⟩ := stepL_mem x.edges s[t].toNat l' ([], []) rfl
            have HBA : Hid (∀ u, u ∈ (stepL x.edges s[t].toNat l' ([], [])).1 ↔ Base x (dOf s) at' (k + 1) u) := base_next HQ.out.tk htt2 hmem
            rw [← hst1] at r33
            generalize (stepL x.edges s[t].toNat l' ([], [])).1 = l7 at *
            clear hst1 hst2 V6 hC2 hH2 hX2 hX2l
            go_region_with (go_at_call 35; refine r33.mono ?_; rintro e w7 ⟨⟨v7, rfl⟩, hC7, hM7⟩)
            all_goals (have P7 := (hback2 w7 _ _ hC7 hM7).swap; have B7 : Below w4.heap.size w4 w7 := B6d.trans hM7.be; obtain ⟨X3, hX3, hX3l, hC3, hH3, hback3⟩ := P7.op; have r34 := h34 X3 w4.heap.size c1 s1 l' w7 hC3; go_wp2_with (go_at_call 36; refine r34.mono ?_; rintro e w8 ⟨⟨v8, rfl⟩, hC8, hM8⟩); have P8 := (hback3 w8 _ _ hC8 hM8).swap; have B8 : Below w4.heap.size w4 w8 := B7.trans hM8.be; go_roundw; (case rel => exact ⟨c2, s2, c1, s1, t + 1, k + 1, (.slice (some ⟨g', 0, none⟩) (es.length + 1) cap'), l7, (es ++ [(t : Int)]), rfl, rfl, rfl, by go_num, by omega, ⟨P8, HBA.out, HS.out, B8, by have := HQ.out.tk; omega⟩⟩); (case measure => simp [intOf]; omega))
        · skip
          have z1 : w5.cell? ⟨s1, en, none⟩ = some (.bool false) := by rw [hz1 en hen2, decide_eq_false (by rw [← HEN.out]; exact he)]
          have HS : Hid (SoFar x (dOf s) at' (k + 1) es) := HQ.out.so.no (fun h => he (hin.2 h))
          clear hz1
          go_quiet (fail)
          generalize hw5' : w5.drewN _ = w5' at *
          have P5' : Pair (fun b => b < w4.heap.size) w5' w4.heap.size c1 s1 c2 s2 n l' [] [] [] v es := by rw [← hw5']; exact P5.later (below_drewN (Below.refl _ _) _)
          have B5' : Below w4.heap.size w4 w5' := by rw [← hw5']; exact below_drewN B5 _
          clear z1
          have P6 := P5'
          have B6 := B5'
          by_cases hend : t = s.size
          · have HR : Hid (L = es) := runs_eq hL0 (HS.out.all (by have := HQ.out.tk; omega))
            have hyes : ((t : Int) == (s.size : Int)) = true := by simp [hend]
            clear hend
            go_wp2_with (fail)
            go_ret
            exact ⟨_, rfl, by rw [HR.out]; exact df.ints_of_owns P6.row, chain B04 B6⟩
          · have htt2 : t < s.size := by omega
            have hne : ((t : Int) == (s.size : Int)) = false := by simp; omega
            go_wp2_with (fail)
            have P6d := P6.later (W' := w5'.drew) ⟨rfl, rfl, rfl, Nat.le_refl _, fun _ _ => rfl⟩
            have B6d : Below w4.heap.size w4 w5'.drew := B6.trans ⟨rfl, rfl, rfl, Nat.le_refl _, fun _ _ => rfl⟩
            obtain ⟨X2, hX2, hX2l, hC2, hH2, hback2⟩ := P6d.swap.op
            have V6 := (HV4.out.at' B6d).up hX2 hX2l
            have r33 := h33 s[t].toNat (UInt8.toNat_lt _) X2 w4.heap.size c1 c2 s2 l' [] [] o cap fb nb w5'.drew hC2 hH2 hrg V6
            have q6 : WBox w5' w3.heap.size o x.edges.length cap n fb nb := (B6.block _ (by omega)).trans q4
            have e0 := q6.c0
            have e1 := q6.c1
            have e2 := q6.c2
            obtain ⟨hst1, hst2⟩ := stepL_mem x.edges s[t].toNat l' ([], []) rfl
            have HBA : Hid (∀ u, u ∈ (stepL x.edges s[t].toNat l' ([], [])).1 ↔ Base x (dOf s) at' (k + 1) u) := base_next HQ.out.tk htt2 hmem
            rw [← hst1] at r33
            generalize (stepL x.edges s[t].toNat l' ([], [])).1 = l7 at *
            clear hst1 hst2 V6 hC2 hH2 hX2 hX2l
            go_region_with (go_at_call 35; refine r33.mono ?_; rintro e w7 ⟨⟨v7, rfl⟩, hC7, hM7⟩)
            all_goals (have P7 := (hback2 w7 _ _ hC7 hM7).swap; have B7 : Below w4.heap.size w4 w7 := B6d.trans hM7.be; obtain ⟨X3, hX3, hX3l, hC3, hH3, hback3⟩ := P7.op; have r34 := h34 X3 w4.heap.size c1 s1 l' w7 hC3; go_wp2_with (go_at_call 36; refine r34.mono ?_; rintro e w8 ⟨⟨v8, rfl⟩, hC8, hM8⟩); have P8 := (hback3 w8 _ _ hC8 hM8).swap; have B8 : Below w4.heap.size w4 w8 := B7.trans hM8.be; go_roundw; (case rel => exact ⟨c2, s2, c1, s1, t + 1, k + 1, v, l7, es, rfl, rfl, rfl, by go_num, by omega, ⟨P8, HBA.out, HS.out, B8, by have := HQ.out.tk; omega⟩⟩); (case measure => simp [intOf]; omega))
  clear hK d0 d1 d2 d3 hw4
  go_region_with (first
    | (have hsecond := hC5; go_at_call 32; refine (h30 (fun b => b < w5.heap.size) _ ?_).mono ?_; (exact fun _ h => h); rintro e w6 ⟨c2, s2, rfl, hC6, b6, o6⟩; have b6' := same_below w5 b6 rfl rfl rfl rfl; have hC5' : Cr (fun b => b < w4.heap.size) w5 w4.heap.size c1 s1 n [] [] := hC5; have hC6' : Cr (fun b => b < w5.heap.size) w6 w5.heap.size c2 s2 n [] [] := hC6; have P6 := Pair.mk2 b5'.size hC5' hC6' b6')
    | (go_at_call 32; refine (h30 (fun b => b < w4.heap.size) _ ?_).mono ?_; (exact fun _ h => h); rintro e w5 ⟨c1, s1, rfl, hC5, b5, o5⟩; have b5' := same_below w4 b5 rfl rfl rfl rfl; have x5 := x4.later b5'; have d50 := x5.c0; have d51 := x5.c1; have d52 := x5.c2; have d53 := x5.c3))
  all_goals go_wp2_with (fail)
  all_goals exact key c1 s1 c2 s2 w6 P6 (b5'.trans (b6'.mono b5'.size))
end Go.Proofs.Ytfilndgbgdnpiaa.nf

namespace Go.Proofs.Ytfilndgbgdnpiaa.nf
open Go.RowKit Go.Shelf
set_option linter.unusedVariables false
open df (Kp Owns Row iv In IntsV)

theorem sofar_ex (x : Nfa) (d : Nat → Nat) (at' : Nat) : ∀ k, ∃ L, SoFar x d at' k L
  | 0 => ⟨_, SoFar.zero _ _ _⟩
  | k + 1 => by
    obtain ⟨L, h⟩ := sofar_ex x d at' k
    rcases Classical.em (Reach x (Base x d at' k) x.e) with hr | hr
    · exact ⟨_, h.yes hr⟩
    · exact ⟨_, h.no hr⟩
theorem runs_ex (x : Nfa) (d : Nat → Nat) (at' len : Nat) (h : at' ≤ len) : ∃ L, IsRuns x d at' len L ∧ L.length ≤ len + 1 - at' := by
  obtain ⟨L, hL⟩ := sofar_ex x d at' (len + 1 - at')
  exact ⟨L, hL.all (by omega), hL.len⟩
theorem free_ex (x : Nfa) (n : Nat) (R : Rt x n) (l : List Int) : ∃ L, IsFree x l L ∧ L.length ≤ n := by
  classical
  refine ⟨((List.range n).filter fun j : Nat => decide (Reach x (fun s => s ∈ l ∧ 0 ≤ s ∧ s < x.n) (j : Int))).map fun j : Nat => (j : Int), ⟨?_, fun t => ?_⟩, ?_⟩
  · rw [List.pairwise_map]
    exact (List.pairwise_lt_range.filter _).imp (fun h => by omega)
  · simp only [List.mem_map, List.mem_filter, List.mem_range, decide_eq_true_eq]
    constructor
    · rintro ⟨j, ⟨h1, h2⟩, rfl⟩
      exact h2
    · intro hr
      have hrange : 0 ≤ t ∧ t < (n : Int) := hr.least (Q := fun t => 0 ≤ t ∧ t < (n : Int)) (fun s hs => ⟨hs.2.1, by rw [← R.hx]; exact hs.2.2⟩) (fun e he _ _ => R.to e he)
      obtain ⟨j, rfl⟩ : ∃ j : Nat, t = (j : Int) := ⟨t.toNat, by omega⟩
      exact ⟨j, ⟨by omega, hr⟩, rfl⟩
  · rw [List.length_map]
    exact Nat.le_trans (List.length_filter_le _ _) (by simp)
/-- the empty text is taken just if the end is reached from the beginning over nothing -/
theorem empty_eq (x : Nfa) (n : Nat) (R : Rt x n) (d : Nat → Nat) (L F : List Int) (hL : IsRuns x d 0 0 L) (hF : IsFree x [x.s] F) : (x.e ∈ F ∧ L = [0]) ∨ (x.e ∉ F ∧ L = []) := by
  have key : x.e ∈ F ↔ Reach x (Base x d 0 0) x.e := by
    rw [hF.mem]
    constructor
    · exact fun h => h.mono (fun t ht => by have := ht.1; rwa [List.mem_singleton] at this)
    · exact fun h => h.mono (fun t ht => by rw [show t = x.s from ht]; exact ⟨List.mem_singleton.2 rfl, R.s.1, by rw [R.hx]; exact R.s.2⟩)
  rcases Classical.em (Reach x (Base x d 0 0) x.e) with hr | hr
  · exact .inl ⟨key.2 hr, runs_eq hL (((SoFar.zero x d 0).yes hr).all rfl)⟩
  · exact .inr ⟨fun h => hr (key.1 h), runs_eq hL (((SoFar.zero x d 0).no hr).all rfl)⟩
end Go.Proofs.Ytfilndgbgdnpiaa.nf
