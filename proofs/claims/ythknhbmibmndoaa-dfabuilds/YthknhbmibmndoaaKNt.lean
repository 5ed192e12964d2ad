/-
  Contracts over this program: two crowds and a row beside one another.
-/
import Derived.Test.YthknhbmibmndoaaKNq
import Derived.Test.YthknhbmibmndoaaKNl
namespace Go.Proofs.Ythknhbmibmndoaa.nf
open Go.RowKit Go.Shelf
set_option linter.unusedVariables false
open df (Kp Owns Row iv In IntsV)

def Fp (c sb : Nat) (va vw : Value) (b : Nat) : Prop := b = c ∨ b = sb ∨ some b = va.ownBlock ∨ some b = vw.ownBlock
/-- what a crowd keeps off: the rest, the other crowd's blocks, the row's block -/
def Off (X : Nat → Prop) (c sb : Nat) (va vw v : Value) (b : Nat) : Prop := X b ∨ Fp c sb va vw b ∨ some b = v.ownBlock
structure Mks (n : Nat) (m : List Bool) (l q : List Int) : Prop where
  ok : ∀ i, i < n → m[i]? = some (decide ((i : Int) ∈ l))
  nd : l.Nodup
  rg : ∀ t ∈ l, 0 ≤ t ∧ t < (n : Int)
  ql : q.length ≤ l.length
structure Pair (X : Nat → Prop) (W : World) (B c1 s1 c2 s2 n : Nat) (l1 q1 l2 q2 : List Int) (v : Value) (es : List Int) : Prop where
  lie : ∃ m1 a1 w1 m2 a2 w2, Crowd (Off X c2 s2 a2 w2 v) W B c1 s1 n m1 a1 w1 l1 q1 ∧ Crowd (Off X c1 s1 a1 w1 v) W B c2 s2 n m2 a2 w2 l2 q2 ∧ Mks n m1 l1 q1 ∧ Mks n m2 l2 q2
  row : Owns W B v es
  ap : ∀ b, X b → some b ≠ v.ownBlock
theorem Pair.swap {X : Nat → Prop} {W : World} {B c1 s1 c2 s2 n : Nat} {l1 q1 l2 q2 : List Int} {v : Value} {es : List Int} (h : Pair X W B c1 s1 c2 s2 n l1 q1 l2 q2 v es) : Pair X W B c2 s2 c1 s1 n l2 q2 l1 q1 v es := by
  obtain ⟨m1, a1, w1, m2, a2, w2, k1, k2, h1, h2⟩ := h.lie
  exact ⟨⟨m2, a2, w2, m1, a1, w1, k2, k1, h2, h1⟩, h.row, h.ap⟩
theorem Crowd.off {X Y : Nat → Prop} {W : World} {B c sb n : Nat} {m : List Bool} {va vw : Value} {l q : List Int} (h : Crowd X W B c sb n m va vw l q) (hy : ∀ b, Y b → b < W.heap.size ∧ b ≠ c ∧ b ≠ sb ∧ some b ≠ va.ownBlock ∧ some b ≠ vw.ownBlock) : Crowd Y W B c sb n m va vw l q :=
  ⟨h.blk, h.seen, h.ml, h.all, h.wait, h.two, h.bc, h.bs, hy⟩
theorem Crowd.fp_lt {X : Nat → Prop} {W : World} {B c sb n : Nat} {m : List Bool} {va vw : Value} {l q : List Int} (h : Crowd X W B c sb n m va vw l q) {b : Nat} (hb : Fp c sb va vw b) : b < W.heap.size := by
  rcases hb with rfl | rfl | e | e
  · exact h.lt
  · exact h.seen.lt
  · exact own_lt h.all e.symm
  · exact own_lt h.wait e.symm
theorem own_row {W : World} {B : Nat} {g : Option Addr} {k cap : Nat} {l : List Int} {P : Nat → Prop} (h : Owns W B (.slice g k cap) l) (hp : ∀ b, some b = (Value.slice g k cap).ownBlock → P b) : Row P W iv g cap l := by
  obtain ⟨e1, e2, e3⟩ := own_cap h
  refine ⟨e2, e3, fun i hi => ?_⟩
  obtain ⟨b, rfl, hc, hb⟩ := own_cell h i hi
  exact ⟨b, 0, rfl, hp b rfl, by rw [Nat.zero_add]; exact hc⟩
/-- a pair's first crowd may be worked on -/
theorem Pair.op {X : Nat → Prop} {W : World} {B c1 s1 c2 s2 n : Nat} {l1 q1 l2 q2 : List Int} {v : Value} {es : List Int} (h : Pair X W B c1 s1 c2 s2 n l1 q1 l2 q2 v es) :
    ∃ X1 : Nat → Prop, (∀ b, X b → X1 b) ∧ (∀ b, X1 b → b < W.heap.size) ∧ Cr X1 W B c1 s1 n l1 q1 ∧ Here X1 W c2 l2 ∧ ∀ W' l1' q1', Cr X1 W' B c1 s1 n l1' q1' → Moved X1 B W W' → Pair X W' B c1 s1 c2 s2 n l1' q1' l2 q2 v es := by
  obtain ⟨m1, a1, w1, m2, a2, w2, k1, k2, h1, h2⟩ := h.lie
  refine ⟨Off X c2 s2 a2 w2 v, fun b hb => .inl hb, fun b hb => (k1.ap b hb).1, ⟨⟨m1, a1, w1, k1, h1.ok⟩, h1.nd, h1.rg, h1.ql⟩, ?_, ?_⟩
  · obtain ⟨ga, ca, rfl⟩ := df.own_slice k2.all
    exact ⟨⟨_, ga, ca, w2, k2.blk, own_row k2.all (fun b hb => .inr (.inl (.inr (.inr (.inl hb)))))⟩, .inr (.inl (.inl rfl))⟩
  · intro W' l1' q1' hC hM
    obtain ⟨m, va, vw, K, hk⟩ := hC.lie
    have hsz := hM.kp.1
    have key : ∀ (v : Value) (l : List Int), Owns W B v l → (∀ b, some b = v.ownBlock → W'.heap[b]? = W.heap[b]?) → Owns W' B v l := fun v l ho hn => by
      refine ⟨ho.1, ?_⟩
      rcases ho.2 with h | ⟨g, cap, cur, rfl, hb, hg, hr⟩
      · exact .inl h
      · exact .inr ⟨g, cap, cur, rfl, hb, (hn g rfl).trans hg, hr⟩
    have k2' : Crowd (Off X c1 s1 a1 w1 v) W' B c2 s2 n m2 a2 w2 l2 q2 := k2.keep hsz (hM.kp.2 _ (.inr (.inl (.inl rfl)))) (hM.kp.2 _ (.inr (.inl (.inr (.inl rfl))))) (fun g e => hM.kp.2 _ (.inr (.inl (.inr (.inr (.inl e.symm)))))) (fun g e => hM.kp.2 _ (.inr (.inl (.inr (.inr (.inr e.symm))))))
    refine ⟨⟨m, va, vw, m2, a2, w2, K, k2'.off ?_, ⟨hk, hC.nd, hC.rg, hC.ql⟩, h2⟩, key v es h.row (fun b hb => hM.kp.2 b (.inr (.inr hb))), h.ap⟩
    intro b hb
    rcases hb with hb | hb | hb
    · exact k2'.ap b (.inl hb)
    · refine ⟨K.fp_lt hb, ?_⟩
      have f1 := K.ap c2 (.inr (.inl (.inl rfl)))
      have f2 := K.ap s2 (.inr (.inl (.inr (.inl rfl))))
      have f3 : ∀ b, some b = a2.ownBlock → b ≠ c1 ∧ b ≠ s1 ∧ some b ≠ va.ownBlock ∧ some b ≠ vw.ownBlock := fun b hb => (K.ap b (.inr (.inl (.inr (.inr (.inl hb)))))).2
      have f4 : ∀ b, some b = w2.ownBlock → b ≠ c1 ∧ b ≠ s1 ∧ some b ≠ va.ownBlock ∧ some b ≠ vw.ownBlock := fun b hb => (K.ap b (.inr (.inl (.inr (.inr (.inr hb)))))).2
      rcases hb with rfl | rfl | e | e
      · exact ⟨Ne.symm f1.2.1, Ne.symm f2.2.1, fun e => (f3 _ e).1 rfl, fun e => (f4 _ e).1 rfl⟩
      · exact ⟨Ne.symm f1.2.2.1, Ne.symm f2.2.2.1, fun e => (f3 _ e).2.1 rfl, fun e => (f4 _ e).2.1 rfl⟩
      · exact ⟨fun h => f1.2.2.2.1 (by rw [← h]; exact e), fun h => f2.2.2.2.1 (by rw [← h]; exact e), fun h => (f3 _ h).2.2.1 e, fun h => (f4 _ h).2.2.1 e⟩
      · exact ⟨fun h => f1.2.2.2.2 (by rw [← h]; exact e), fun h => f2.2.2.2.2 (by rw [← h]; exact e), fun h => (f3 _ h).2.2.2 e, fun h => (f4 _ h).2.2.2 e⟩
    · exact k2'.ap b (.inr (.inr hb))
theorem Pair.later {X : Nat → Prop} {W W' : World} {B c1 s1 c2 s2 n : Nat} {l1 q1 l2 q2 : List Int} {v : Value} {es : List Int} (h : Pair X W B c1 s1 c2 s2 n l1 q1 l2 q2 v es) (b : Below W.heap.size W W') : Pair X W' B c1 s1 c2 s2 n l1 q1 l2 q2 v es := by
  obtain ⟨m1, a1, w1, m2, a2, w2, k1, k2, h1, h2⟩ := h.lie
  refine ⟨⟨m1, a1, w1, m2, a2, w2, k1.later b, k2.later b, h1, h2⟩, ?_, h.ap⟩
  refine ⟨h.row.1, ?_⟩
  rcases h.row.2 with h | ⟨g, cap, cur, rfl, hb, hg, hr⟩
  · exact .inl h
  · exact .inr ⟨g, cap, cur, rfl, hb, (b.block g (Array.getElem?_eq_some_iff.1 hg).1).trans hg, hr⟩
theorem Pair.put {X : Nat → Prop} {W W' : World} {B c1 s1 c2 s2 n : Nat} {l1 q1 l2 q2 : List Int} {v : Value} {es es' : List Int} {g' k' cap' : Nat} (h : Pair X W B c1 s1 c2 s2 n l1 q1 l2 q2 v es) (ho : Owns W' B (.slice (some ⟨g', 0, none⟩) k' cap') es') (hg : W.grownBy W' v.ownBlock) (hw : some g' = v.ownBlock ∨ W.heap.size ≤ g') : Pair X W' B c1 s1 c2 s2 n l1 q1 l2 q2 (.slice (some ⟨g', 0, none⟩) k' cap') es' := by
  obtain ⟨m1, a1, w1, m2, a2, w2, k1, k2, h1, h2⟩ := h.lie
  have hsz : W.heap.size ≤ W'.heap.size := hg.size
  have hlt : g' < W'.heap.size := own_lt ho rfl
  have one : ∀ {Y Z : Nat → Prop} {c sb : Nat} {m : List Bool} {a u : Value} {l q : List Int}, Crowd Y W B c sb n m a u l q → (∀ b, some b = v.ownBlock → Y b) → (∀ b, Z b → Y b ∨ b = g') → Crowd Z W' B c sb n m a u l q := by
    intro Y Z c sb m a u l q k hv hz
    have fp : ∀ b, Fp c sb a u b → some b ≠ v.ownBlock := fun b hb e => by
      have := k.ap b (hv b e)
      rcases hb with r | r | r | r
      · exact this.2.1 r
      · exact this.2.2.1 r
      · exact this.2.2.2.1 r
      · exact this.2.2.2.2 r
    have k' : Crowd Y W' B c sb n m a u l q := k.keep hsz (hg.block c k.lt (fp _ (.inl rfl))) (hg.block sb k.seen.lt (fp _ (.inr (.inl rfl)))) (fun g e => hg.block g (own_lt k.all e) (fp _ (.inr (.inr (.inl e.symm))))) (fun g e => hg.block g (own_lt k.wait e) (fp _ (.inr (.inr (.inr e.symm)))))
    refine k'.off fun b hb => ?_
    rcases hz b hb with h | rfl
    · exact k'.ap b h
    · rcases hw with e | e
      · exact k'.ap b (hv b e)
      · have f := fun hb => k.fp_lt (b := b) hb
        exact ⟨hlt, fun h => by have := f (.inl h); omega, fun h => by have := f (.inr (.inl h)); omega, fun h => by have := f (.inr (.inr (.inl h))); omega, fun h => by have := f (.inr (.inr (.inr h))); omega⟩
  refine ⟨⟨m1, a1, w1, m2, a2, w2, one k1 (fun b hb => .inr (.inr hb)) ?_, one k2 (fun b hb => .inr (.inr hb)) ?_, h1, h2⟩, ho, fun b hb e => ?_⟩
  · rintro b (hb | hb | hb)
    · exact .inl (.inl hb)
    · exact .inl (.inr (.inl hb))
    · exact .inr (by simpa [Value.ownBlock] using hb)
  · rintro b (hb | hb | hb)
    · exact .inl (.inl hb)
    · exact .inl (.inr (.inl hb))
    · exact .inr (by simpa [Value.ownBlock] using hb)
  · have e' : b = g' := by simpa [Value.ownBlock] using e
    rcases hw with r | r
    · exact h.ap b hb (by rw [e']; exact r)
    · have := (k1.ap b (.inl hb)).1
      omega
theorem owns_lower {W : World} {B B' : Nat} {v : Value} {l : List Int} (h : Owns W B v l) (hB : B' ≤ B) : Owns W B' v l := by
  refine ⟨h.1, ?_⟩
  rcases h.2 with h | ⟨g, cap, cur, rfl, hb, hg, hr⟩
  · exact .inl h
  · exact .inr ⟨g, cap, cur, rfl, by omega, hg, hr⟩
theorem Pair.mk2 {W W' : World} {N c1 s1 c2 s2 n : Nat} (hN : N ≤ W.heap.size) (h1 : Cr (fun b => b < N) W N c1 s1 n [] []) (h2 : Cr (fun b => b < W.heap.size) W' W.heap.size c2 s2 n [] []) (b : Below W.heap.size W W') : Pair (fun b => b < N) W' N c1 s1 c2 s2 n [] [] [] [] (.slice none 0 0) [] := by
  obtain ⟨m1, a1, w1, k1, e1⟩ := h1.lie
  obtain ⟨m2, a2, w2, k2, e2⟩ := h2.lie
  have low : ∀ b, Fp c2 s2 a2 w2 b → W.heap.size ≤ b := fun b hb => by
    rcases hb with rfl | rfl | e | e
    · exact k2.bc
    · exact k2.bs
    · exact df.own_ge k2.all _ e.symm
    · exact df.own_ge k2.wait _ e.symm
  have k1' := k1.later b
  have k2' : Crowd (fun b => b < W.heap.size) W' N c2 s2 n m2 a2 w2 [] [] := ⟨k2.blk, k2.seen, k2.ml, owns_lower k2.all hN, owns_lower k2.wait hN, k2.two, Nat.le_trans hN k2.bc, Nat.le_trans hN k2.bs, k2.ap⟩
  refine ⟨⟨m1, a1, w1, m2, a2, w2, k1'.off fun b hb => ?_, k2'.off fun b hb => ?_, ⟨e1, h1.nd, h1.rg, h1.ql⟩, ⟨e2, h2.nd, h2.rg, h2.ql⟩⟩, World.ownsRow_nil _ _ _ _, fun b hb e => by cases e⟩
  · rcases hb with hb | hb | hb
    · exact k1'.ap b hb
    · have := low b hb
      have f := fun hb => k1.fp_lt (b := b) hb
      exact ⟨k2.fp_lt hb, fun h => by have := f (.inl h); omega, fun h => by have := f (.inr (.inl h)); omega, fun h => by have := f (.inr (.inr (.inl h))); omega, fun h => by have := f (.inr (.inr (.inr h))); omega⟩
    · cases hb
  · rcases hb with hb | hb | hb
    · exact k2'.ap b (by show b < W.heap.size; have : b < N := hb; omega)
    · exact k2'.ap b (k1.fp_lt hb)
    · cases hb
theorem WebAt.up {P Q : Nat → Prop} {W : World} {l : List Ed} {n : Nat} {o : Option Addr} {cap fb nb : Nat} (h : WebAt P W l n o cap fb nb) (hq : ∀ b, P b → Q b) (hl : ∀ b, Q b → b < W.heap.size) : WebAt Q W l n o cap fb nb :=
  ⟨h.fit, h.top, fun i hi => by obtain ⟨b, off, e, hp, hc⟩ := h.lie i hi; exact ⟨b, off, e, hq b hp, hc⟩, h.fr, h.nr, hq _ h.pf, hq _ h.pn, hl⟩

theorem WebAt.at' {N : Nat} {W W' : World} {l : List Ed} {n : Nat} {o : Option Addr} {cap fb nb : Nat} (h : WebAt (fun b => b < N) W l n o cap fb nb) (b : Below N W W') : WebAt (fun b => b < N) W' l n o cap fb nb := h.carry ⟨b.size, fun k hk => b.block k hk⟩

/-! what an nfa takes -/
def Over (x : Nfa) (b : Nat) (S : Int → Prop) (t : Int) : Prop := ∃ e ∈ x.edges, e.free = false ∧ hasE e b = true ∧ e.to = t ∧ S e.fr
/-- where it may be, over nothing yet, before the j-th byte -/
def Base (x : Nfa) (d : Nat → Nat) (at' : Nat) : Nat → Int → Prop
  | 0 => fun t => t = x.s
  | j + 1 => Over x (d (at' + j)) (Reach x (Base x d at' j))
structure IsRuns (x : Nfa) (d : Nat → Nat) (at' len : Nat) (L : List Int) : Prop where
  up : L.Pairwise (· < ·)
  mem : ∀ t, t ∈ L ↔ ∃ j, at' + j ≤ len ∧ t = ((at' + j : Nat) : Int) ∧ Reach x (Base x d at' j) x.e
structure SoFar (x : Nfa) (d : Nat → Nat) (at' k : Nat) (L : List Int) : Prop where
  up : L.Pairwise (· < ·)
  mem : ∀ t, t ∈ L ↔ ∃ j, j < k ∧ t = ((at' + j : Nat) : Int) ∧ Reach x (Base x d at' j) x.e
  len : L.length ≤ k
theorem SoFar.zero (x : Nfa) (d : Nat → Nat) (at' : Nat) : SoFar x d at' 0 [] := ⟨List.Pairwise.nil, fun t => by simp, Nat.le_refl _⟩
theorem SoFar.no {x : Nfa} {d : Nat → Nat} {at' k : Nat} {L : List Int} (h : SoFar x d at' k L) (hn : ¬ Reach x (Base x d at' k) x.e) : SoFar x d at' (k + 1) L :=
  ⟨h.up, fun t => (h.mem t).trans ⟨fun ⟨j, a, b, c⟩ => ⟨j, by omega, b, c⟩, fun ⟨j, a, b, c⟩ => ⟨j, by
    rcases Nat.lt_or_ge j k with h | h
    · exact h
    · have : j = k := by omega
      subst this; exact absurd c hn, b, c⟩⟩, Nat.le_succ_of_le h.len⟩
theorem SoFar.yes {x : Nfa} {d : Nat → Nat} {at' k : Nat} {L : List Int} (h : SoFar x d at' k L) (hn : Reach x (Base x d at' k) x.e) : SoFar x d at' (k + 1) (L ++ [((at' + k : Nat) : Int)]) := by
  refine ⟨List.pairwise_append.2 ⟨h.up, List.pairwise_singleton _ _, fun a ha b hb => ?_⟩, fun t => ?_, by have := h.len; simp; omega⟩
  · obtain ⟨j, h1, h2, _⟩ := (h.mem a).1 ha
    rw [List.mem_singleton.1 hb, h2]
    omega
  · rw [List.mem_append, List.mem_singleton, h.mem t]
    constructor
    · rintro (⟨j, a, b, c⟩ | e)
      · exact ⟨j, by omega, b, c⟩
      · exact ⟨k, by omega, e, hn⟩
    · rintro ⟨j, a, b, c⟩
      rcases Nat.lt_or_ge j k with h | h
      · exact .inl ⟨j, h, b, c⟩
      · have : j = k := by omega
        subst this; exact .inr b
theorem reach_none {x : Nfa} {P : Int → Prop} (h : ∀ t, ¬ P t) (t : Int) : ¬ Reach x P t := fun r => r.least (Q := fun _ => False) h (fun _ _ _ h => h)
theorem base_none {x : Nfa} {d : Nat → Nat} {at' k : Nat} (h : ∀ t, ¬ Base x d at' k t) : ∀ i t, ¬ Base x d at' (k + i) t
  | 0, t => h t
  | i + 1, t => fun ⟨e, _, _, _, _, r⟩ => reach_none (base_none h i) _ r
theorem SoFar.none {x : Nfa} {d : Nat → Nat} {at' k len : Nat} {L : List Int} (h : SoFar x d at' k L) (hk : at' + k ≤ len + 1) (hn : ∀ t, ¬ Base x d at' k t) : IsRuns x d at' len L :=
  ⟨h.up, fun t => (h.mem t).trans ⟨fun ⟨j, a, b, c⟩ => ⟨j, by omega, b, c⟩, fun ⟨j, a, b, c⟩ => ⟨j, by
    rcases Nat.lt_or_ge j k with h | h
    · exact h
    · obtain ⟨i, rfl⟩ := Nat.exists_eq_add_of_le h
      exact absurd c (reach_none (base_none hn i) _), b, c⟩⟩⟩
theorem SoFar.all {x : Nfa} {d : Nat → Nat} {at' k len : Nat} {L : List Int} (h : SoFar x d at' k L) (hk : at' + k = len + 1) : IsRuns x d at' len L :=
  ⟨h.up, fun t => (h.mem t).trans ⟨fun ⟨j, a, b, c⟩ => ⟨j, by omega, b, c⟩, fun ⟨j, a, b, c⟩ => ⟨j, by omega, b, c⟩⟩⟩
theorem addBs_mem (b : Nat) (es : List Ed) : ∀ st : List Int × List Int, st.1 = st.2 → (addBs b es st).1 = (addBs b es st).2 ∧ ∀ t, t ∈ (addBs b es st).1 ↔ t ∈ st.1 ∨ ∃ e ∈ es, e.free = false ∧ hasE e b = true ∧ e.to = t := by
  induction es with
  | nil => intro st h; exact ⟨h, fun t => by simp [addBs]⟩
  | cons e es ih =>
    intro st h
    have h1 : (addB b st e).1 = (addB b st e).2 := by
      unfold addB addE
      split
      · split
        · exact h
        · simp [h]
      · exact h
    obtain ⟨i1, i2⟩ := ih (addB b st e) h1
    refine ⟨i1, fun t => (i2 t).trans ?_⟩
    have h2 : ∀ t, t ∈ (addB b st e).1 ↔ t ∈ st.1 ∨ (e.free = false ∧ hasE e b = true ∧ e.to = t) := by
      intro t
      unfold addB addE
      split
      · next hh =>
        split
        · next hm => exact ⟨.inl, fun r => r.elim id (fun ⟨_, _, r⟩ => r ▸ hm)⟩
        · simp [hh.1, hh.2]; exact ⟨fun r => r.imp id Eq.symm, fun r => r.imp id Eq.symm⟩
      · next hh => exact ⟨.inl, fun r => r.elim id (fun ⟨a, b, _⟩ => absurd ⟨a, b⟩ hh)⟩
    rw [h2]
    constructor
    · rintro ((h | h) | ⟨e', m, h⟩)
      · exact .inl h
      · exact .inr ⟨e, List.mem_cons_self, h⟩
      · exact .inr ⟨e', List.mem_cons_of_mem _ m, h⟩
    · rintro (h | ⟨e', m, h⟩)
      · exact .inl (.inl h)
      · rcases List.mem_cons.1 m with rfl | m
        · exact .inl (.inr h)
        · exact .inr ⟨e', m, h⟩
theorem stepL_mem (L : List Ed) (b : Nat) (l : List Int) : ∀ st : List Int × List Int, st.1 = st.2 → (stepL L b l st).1 = (stepL L b l st).2 ∧ ∀ t, t ∈ (stepL L b l st).1 ↔ t ∈ st.1 ∨ ∃ e ∈ L, e.free = false ∧ hasE e b = true ∧ e.to = t ∧ e.fr ∈ l := by
  induction l with
  | nil => intro st h; exact ⟨h, fun t => by simp [stepL]⟩
  | cons s l ih =>
    intro st h
    obtain ⟨a1, a2⟩ := addBs_mem b (chainOf L L.length s) st h
    obtain ⟨i1, i2⟩ := ih _ a1
    refine ⟨i1, fun t => (i2 t).trans ?_⟩
    rw [a2]
    constructor
    · rintro ((h | ⟨e, m, h1, h2, h3⟩) | ⟨e, m, h1, h2, h3, h4⟩)
      · exact .inl h
      · obtain ⟨m1, m2⟩ := (mem_chain L s e L.length (Nat.le_refl _)).1 m
        exact .inr ⟨e, List.mem_of_mem_take m1, h1, h2, h3, by rw [m2]; exact List.mem_cons_self⟩
      · exact .inr ⟨e, m, h1, h2, h3, List.mem_cons_of_mem _ h4⟩
    · rintro (h | ⟨e, m, h1, h2, h3, h4⟩)
      · exact .inl (.inl h)
      · rcases List.mem_cons.1 h4 with h4 | h4
        · exact .inl (.inr ⟨e, (mem_chain L s e L.length (Nat.le_refl _)).2 ⟨by rw [List.take_length]; exact m, h4⟩, h1, h2, h3⟩)
        · exact .inr ⟨e, m, h1, h2, h3, h4⟩
end Go.Proofs.Ythknhbmibmndoaa.nf
