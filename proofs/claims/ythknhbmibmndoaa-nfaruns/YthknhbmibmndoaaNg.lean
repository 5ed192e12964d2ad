/-
  Over this program: a crowd by its lists alone; states added one behind the other; one taken off the stack; plain: what is gone along is closed.
-/
import Derived.Test.YthknhbmibmndoaaNe
namespace Go.Proofs.Ythknhbmibmndoaa.nf
open Go.RowKit Go.Shelf
set_option linter.unusedVariables false
open df (Kp Owns)

def addE (st : List Int × List Int) (t : Int) : List Int × List Int := if t ∈ st.1 then st else (st.1 ++ [t], st.2 ++ [t])
def addF (st : List Int × List Int) (e : Ed) : List Int × List Int := if e.free = true then addE st e.to else st
def addAll (es : List Ed) (st : List Int × List Int) : List Int × List Int := es.foldl addF st
theorem addAll_snoc (es : List Ed) (e : Ed) (st : List Int × List Int) : addAll (es ++ [e]) st = addF (addAll es st) e := by unfold addAll; rw [List.foldl_append]; rfl
theorem addE_sub (st : List Int × List Int) (t x : Int) (h : x ∈ st.1) : x ∈ (addE st t).1 := by
  unfold addE
  split
  · exact h
  · exact List.mem_append.2 (.inl h)
theorem addF_sub (st : List Int × List Int) (e : Ed) (x : Int) (h : x ∈ st.1) : x ∈ (addF st e).1 := by
  unfold addF
  split
  · exact addE_sub st _ x h
  · exact h
theorem addAll_sub (es : List Ed) : ∀ (st : List Int × List Int) (x : Int), x ∈ st.1 → x ∈ (addAll es st).1 := by
  induction es with
  | nil => intro st x h; exact h
  | cons e es ih => intro st x h; exact ih (addF st e) x (addF_sub st e x h)
theorem addE_in (st : List Int × List Int) (t : Int) : t ∈ (addE st t).1 := by
  unfold addE
  split
  · assumption
  · exact List.mem_append.2 (.inr (by simp))
theorem addAll_in (es : List Ed) : ∀ (st : List Int × List Int) (e : Ed), e ∈ es → e.free = true → e.to ∈ (addAll es st).1 := by
  induction es with
  | nil => intro st e h; cases h
  | cons e0 es ih =>
    intro st e h hf
    rcases List.mem_cons.1 h with rfl | h
    · refine addAll_sub es (addF st e) _ ?_
      unfold addF
      rw [if_pos hf]
      exact addE_in st _
    · exact ih (addF st e0) e h hf
/-- what is kept between two states of the stack -/
structure Inv (x : Nfa) (P : Int → Prop) (l q : List Int) : Prop where
  sub : ∀ t ∈ q, t ∈ l
  reach : ∀ t ∈ l, Reach x P t
  closed : ∀ t ∈ l, t ∉ q → ∀ e ∈ x.edges, e.fr = t → e.free = true → e.to ∈ l
theorem addAll_new (x : Nfa) (P : Int → Prop) (s : Int) (hs : Reach x P s) (es : List Ed) (he : ∀ e ∈ es, e ∈ x.edges ∧ e.fr = s) : ∀ (st : List Int × List Int), (∀ t ∈ st.2, t ∈ st.1) → (∀ t ∈ st.1, Reach x P t) →
    (∀ t ∈ (addAll es st).2, t ∈ (addAll es st).1) ∧ (∀ t ∈ (addAll es st).1, Reach x P t) ∧ (∀ t ∈ (addAll es st).1, t ∈ st.1 ∨ t ∈ (addAll es st).2) ∧ (∀ t ∈ st.2, t ∈ (addAll es st).2) := by
  induction es with
  | nil => intro st h1 h2; exact ⟨h1, h2, fun t h => .inl h, fun t h => h⟩
  | cons e es ih =>
    intro st h1 h2
    have key : (∀ t ∈ (addF st e).2, t ∈ (addF st e).1) ∧ (∀ t ∈ (addF st e).1, Reach x P t) ∧ (∀ t ∈ (addF st e).1, t ∈ st.1 ∨ t ∈ (addF st e).2) ∧ (∀ t ∈ st.2, t ∈ (addF st e).2) := by
      unfold addF addE
      split
      · rename_i hf
        split
        · exact ⟨h1, h2, fun t h => .inl h, fun t h => h⟩
        · refine ⟨fun t ht => ?_, fun t ht => ?_, fun t ht => ?_, fun t ht => List.mem_append.2 (.inl ht)⟩
          · rcases List.mem_append.1 ht with h | h
            · exact List.mem_append.2 (.inl (h1 t h))
            · exact List.mem_append.2 (.inr h)
          · rcases List.mem_append.1 ht with h | h
            · exact h2 t h
            · simp at h
              subst h
              obtain ⟨m1, m2⟩ := he e (by simp)
              exact Reach.step (by rw [m2]; exact hs) m1 hf
          · rcases List.mem_append.1 ht with h | h
            · exact .inl h
            · exact .inr (List.mem_append.2 (.inr h))
      · exact ⟨h1, h2, fun t h => .inl h, fun t h => h⟩
    obtain ⟨k1, k2, k3, k4⟩ := key
    obtain ⟨i1, i2, i3, i4⟩ := ih (fun e' h => he e' (by simp [h])) (addF st e) k1 k2
    refine ⟨i1, i2, fun t ht => ?_, fun t ht => i4 t (k4 t ht)⟩
    rcases i3 t ht with h | h
    · rcases k3 t h with h | h
      · exact .inl h
      · exact .inr (i4 t h)
    · exact .inr h
theorem inv_step {x : Nfa} {P : Int → Prop} {l q0 : List Int} {s : Int} (h : Inv x P l (q0 ++ [s])) : Inv x P (addAll (chainOf x.edges x.edges.length s) (l, q0)).1 (addAll (chainOf x.edges x.edges.length s) (l, q0)).2 := by
  have hs : s ∈ l := h.sub s (by simp)
  have hmem : ∀ e ∈ chainOf x.edges x.edges.length s, e ∈ x.edges ∧ e.fr = s := fun e he => (mem_chain_all x.edges s e).1 he
  obtain ⟨i1, i2, i3, i4⟩ := addAll_new x P s (h.reach s hs) _ hmem (l, q0) (fun t ht => h.sub t (List.mem_append.2 (.inl ht))) h.reach
  refine ⟨i1, i2, fun t ht htq e he hfr hfree => ?_⟩
  by_cases hts : t = s
  · subst hts
    exact addAll_in _ (l, q0) e ((mem_chain_all x.edges t e).2 ⟨he, hfr⟩) hfree
  · have ht2 : t ∈ l := by
      rcases i3 t ht with h | h
      · exact h
      · exact absurd h htq
    refine addAll_sub _ (l, q0) _ (h.closed t ht2 (fun hq => ?_) e he hfr hfree)
    rcases List.mem_append.1 hq with h1 | h1
    · exact htq (i4 t h1)
    · simp at h1; exact hts h1
theorem inv_done {x : Nfa} {P : Int → Prop} {l : List Int} (h : Inv x P l []) (hP : ∀ t, P t → t ∈ l) (t : Int) : t ∈ l ↔ Reach x P t :=
  ⟨h.reach t, fun r => r.least hP (fun e he hf h1 => h.closed e.fr h1 (by simp) e he rfl hf)⟩

theorem nodup_range : ∀ (n : Nat) (l : List Int), l.Nodup → (∀ t ∈ l, 0 ≤ t ∧ t < (n : Int)) → l.length ≤ n
  | 0, l, h, hr => by
    cases l with
    | nil => simp
    | cons a l => have := hr a (by simp); omega
  | n + 1, l, h, hr => by
    by_cases hn : (n : Int) ∈ l
    · have h1 := nodup_range n (l.erase (n : Int)) (h.erase _) (fun t ht => by
        have h2 := hr t (List.mem_of_mem_erase ht)
        have h3 : t ≠ (n : Int) := fun e => by subst e; exact (List.Nodup.not_mem_erase h) ht
        omega)
      rw [List.length_erase_of_mem hn] at h1
      omega
    · have := nodup_range n l h (fun t ht => by
        have h2 := hr t ht
        have h3 : t ≠ (n : Int) := fun e => by subst e; exact hn ht
        omega)
      omega

/-- a crowd, by its lists -/
structure Cr (X : Nat → Prop) (W : World) (B c sb n : Nat) (l q : List Int) : Prop where
  lie : ∃ m va vw, Crowd X W B c sb n m va vw l q ∧ ∀ i, i < n → m[i]? = some (decide ((i : Int) ∈ l))
  nd : l.Nodup
  rg : ∀ t ∈ l, 0 ≤ t ∧ t < (n : Int)
  ql : q.length ≤ l.length
theorem Cr.len {X : Nat → Prop} {W : World} {B c sb n : Nat} {l q : List Int} (h : Cr X W B c sb n l q) : l.length ≤ n := nodup_range n l h.nd h.rg
theorem Cr.keep {X Y : Nat → Prop} {W W' : World} {B c sb n : Nat} {l q : List Int} (h : Cr X W B c sb n l q) (hk : ∀ m va vw, Crowd X W B c sb n m va vw l q → Crowd Y W' B c sb n m va vw l q) : Cr Y W' B c sb n l q := by
  obtain ⟨m, va, vw, h1, h2⟩ := h.lie
  exact ⟨⟨m, va, vw, hk m va vw h1, h2⟩, h.nd, h.rg, h.ql⟩
theorem Cr.later {X : Nat → Prop} {W W' : World} {B c sb n : Nat} {l q : List Int} (h : Cr X W B c sb n l q) (b : Below W.heap.size W W') : Cr X W' B c sb n l q := h.keep fun _ _ _ k => k.later b
theorem Cr.less {X Y : Nat → Prop} {W : World} {B c sb n : Nat} {l q : List Int} (h : Cr X W B c sb n l q) (hx : ∀ b, Y b → X b) : Cr Y W B c sb n l q := h.keep fun _ _ _ k => ⟨k.blk, k.seen, k.ml, k.all, k.wait, k.two, k.bc, k.bs, fun b hb => k.ap b (hx b hb)⟩
/-- more blocks that are not the crowd's: new ones -/
theorem Cr.more {X Y : Nat → Prop} {W W' : World} {B c sb n : Nat} {l q : List Int} (h : Cr X W B c sb n l q) (b : Below W.heap.size W W') (hx : ∀ b, Y b → X b ∨ (W.heap.size ≤ b ∧ b < W'.heap.size)) : Cr Y W' B c sb n l q := h.keep fun m va vw k => by
  have k2 := k.later b
  refine ⟨k2.blk, k2.seen, k2.ml, k2.all, k2.wait, k2.two, k2.bc, k2.bs, fun g hg => ?_⟩
  rcases hx g hg with h1 | h1
  · exact k2.ap g h1
  · refine ⟨h1.2, fun e => by have := k.lt; omega, fun e => by have := k.seen.lt; omega, fun e => ?_, fun e => ?_⟩
    · have := own_lt k.all e.symm; omega
    · have := own_lt k.wait e.symm; omega
theorem Cr.own {X : Nat → Prop} {B c sb n N : Nat} {α : Type} (f : α → List Int × List Int) : OwnFrom N (fun (s : α) W => Cr X W B c sb n (f s).1 (f s).2) := fun s W W' row hs hg hr => hs.keep fun m va vw k => by
  have ne : ∀ g cs t fr, W.heap[g]? = some (.cells cs t fr) → some g ≠ row := fun g cs t fr hc e => by
    obtain ⟨_, o, ho, hn⟩ := hr g e.symm
    rw [hc] at ho
    cases ho
    cases hn
  refine k.keep hg.size (hg.block _ k.lt (ne _ _ _ _ k.blk)) (hg.block _ k.seen.lt (ne _ _ _ _ k.seen)) (fun g e => ?_) (fun g e => ?_)
  · rcases k.all.2 with ⟨h0, _⟩ | ⟨gg, cap, cur, h0, _, hgg, _⟩
    · rw [h0] at e; cases e
    · rw [h0] at e; cases e; exact hg.block _ (Array.getElem?_eq_some_iff.1 hgg).1 (ne _ _ _ _ hgg)
  · rcases k.wait.2 with ⟨h0, _⟩ | ⟨gg, cap, cur, h0, _, hgg, _⟩
    · rw [h0] at e; cases e
    · rw [h0] at e; cases e; exact hg.block _ (Array.getElem?_eq_some_iff.1 hgg).1 (ne _ _ _ _ hgg)
theorem moved_own {X : Nat → Prop} {B N : Nat} {α : Type} {W0 : World} (hX : ∀ b, X b → b < W0.heap.size) (hB : B ≤ W0.heap.size) (hN : W0.heap.size ≤ N) : OwnFrom N (fun (_ : α) W => Moved X B W0 W) := fun s W W' row hs hg hr =>
  ⟨⟨Nat.le_trans hs.kp.1 hg.size, fun b hb => (hg.block b (Nat.lt_of_lt_of_le (hX b hb) hs.kp.1) (fun e => by have := (hr b e.symm).1; have := hX b hb; omega)).trans (hs.kp.2 b hb)⟩,
   hs.be.grown hg (Nat.le_trans hB hs.kp.1) (fun k e => Nat.le_trans hB (Nat.le_trans hN (hr k e).1)),
   ⟨Nat.le_trans hs.kp.1 hg.size, fun k o hk ho => by
    have hlt := (Array.getElem?_eq_some_iff.1 hk).1
    exact (hg.block k (Nat.lt_of_lt_of_le hlt hs.kp.1) (fun e => by have := (hr k e.symm).1; omega)).trans (hs.ot.same k o hk ho)⟩⟩

def AddIs (X : Nat → Prop) (B c sb n : Nat) (l q : List Int) (s : Nat) : Prop := ∀ W, Cr X W B c sb n l q → Calls Try.prog 31 #[.pointer (some ⟨c, 0, none⟩), .int .i64 (s : Int)] W fun e W' => (∃ v, e = .returned v) ∧ Cr X W' B c sb n (addE (l, q) (s : Int)).1 (addE (l, q) (s : Int)).2 ∧ Moved X B W W'
theorem add_any (X : Nat → Prop) (B c sb n : Nat) (hn : n ≤ 2000) (l q : List Int) (s : Nat) (hs : s < n) : AddIs X B c sb n l q s := by
  intro W h
  obtain ⟨m, va, vw, h1, h2⟩ := h.lie
  have hl := h.len
  have hql := h.ql
  by_cases hin : (s : Int) ∈ l
  · have e1 : addE (l, q) (s : Int) = (l, q) := by unfold addE; rw [if_pos hin]
    rw [e1]
    refine (add_old h1 s hs (by rw [h2 s hs, decide_eq_true hin])).mono ?_
    rintro e W' ⟨hv, rfl⟩
    exact ⟨hv, h, Moved.refl _ _ _⟩
  · have e1 : addE (l, q) (s : Int) = (l ++ [(s : Int)], q ++ [(s : Int)]) := by unfold addE; rw [if_neg hin]
    rw [e1]
    refine (add_new h1 s hs (by rw [h2 s hs, decide_eq_false hin]) (by omega) (by omega)).mono ?_
    rintro e W' ⟨hv, va', vw', hc, hm⟩
    refine ⟨hv, ⟨⟨_, va', vw', hc, fun i hi => ?_⟩, ?_, ?_, ?_⟩, hm⟩
    · rw [List.getElem?_set]
      have hml := h1.ml
      by_cases hsi : s = i
      · subst hsi
        rw [if_pos rfl, if_pos (by omega)]
        simp
      · rw [if_neg hsi, h2 i hi]
        congr 1
        rw [decide_eq_decide]
        simp only [List.mem_append, List.mem_singleton]
        constructor
        · exact .inl
        · rintro (h | h)
          · exact h
          · omega
    · rw [List.nodup_append]
      refine ⟨h.nd, by simp, fun a ha b hb => ?_⟩
      simp at hb
      subst hb
      exact fun e => hin (e ▸ ha)
    · intro t ht
      rcases List.mem_append.1 ht with h3 | h3
      · exact h.rg t h3
      · simp at h3; omega
    · simp; omega
end Go.Proofs.Ythknhbmibmndoaa.nf
