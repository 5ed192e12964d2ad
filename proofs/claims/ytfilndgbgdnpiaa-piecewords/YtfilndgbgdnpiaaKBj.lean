/-
  Plain mathematics: where a set of states comes to over each byte (builder.step), before what is free.
-/
import Derived.Test.YtfilndgbgdnpiaaM27
import Derived.Test.YtfilndgbgdnpiaaM24
namespace Go.Proofs.Ytfilndgbgdnpiaa.bd
open nf (Nfa Ed Over Rt hasE setOf)
open st (Q4 none4 Fits has nth jn sig)
set_option linter.unusedVariables false

def joinE (R : List Q4) (e : Ed) : List Q4 := R.set e.to.toNat (jn (nth R e.to.toNat) (setOf e))
def stepR (E : Nat → List Ed) (n : Nat) (l : List Int) : List Q4 := l.foldl (fun R s => (E s.toNat).foldl joinE R) (List.replicate n none4)
theorem stepR_snoc (E : Nat → List Ed) (n : Nat) (l : List Int) (s : Int) : stepR E n (l ++ [s]) = (E s.toNat).foldl joinE (stepR E n l) := by unfold stepR; rw [List.foldl_append]; rfl
theorem joinE_snoc (R : List Q4) (es : List Ed) (e : Ed) : (es ++ [e]).foldl joinE R = joinE (es.foldl joinE R) e := by rw [List.foldl_append]; rfl
/-- the edges of a state that are not Free -/
def Edg (x : Nfa) (n : Nat) (E : Nat → List Ed) : Prop := ∀ s, s < n → ∀ e, e ∈ E s ↔ e ∈ x.edges ∧ e.free = false ∧ e.fr = (s : Int)
structure Rs (n : Nat) (R : List Q4) (P : Nat → Nat → Prop) : Prop where
  len : R.length = n
  fits : ∀ q ∈ R, Fits q
  mem : ∀ i c, i < n → c < 256 → (has (nth R i) c = true ↔ P i c)
theorem fits_ed {e : Ed} (h : nf.Fits e) : Fits (setOf e) := nf.fits_of h
theorem rs_join {n : Nat} {R : List Q4} {P : Nat → Nat → Prop} (h : Rs n R P) {e : Ed} (hf : nf.Fits e) {t : Nat} (ht : e.to = (t : Int)) (htn : t < n) : Rs n (joinE R e) (fun i c => P i c ∨ (i = t ∧ hasE e c = true)) := by
  have hl := h.len
  have e1 : e.to.toNat = t := by omega
  unfold joinE
  rw [e1]
  refine ⟨by simpa using hl, fits_set h.fits t (st.fits_jn (fits_nth h.fits t (by omega)) (fits_ed hf)), fun i c hi hc => ?_⟩
  rw [nth_set R t i _ (by omega) (by omega)]
  by_cases e2 : i = t
  · rw [if_pos e2, st.has_jn _ _ c hc, Bool.or_eq_true, ← e2, h.mem i c hi hc]
    simp [hasE]
  · rw [if_neg e2, h.mem i c hi hc]
    simp [e2]
theorem rs_edges {n : Nat} {R : List Q4} {P : Nat → Nat → Prop} (h : Rs n R P) : ∀ es : List Ed, (∀ e ∈ es, nf.Fits e ∧ 0 ≤ e.to ∧ e.to < (n : Int)) → Rs n (es.foldl joinE R) (fun i c => P i c ∨ ∃ e ∈ es, e.to = (i : Int) ∧ hasE e c = true) := by
  intro es
  induction es generalizing R P with
  | nil => intro _; exact ⟨h.len, h.fits, fun i c hi hc => by rw [List.foldl_nil, h.mem i c hi hc]; simp⟩
  | cons e es ih =>
    intro he
    obtain ⟨h1, h2, h3⟩ := he e List.mem_cons_self
    have k := ih (rs_join h h1 (t := e.to.toNat) (by omega) (by omega)) (fun e' h' => he e' (List.mem_cons_of_mem _ h'))
    refine ⟨k.len, k.fits, fun i c hi hc => (k.mem i c hi hc).trans ?_⟩
    constructor
    · rintro ((a | ⟨a, b⟩) | ⟨e', a, b, d⟩)
      · exact .inl a
      · exact .inr ⟨e, List.mem_cons_self, by omega, b⟩
      · exact .inr ⟨e', List.mem_cons_of_mem _ a, b, d⟩
    · rintro (a | ⟨e', a, b, d⟩)
      · exact .inl (.inl a)
      · rcases List.mem_cons.1 a with rfl | a
        · exact .inl (.inr ⟨by omega, d⟩)
        · exact .inr ⟨e', a, b, d⟩
theorem rs_zero (n : Nat) : Rs n (List.replicate n none4) (fun _ _ => False) :=
  ⟨by simp, fun q hq => by rw [List.eq_of_mem_replicate hq]; exact st.fits_none, fun i c hi hc => by
    rw [nth_get _ _ (by simpa using hi), List.getElem_replicate, st.has_none]; simp⟩
theorem rs_states {x : Nfa} {n : Nat} {E : Nat → List Ed} (R1 : Rt x n) (hfit : ∀ e ∈ x.edges, nf.Fits e) (hE : Edg x n E) : ∀ (l : List Int) (R : List Q4) (P : Nat → Nat → Prop), Rs n R P → (∀ s ∈ l, 0 ≤ s ∧ s < (n : Int)) → Rs n (l.foldl (fun R s => (E s.toNat).foldl joinE R) R) (fun i c => P i c ∨ Over x c (fun s => s ∈ l) (i : Int))
  | [], R, P, h, _ => ⟨h.len, h.fits, fun i c hi hc => (h.mem i c hi hc).trans ⟨.inl, fun a => a.elim id (fun ⟨e, _, _, _, _, g⟩ => by simp at g)⟩⟩
  | s :: l, R, P, h, hl => by
    obtain ⟨s1, s2⟩ := hl s List.mem_cons_self
    have hs : s.toNat < n := by omega
    have he : ∀ e ∈ E s.toNat, nf.Fits e ∧ 0 ≤ e.to ∧ e.to < (n : Int) := fun e h => by
      have := ((hE _ hs e).1 h).1
      exact ⟨hfit e this, R1.to e this⟩
    have k := rs_states R1 hfit hE l _ _ (rs_edges h (E s.toNat) he) (fun t ht => hl t (List.mem_cons_of_mem _ ht))
    rw [List.foldl_cons]
    refine ⟨k.len, k.fits, fun i c hi hc => (k.mem i c hi hc).trans ?_⟩
    constructor
    · rintro ((a | ⟨e, a, b, d⟩) | ⟨e, a, b, d, f, g⟩)
      · exact .inl a
      · obtain ⟨a1, a2, a3⟩ := (hE _ hs e).1 a
        exact .inr ⟨e, a1, a2, d, b, by rw [a3, show ((s.toNat : Nat) : Int) = s by omega]; exact List.mem_cons_self⟩
      · exact .inr ⟨e, a, b, d, f, List.mem_cons_of_mem _ g⟩
    · rintro (a | ⟨e, a, b, d, f, g⟩)
      · exact .inl (.inl a)
      · rcases List.mem_cons.1 g with g | g
        · exact .inl (.inr ⟨e, (hE _ hs e).2 ⟨a, b, by omega⟩, f, d⟩)
        · exact .inr ⟨e, a, b, d, f, g⟩
theorem rs_step {x : Nfa} {n : Nat} {E : Nat → List Ed} (R1 : Rt x n) (hfit : ∀ e ∈ x.edges, nf.Fits e) (hE : Edg x n E) (l : List Int) (hl : ∀ s ∈ l, 0 ≤ s ∧ s < (n : Int)) : Rs n (stepR E n l) (fun i c => Over x c (fun s => s ∈ l) (i : Int)) := by
  have k := rs_states R1 hfit hE l _ _ (rs_zero n) hl
  exact ⟨k.len, k.fits, fun i c hi hc => (k.mem i c hi hc).trans ⟨fun a => a.elim (fun h => h.elim) id, .inr⟩⟩
theorem at_step {x : Nfa} {n : Nat} {R : List Q4} {S : Int → Prop} (R1 : Rt x n) {c : Nat} (hc : c < 256) (h : Rs n R (fun i c => Over x c S (i : Int))) (t : Int) : At R c t ↔ Over x c S t := by
  constructor
  · rintro ⟨j, h1, rfl, h3⟩
    exact (h.mem j c (by rw [← h.len]; exact h1) hc).1 h3
  · intro ho
    have := over_in R1 t ho
    exact ⟨t.toNat, by rw [h.len]; omega, by omega, (h.mem t.toNat c (by omega) hc).2 (by rw [show ((t.toNat : Nat) : Int) = t by omega]; exact ho)⟩
theorem sig_set {x : Nfa} {n : Nat} {R0 R : List Q4} {S : Int → Prop} (R1 : Rt x n) {c : Nat} (hc : c < 256) (h : Rs n R0 (fun i c => Over x c S (i : Int))) (hl : R.length = n) (hR : ∀ i c, i < n → c < 256 → (has (nth R i) c = true ↔ nf.Reach x (At R0 c) (i : Int))) : IsSet n (fun t => nf.Reach x (Over x c S) t) (sig R c) :=
  ⟨by rw [st.sig_length]; exact hl, fun i hi => by
    have hi2 : i < n := by rw [st.sig_length] at hi; omega
    have e : (sig R c)[i] = has (nth R i) c := by rw [← st.sig_at R c i (by omega), List.getD_eq_getElem?_getD, List.getElem?_eq_getElem hi]; rfl
    rw [e, hR i c hi2 hc]
    exact ⟨fun r => r.mono fun t => (at_step R1 hc h t).1, fun r => r.mono fun t => (at_step R1 hc h t).2⟩⟩
theorem to_of {x : Nfa} {c : Nat} {σ : List Bool} {t : Int} : nf.Reach x (Over x c (fun s => s ∈ onTo σ σ.length)) t ↔ To x c σ t :=
  ⟨fun r => r.mono fun t h => over_mono (fun u hu => (mem_onTo σ u).1 hu) h, fun r => r.mono fun t h => over_mono (fun u hu => (mem_onTo σ u).2 hu) h⟩
end Go.Proofs.Ytfilndgbgdnpiaa.bd
