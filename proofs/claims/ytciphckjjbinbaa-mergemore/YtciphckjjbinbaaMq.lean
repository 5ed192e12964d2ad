/-
  Plain mathematics, no program: a merge more, of the greatest rank.
-/
import Derived.Test.YtciphckjjbinbaaMa
namespace Go.Proofs.Ytciphckjjbinbaa.mg
set_option linter.unusedVariables false

def want (p : Mg) (z : Int) : List Int → List Int
  | [] => []
  | [x] => [x]
  | x :: y :: r => if (x, y) = p then z :: want p z r else x :: want p z (y :: r)
section
variable {l : List Mg} {p : Mg}
theorem pr_more (q : Mg) : pr (l ++ [p]) q = if q ∈ l then l.idxOf q else if q = p then l.length else 1024 := by
  unfold pr
  by_cases h1 : q ∈ l
  · rw [if_pos (List.mem_append_left _ h1), if_pos h1, List.idxOf_append, if_pos h1]
  · rw [if_neg h1]
    by_cases h2 : q = p
    · subst h2
      rw [if_pos (by simp), if_pos rfl, List.idxOf_append, if_neg h1]
      simp
    · rw [if_neg h2, if_neg (by simp [h1, h2])]
theorem pr_lt {q : Mg} (hl : l.length ≤ 1023) (r : Nat) (hr : r < l.length) (h : r ≤ pr l q) : r ≤ pr (l ++ [p]) q ∧ (r < pr l q → r < pr (l ++ [p]) q) := by
  rw [pr_more]
  unfold pr at h ⊢
  by_cases h1 : q ∈ l
  · rw [if_pos h1] at h ⊢
    exact ⟨h, fun h => by rwa [if_pos h1] at h⟩
  · rw [if_neg h1]
    by_cases h2 : q = p
    · rw [if_pos h2]; exact ⟨by omega, fun _ => by omega⟩
    · rw [if_neg h2]; exact ⟨by omega, fun _ => by omega⟩
theorem nx_more {ids : List Int} {k r : Nat} (hl : l.length ≤ 1023) (h : nx l ids = some (k, r)) : nx (l ++ [p]) ids = some (k, r) := by
  obtain ⟨q1, q2, q3, q4, q5, q6, q7, q8⟩ := nx_some h
  have hk : rk (l ++ [p]) ids k = r := by
    have hm : (ids.getD k 0, ids.getD (k + 1) 0) ∈ l := List.mem_of_getElem? q2
    unfold rk at q4 ⊢
    rw [if_pos q1] at q4 ⊢
    rw [pr_more, if_pos hm]
    unfold pr at q4
    rwa [if_pos hm] at q4
  have hge : ∀ i, i < ids.length → r ≤ rk (l ++ [p]) ids i ∧ (r < rk l ids i → r < rk (l ++ [p]) ids i) := fun i hi => by
    have := q6 i hi
    unfold rk at this ⊢
    by_cases h1 : i + 1 < ids.length
    · rw [if_pos h1] at this ⊢
      rw [if_pos h1]
      exact pr_lt hl r q3 this
    · rw [if_neg h1, if_neg h1]
      exact ⟨by omega, fun h => h⟩
  have e := lst_at (rk (l ++ [p]) ids) ids.length k (by omega) (by rw [hk]; exact q5) (fun i hi => by rw [hk]; exact (hge i hi).1) (fun i hi => by rw [hk]; exact (hge i (by omega)).2 (q7 i hi))
  unfold nx
  rw [e]
  simp only
  rw [if_neg (by omega), hk]
  simp
theorem app_more_step {ids : List Int} (hl : l.length ≤ 1023) : app (l ++ [p]) ids = app (l ++ [p]) (app l ids) :=
  app_ind l (fun ids out => app (l ++ [p]) ids = app (l ++ [p]) out) (fun _ _ => rfl) (fun ids k r out h h2 => by rw [app_some (nx_more hl h), h2]) ids
def NoAt (M : List Mg) (ids : List Int) (i : Nat) : Prop := i + 1 < ids.length → (ids.getD i 0, ids.getD (i + 1) 0) ∉ M
theorem rk_no {M : List Mg} {ids : List Int} {i : Nat} (h : NoAt M ids i) : rk M ids i = 1024 := by
  unfold rk pr
  by_cases h1 : i + 1 < ids.length
  · rw [if_pos h1, if_neg (h h1)]
  · rw [if_neg h1]
theorem nx_no {M : List Mg} {ids : List Int} (h : ∀ i, NoAt M ids i) : nx M ids = none := by
  unfold nx
  rw [lst_none _ _ (fun i hi => by rw [rk_no (h i)]; exact Nat.le_refl _)]
  simp
theorem more_run (hl : l.length ≤ 1023) (hz : ∀ m ∈ l ++ [p], m.1 < 256 + (l.length : Int) ∧ m.2 < 256 + (l.length : Int)) : ∀ (n : Nat) (ids : List Int) (k : Nat), ids.length - k ≤ n → k ≤ ids.length → (∀ i, i < k → NoAt (l ++ [p]) ids i) → (∀ i, k ≤ i → NoAt l ids i) →
    app (l ++ [p]) ids = ids.take k ++ want p (256 + (l.length : Int)) (ids.drop k) := by
  intro n
  induction n with
  | zero =>
    intro ids k h1 h2 c1 c2
    have e : k = ids.length := by omega
    subst e
    rw [app_none (nx_no fun i => by
      by_cases h : i < ids.length
      · exact c1 i h
      · intro h3; omega), List.take_length, List.drop_length]
    simp [want]
  | succ n ih =>
    intro ids k h1 h2 c1 c2
    by_cases hk : k + 1 < ids.length
    · have e1 : ids.drop k = ids.getD k 0 :: ids.getD (k + 1) 0 :: ids.drop (k + 2) := by
        rw [List.drop_eq_getElem_cons (by omega), List.drop_eq_getElem_cons (by omega), List.getD_eq_getElem?_getD, List.getD_eq_getElem?_getD, List.getElem?_eq_getElem (by omega), List.getElem?_eq_getElem (by omega)]
        rfl
      have e2 : ids.drop (k + 1) = ids.getD (k + 1) 0 :: ids.drop (k + 2) := by
        rw [List.drop_eq_getElem_cons (by omega), List.getD_eq_getElem?_getD, List.getElem?_eq_getElem (by omega)]
        rfl
      have e3 : ids.take (k + 1) = ids.take k ++ [ids.getD k 0] := by
        rw [List.take_add_one, List.getElem?_eq_getElem (by omega), List.getD_eq_getElem?_getD, List.getElem?_eq_getElem (by omega)]
        rfl
      rw [e1, want]
      by_cases hp : (ids.getD k 0, ids.getD (k + 1) 0) = p
      · rw [if_pos hp]
        have hpl : p ∉ l := hp ▸ c2 k (Nat.le_refl _) hk
        have hrk : rk (l ++ [p]) ids k = l.length := by
          unfold rk
          rw [if_pos hk, hp, pr_more, if_neg hpl, if_pos rfl]
        have hge : ∀ i, k ≤ i → l.length ≤ rk (l ++ [p]) ids i := fun i hi => by
          unfold rk
          by_cases h3 : i + 1 < ids.length
          · rw [if_pos h3, pr_more, if_neg (c2 i hi h3)]
            split <;> omega
          · rw [if_neg h3]; omega
        have e := lst_at (rk (l ++ [p]) ids) ids.length k (by omega) (by rw [hrk]; omega) (fun i hi => by
          rw [hrk]
          by_cases h3 : i < k
          · rw [rk_no (c1 i h3)]; omega
          · exact hge i (by omega)) (fun i hi => by rw [hrk, rk_no (c1 i hi)]; omega)
        have hnx : nx (l ++ [p]) ids = some (k, l.length) := by
          unfold nx
          rw [e]
          simp only
          rw [if_neg (by omega), hrk]
          simp
        rw [app_some hnx]
        have hjl := joinAt_len ids k l.length hk
        have hg := fun i => joinAt_get ids k l.length i hk
        rw [ih (joinAt ids k l.length) (k + 1) (by omega) (by omega) (fun i hi h3 hm => ?_) (fun i hi h3 hm => ?_)]
        · have t1 : (joinAt ids k l.length).take (k + 1) = ids.take k ++ [256 + (l.length : Int)] := by
            unfold joinAt
            rw [List.take_append, List.take_of_length_le (by rw [List.length_take]; omega), List.length_take, Nat.min_eq_left (by omega), show k + 1 - k = 1 by omega]
            rfl
          have t2 : (joinAt ids k l.length).drop (k + 1) = ids.drop (k + 2) := by
            unfold joinAt
            rw [List.drop_append, List.drop_of_length_le (by rw [List.length_take]; omega), List.length_take, Nat.min_eq_left (by omega), show k + 1 - k = 1 by omega]
            rfl
          rw [t1, t2, List.append_assoc]
          rfl
        · rw [hg i, hg (i + 1)] at hm
          by_cases h4 : i = k
          · rw [if_neg (by omega), if_pos h4] at hm
            have := (hz _ hm).1
            simp only at this
            omega
          · rw [if_pos (by omega)] at hm
            by_cases h5 : i + 1 = k
            · rw [if_neg (by omega), if_pos h5] at hm
              have := (hz _ hm).2
              simp only at this
              omega
            · rw [if_pos (by omega)] at hm
              exact c1 i (by omega) (by omega) hm
        · rw [hg i, hg (i + 1), if_neg (by omega), if_neg (by omega), if_neg (by omega), if_neg (by omega)] at hm
          exact c2 (i + 1) (by omega) (by omega) hm
      · rw [if_neg hp, ih ids (k + 1) (by omega) (by omega) (fun i hi h3 => ?_) (fun i hi => c2 i (by omega)), e3, e2, List.append_assoc]
        · rfl
        · by_cases h4 : i < k
          · exact c1 i h4 h3
          · have h5 : i = k := by omega
            subst h5
            have := c2 i (Nat.le_refl _) h3
            exact fun hm => (List.mem_append.1 hm).elim this (fun h => hp (List.mem_singleton.1 h))
    · have hall : ∀ i, NoAt (l ++ [p]) ids i := fun i h3 => c1 i (by omega) h3
      rw [app_none (nx_no hall)]
      have hd : want p (256 + (l.length : Int)) (ids.drop k) = ids.drop k := by
        have : (ids.drop k).length ≤ 1 := by rw [List.length_drop]; omega
        match h : ids.drop k, this with
        | [], _ => rfl
        | [x], _ => rfl
      rw [hd, List.take_append_drop]
end
theorem app_more {l : List Mg} {p : Mg} (h : errOf (l ++ [p]) = 0) (ids : List Int) : app (l ++ [p]) ids = want p (256 + (l.length : Int)) (app l ids) := by
  have hF := fine h
  have hl := (ok_run h).1
  rw [List.length_append] at hl
  simp only [List.length_cons, List.length_nil] at hl
  rw [app_more_step (by omega)]
  have hn := nx_none (app_done l ids)
  rw [more_run (by omega) (fun m hm => by
    obtain ⟨k, hk, e⟩ := List.mem_iff_getElem.1 hm
    have := hF.rng k m (by rw [List.getElem?_eq_getElem hk, e])
    rw [List.length_append] at hk
    simp only [List.length_cons, List.length_nil] at hk
    unfold InR at this
    omega) _ (app l ids) 0 (Nat.le_refl _) (Nat.zero_le _) (fun i hi => by omega) (fun i _ h3 hm => by
    have := hn.1 i (by omega)
    unfold rk pr at this
    rw [if_pos h3, if_pos hm] at this
    have := List.idxOf_lt_length_of_mem hm
    omega)]
  rfl
end Go.Proofs.Ytciphckjjbinbaa.mg
