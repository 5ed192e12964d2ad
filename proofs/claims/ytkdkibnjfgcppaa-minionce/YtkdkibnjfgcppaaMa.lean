/-
  Plain mathematics: automata by the languages of their states: the walk over languages, in the one order that there is, and what is made of it.
-/
import Init.Data.List.Lemmas
namespace Go.Proofs.Ytkdkibnjfgcppaa.mi
set_option linter.unusedVariables false
open Classical

/-- what is taken from a state on -/
abbrev Lg := List UInt8 → Bool
def dv (L : Lg) (b : UInt8) : Lg := fun w => L (b :: w)
def Live (L : Lg) : Prop := ∃ w, L w = true
def nil : Lg := fun _ => false
theorem live_nil : ¬ Live nil := fun ⟨w, h⟩ => by cases h
theorem not_live {L : Lg} : ¬ Live L ↔ L = nil := by
  constructor
  · intro h
    funext w
    exact Bool.eq_false_iff.2 fun hw => h ⟨w, hw⟩
  · rintro rfl; exact live_nil
/-- a number's byte -/
abbrev by8 (b : Nat) : UInt8 := UInt8.ofNat b

/-- a language is met -/
noncomputable def met (sts : List Lg) (L : Lg) : List Lg × Int := if Live L then (if L ∈ sts then (sts, (sts.findIdx fun x => decide (x = L) : Nat)) else (sts ++ [L], (sts.length : Int))) else (sts, -1)
theorem met_dead {sts : List Lg} {L : Lg} (h : ¬ Live L) : met sts L = (sts, -1) := by unfold met; rw [if_neg h]
theorem met_old {sts : List Lg} {L : Lg} (h : Live L) (hm : L ∈ sts) : met sts L = (sts, ((sts.findIdx fun x => decide (x = L) : Nat) : Int)) := by unfold met; rw [if_pos h, if_pos hm]
theorem met_new {sts : List Lg} {L : Lg} (h : Live L) (hm : L ∉ sts) : met sts L = (sts ++ [L], (sts.length : Int)) := by unfold met; rw [if_pos h, if_neg hm]
/-- what stands for a language -/
def Ent (sts : List Lg) (L : Lg) (n : Int) : Prop := (¬ Live L ∧ n = -1) ∨ (Live L ∧ ∃ j : Nat, n = j ∧ sts[j]? = some L)
theorem Ent.mono {sts sts' : List Lg} {L : Lg} {n : Int} (h : Ent sts L n) (hp : sts <+: sts') : Ent sts' L n := by
  rcases h with h | ⟨h1, j, e, hj⟩
  · exact .inl h
  · obtain ⟨t, rfl⟩ := hp
    exact .inr ⟨h1, j, e, by rw [List.getElem?_append_left (List.getElem?_eq_some_iff.1 hj).1]; exact hj⟩
theorem idx_at {sts : List Lg} {L : Lg} (hm : L ∈ sts) : sts[sts.findIdx fun x => decide (x = L)]? = some L := by
  have h1 : sts.findIdx (fun x => decide (x = L)) < sts.length := List.findIdx_lt_length_of_exists ⟨L, hm, by simp⟩
  rw [List.getElem?_eq_getElem h1]
  have := List.findIdx_getElem (xs := sts) (p := fun x => decide (x = L)) (w := h1)
  simp at this
  rw [this]
/-- where it stands, if no other one does -/
theorem idx_is {sts : List Lg} (hd : sts.Nodup) {L : Lg} {j : Nat} (hj : sts[j]? = some L) : sts.findIdx (fun x => decide (x = L)) = j := by
  have hm : L ∈ sts := List.mem_of_getElem? hj
  have h1 := idx_at hm
  obtain ⟨a1, e1⟩ := List.getElem?_eq_some_iff.1 h1
  obtain ⟨a2, e2⟩ := List.getElem?_eq_some_iff.1 hj
  have hp := List.pairwise_iff_getElem.1 hd
  rcases Nat.lt_trichotomy (sts.findIdx fun x => decide (x = L)) j with h | h | h
  · exact absurd (e1.trans e2.symm) (hp _ _ a1 a2 h)
  · exact h
  · exact absurd (e2.trans e1.symm) (hp _ _ a2 a1 h)
theorem met_spec (sts : List Lg) (L : Lg) : sts <+: (met sts L).1 ∧ Ent (met sts L).1 L (met sts L).2 ∧ (sts.Nodup → (met sts L).1.Nodup) ∧ ∀ x ∈ (met sts L).1, x ∈ sts ∨ (x = L ∧ Live L) := by
  by_cases h : Live L
  · by_cases hm : L ∈ sts
    · rw [met_old h hm]
      exact ⟨List.prefix_refl _, .inr ⟨h, _, rfl, idx_at hm⟩, fun h => h, fun x hx => .inl hx⟩
    · rw [met_new h hm]
      refine ⟨List.prefix_append _ _, .inr ⟨h, _, rfl, by simp⟩, fun hd => ?_, fun x hx => ?_⟩
      · rw [List.nodup_append]
        exact ⟨hd, by simp, fun a ha b hb e => by rw [List.mem_singleton.1 hb] at e; exact hm (e ▸ ha)⟩
      · rcases List.mem_append.1 hx with hx | hx
        · exact .inl hx
        · exact .inr ⟨List.mem_singleton.1 hx, h⟩
  · rw [met_dead h]
    exact ⟨List.prefix_refl _, .inl ⟨h, rfl⟩, fun h => h, fun x hx => .inl hx⟩
/-- a state is left by its first k bytes -/
noncomputable def rowN (sts : List Lg) (L : Lg) : Nat → List Lg × List Int
  | 0 => (sts, [])
  | k + 1 => ((met (rowN sts L k).1 (dv L (by8 k))).1, (rowN sts L k).2 ++ [(met (rowN sts L k).1 (dv L (by8 k))).2])
theorem rowN_len (sts : List Lg) (L : Lg) (k : Nat) : (rowN sts L k).2.length = k := by
  induction k with
  | zero => rfl
  | succ k ih => simp [rowN, ih]
theorem rowN_spec (sts : List Lg) (L : Lg) (k : Nat) : sts <+: (rowN sts L k).1 ∧ (∀ b, b < k → ∃ n, (rowN sts L k).2[b]? = some n ∧ Ent (rowN sts L k).1 (dv L (by8 b)) n) ∧ (sts.Nodup → (rowN sts L k).1.Nodup) ∧ ∀ x ∈ (rowN sts L k).1, x ∈ sts ∨ (Live x ∧ ∃ b, b < k ∧ x = dv L (by8 b)) := by
  induction k with
  | zero => exact ⟨List.prefix_refl _, fun b hb => by omega, fun h => h, fun x hx => .inl hx⟩
  | succ k ih =>
    obtain ⟨h1, h2, h3, h4⟩ := ih
    obtain ⟨m1, m2, m3, m4⟩ := met_spec (rowN sts L k).1 (dv L (by8 k))
    have hl := rowN_len sts L k
    refine ⟨h1.trans m1, fun b hb => ?_, fun hd => m3 (h3 hd), fun x hx => ?_⟩
    · simp only [rowN]
      by_cases e : b < k
      · obtain ⟨n, e1, e2⟩ := h2 b e
        exact ⟨n, by rw [List.getElem?_append_left (by omega)]; exact e1, e2.mono m1⟩
      · obtain rfl : b = k := by omega
        exact ⟨_, by rw [List.getElem?_append_right (by omega), hl, Nat.sub_self]; rfl, m2⟩
    · rcases m4 x hx with h | ⟨rfl, h⟩
      · rcases h4 x h with h | ⟨h, b, hb, e⟩
        · exact .inl h
        · exact .inr ⟨h, b, by omega, e⟩
      · exact .inr ⟨h, k, by omega, rfl⟩
/-- so many states are left -/
noncomputable def it (L0 : Lg) : Nat → List Lg × List (List Int)
  | 0 => ([L0], [])
  | k + 1 => match (it L0 k).1[k]? with
    | none => it L0 k
    | some L => ((rowN (it L0 k).1 L 256).1, (it L0 k).2 ++ [(rowN (it L0 k).1 L 256).2])
theorem it_end {L0 : Lg} {k : Nat} (h : (it L0 k).1[k]? = none) : it L0 (k + 1) = it L0 k := by
  show (match (it L0 k).1[k]? with | none => it L0 k | some L => _) = _
  rw [h]
theorem it_next {L0 : Lg} {k : Nat} {L : Lg} (h : (it L0 k).1[k]? = some L) : it L0 (k + 1) = ((rowN (it L0 k).1 L 256).1, (it L0 k).2 ++ [(rowN (it L0 k).1 L 256).2]) := by
  show (match (it L0 k).1[k]? with | none => it L0 k | some L => _) = _
  rw [h]
theorem it_stop {L0 : Lg} {k : Nat} (h : (it L0 k).1.length = k) (j : Nat) : it L0 (k + j) = it L0 k := by
  induction j with
  | zero => rfl
  | succ j ih =>
    have : (it L0 (k + j)).1[k + j]? = none := by rw [ih]; exact List.getElem?_eq_none (by omega)
    rw [← Nat.add_assoc, it_end this, ih]
theorem it_one {L0 : Lg} {k j : Nat} (hk : (it L0 k).1.length = k) (hj : (it L0 j).1.length = j) : it L0 k = it L0 j := by
  rcases Nat.le_total k j with h | h
  · obtain ⟨d, rfl⟩ : ∃ d, j = k + d := ⟨j - k, by omega⟩
    exact (it_stop hk d).symm
  · obtain ⟨d, rfl⟩ : ∃ d, k = j + d := ⟨k - j, by omega⟩
    exact it_stop hj d
structure Wk (L0 : Lg) (sts : List Lg) (rows : List (List Int)) (k : Nat) : Prop where
  first : sts[0]? = some L0
  len : rows.length = k
  le : k ≤ sts.length
  nd : sts.Nodup
  rows : ∀ i, i < k → ∃ L r, sts[i]? = some L ∧ rows[i]? = some r ∧ r.length = 256 ∧ ∀ b, b < 256 → ∃ n, r[b]? = some n ∧ Ent sts (dv L (by8 b)) n
  ins : ∀ x ∈ sts, x = L0 ∨ (Live x ∧ ∃ (L : Lg) (b : Nat), L ∈ sts ∧ b < 256 ∧ x = dv L (by8 b))
theorem pre_get {α : Type} {l l' : List α} (h : l <+: l') {i : Nat} {x : α} (e : l[i]? = some x) : l'[i]? = some x := by
  obtain ⟨t, rfl⟩ := h
  rw [List.getElem?_append_left (List.getElem?_eq_some_iff.1 e).1]; exact e
theorem it_wk (L0 : Lg) : ∀ k, (∀ j, j < k → j < (it L0 j).1.length) → Wk L0 (it L0 k).1 (it L0 k).2 k := by
  intro k
  induction k with
  | zero => exact fun _ => ⟨rfl, rfl, by simp, by simp [it], fun i hi => by omega, fun x hx => .inl (by simpa [it] using hx)⟩
  | succ k ih =>
    intro hj
    have hw := ih (fun j h => hj j (by omega))
    have hk := hj k (by omega)
    have hL := List.getElem?_eq_getElem hk
    obtain ⟨r1, r2, r3, r4⟩ := rowN_spec (it L0 k).1 (it L0 k).1[k] 256
    rw [it_next hL]
    refine ⟨pre_get r1 hw.first, by simp [hw.len], Nat.le_trans hk r1.length_le, r3 hw.nd, fun i hi => ?_, fun x hx => ?_⟩
    · by_cases e : i < k
      · obtain ⟨L, r, e1, e2, e3, e4⟩ := hw.rows i e
        refine ⟨L, r, pre_get r1 e1, by rw [List.getElem?_append_left (by rw [hw.len]; exact e)]; exact e2, e3, fun b hb => ?_⟩
        obtain ⟨n, e5, e6⟩ := e4 b hb
        exact ⟨n, e5, e6.mono r1⟩
      · obtain rfl : i = k := by omega
        exact ⟨_, _, pre_get r1 hL, by rw [List.getElem?_append_right (by rw [hw.len]; exact Nat.le_refl _), hw.len, Nat.sub_self]; rfl, rowN_len _ _ _, r2⟩
    · rcases r4 x hx with h | ⟨h, b, hb, e⟩
      · rcases hw.ins x h with h | ⟨h, L, b, h1, h2, h3⟩
        · exact .inl h
        · exact .inr ⟨h, L, b, r1.subset h1, h2, h3⟩
      · exact .inr ⟨h, _, b, r1.subset (List.getElem_mem hk), hb, e⟩

/-- a column: where all states go by a byte -/
def colOf (rows : List (List Int)) (b : Nat) : List Int := rows.map fun r => r.getD b 0
/-- the least bytes of the classes of the first k bytes -/
def firsts (col : Nat → List Int) : Nat → List Nat
  | 0 => []
  | k + 1 => if (firsts col k).any (fun c => col c == col k) then firsts col k else firsts col k ++ [k]
/-- a byte's class -/
def clsOf (col : Nat → List Int) (k b : Nat) : Nat := (firsts col k).findIdx fun c => col c == col b
theorem firsts_lt (col : Nat → List Int) (k : Nat) : ∀ c ∈ firsts col k, c < k := by
  induction k with
  | zero => intro c hc; cases hc
  | succ k ih =>
    intro c hc
    simp only [firsts] at hc
    split at hc
    · have := ih c hc; omega
    · rcases List.mem_append.1 hc with h | h
      · have := ih c h; omega
      · have := List.mem_singleton.1 h; omega
theorem firsts_len (col : Nat → List Int) (k : Nat) : (firsts col k).length ≤ k := by
  induction k with
  | zero => exact Nat.le_refl _
  | succ k ih =>
    simp only [firsts]
    split
    · omega
    · simp; omega
theorem firsts_pre (col : Nat → List Int) (k j : Nat) (h : k ≤ j) : firsts col k <+: firsts col j := by
  induction j with
  | zero => rw [show k = 0 by omega]; exact List.prefix_refl _
  | succ j ih =>
    by_cases e : k = j + 1
    · subst e; exact List.prefix_refl _
    · refine (ih (by omega)).trans ?_
      simp only [firsts]
      split
      · exact List.prefix_refl _
      · exact List.prefix_append _ _
theorem firsts_has (col : Nat → List Int) {k b : Nat} (h : b < k) : ∃ c ∈ firsts col k, col c = col b := by
  have h1 : ∃ c ∈ firsts col (b + 1), col c = col b := by
    simp only [firsts]
    split
    · rename_i hh
      obtain ⟨c, hc, e⟩ := List.any_eq_true.1 hh
      exact ⟨c, hc, by simpa using e⟩
    · exact ⟨b, by simp, rfl⟩
  obtain ⟨c, hc, e⟩ := h1
  exact ⟨c, (firsts_pre col (b + 1) k h).subset hc, e⟩
theorem cls_at (col : Nat → List Int) {k b : Nat} (h : b < k) : ∃ c, (firsts col k)[clsOf col k b]? = some c ∧ col c = col b := by
  obtain ⟨c, hc, e⟩ := firsts_has col h
  have h1 : clsOf col k b < (firsts col k).length := List.findIdx_lt_length_of_exists ⟨c, hc, by simpa using e⟩
  refine ⟨_, List.getElem?_eq_getElem h1, ?_⟩
  have := List.findIdx_getElem (xs := firsts col k) (p := fun c => col c == col b) (w := h1)
  simp at this
  exact this
/-- the least of a language -/
structure Least (L0 : Lg) (cls : List Nat) (next : List (List Int)) (acc : List Bool) : Prop where
  ex : ∃ K, (it L0 K).1.length = K ∧ cls = (List.range 256).map (clsOf (colOf (it L0 K).2) 256) ∧ next = (it L0 K).2.map (fun r => (firsts (colOf (it L0 K).2) 256).map fun c => r.getD c 0) ∧ acc = (it L0 K).1.map fun L => L []
/-- there is one alone -/
theorem Least.one {L0 : Lg} {c1 c2 : List Nat} {n1 n2 : List (List Int)} {a1 a2 : List Bool} (h : Least L0 c1 n1 a1) (k : Least L0 c2 n2 a2) : c1 = c2 ∧ n1 = n2 ∧ a1 = a2 := by
  obtain ⟨K, h1, rfl, rfl, rfl⟩ := h.ex
  obtain ⟨J, k1, rfl, rfl, rfl⟩ := k.ex
  rw [it_one h1 k1]
  exact ⟨rfl, rfl, rfl⟩
theorem least_of (P : Nat → Prop) : ∀ n, P n → ∃ k, P k ∧ ∀ j, j < k → ¬ P j := by
  intro n
  induction n using Nat.strongRecOn with
  | _ n ih =>
    intro h
    by_cases hx : ∃ j, j < n ∧ P j
    · obtain ⟨j, hj, hp⟩ := hx
      exact ih j hj hp
    · exact ⟨n, h, fun j hj hp => hx ⟨j, hj, hp⟩⟩
/-- the first time that all are left -/
theorem least_K {L0 : Lg} {K : Nat} (h : (it L0 K).1.length = K) : ∃ k, (it L0 k).1.length = k ∧ it L0 k = it L0 K ∧ ∀ j, j < k → j < (it L0 j).1.length := by
  obtain ⟨k, hk, hm'⟩ := least_of (fun k => (it L0 k).1.length ≤ k) K (by show _ ≤ _; omega)
  have hm : ∀ j, j < k → j < (it L0 j).1.length := fun j hj => Nat.lt_of_not_le (hm' j hj)
  have hw := it_wk L0 k hm
  have hl : (it L0 k).1.length = k := Nat.le_antisymm hk hw.le
  exact ⟨k, hl, it_one hl h, hm⟩
end Go.Proofs.Ytkdkibnjfgcppaa.mi
