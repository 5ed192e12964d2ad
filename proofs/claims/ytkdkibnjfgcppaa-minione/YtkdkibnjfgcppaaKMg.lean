/-
  Plain mathematics: parting again, by what is seen of each state, till no part more is gained.
-/
import Derived.Test.YtkdkibnjfgcppaaM00
namespace Go.Proofs.Ytkdkibnjfgcppaa.mi
set_option linter.unusedVariables false

/-- the part of a state, or of none -/
def pa (P : List Nat) : Option Nat → Nat
  | none => P.getD 0 0
  | some s => P.getD (s + 1) 0
/-- what is seen of a state, as far as states are parted -/
def sgOf (d : Dm) (P : List Nat) (x : Option Nat) : List Nat := pa P x :: (List.range 256).map fun b => pa P (d.goO x (by8 b))
theorem sgOf_eq {d : Dm} {P : List Nat} {x y : Option Nat} : sgOf d P x = sgOf d P y ↔ pa P x = pa P y ∧ ∀ b : UInt8, pa P (d.goO x b) = pa P (d.goO y b) := by
  unfold sgOf
  constructor
  · intro h
    rw [List.cons.injEq] at h
    refine ⟨h.1, fun b => ?_⟩
    have := congrArg (fun l : List Nat => l[b.toNat]?) h.2
    simpa [List.getElem?_map, List.getElem?_range b.toNat_lt] using this
  · rintro ⟨h1, h2⟩
    rw [h1]
    congr 1
    exact List.map_congr_left fun b _ => h2 _
/-- states parted again: F tells the parts, n how many there are -/
structure Seen (d : Dm) (P F : List Nat) (n : Nat) : Prop where
  len : F.length = d.n + 1
  zero : pa F none = 0
  ex : ∃ l : List (List Nat), l.Nodup ∧ n = l.length ∧ (∀ x ∈ items d, l[pa F x]? = some (sgOf d P x)) ∧ ∀ s ∈ l, ∃ x ∈ items d, sgOf d P x = s
theorem nodup_idx {α : Type} {l : List α} (h : l.Nodup) {i j : Nat} {x : α} (hi : l[i]? = some x) (hj : l[j]? = some x) : i = j := by
  obtain ⟨hi1, hi2⟩ := List.getElem?_eq_some_iff.1 hi
  obtain ⟨hj1, hj2⟩ := List.getElem?_eq_some_iff.1 hj
  have hn := List.pairwise_iff_getElem.1 h
  refine Decidable.byContradiction fun hne => ?_
  rcases Nat.lt_or_gt_of_ne hne with hlt | hgt
  · exact hn i j hi1 hj1 hlt (by rw [hi2, hj2])
  · exact hn j i hj1 hi1 hgt (by rw [hi2, hj2])
theorem Seen.finer {d : Dm} {P F : List Nat} {n : Nat} (h : Seen d P F n) : Finer d (pa P) (pa F) := by
  obtain ⟨l, hd, _, hl, _⟩ := h.ex
  intro x hx y hy
  rw [← sgOf_eq]
  constructor
  · intro e
    have h1 := hl x hx
    have h2 := hl y hy
    rw [e, h2] at h1
    exact (Option.some.inj h1).symm
  · intro e
    have h1 := hl x hx
    have h2 := hl y hy
    rw [e] at h1
    exact nodup_idx hd h1 h2
theorem Seen.many {d : Dm} {P F : List Nat} {n : Nat} (h : Seen d P F n) : cnt (items d) (pa F) = n := by
  obtain ⟨l, hd, hn, hl, ha⟩ := h.ex
  obtain ⟨_, n1, m1⟩ := uniq_spec ((items d).map (pa F)) [] (by simp)
  unfold cnt
  refine Nat.le_antisymm ?_ ?_
  · have : (uniq [] ((items d).map (pa F))).length ≤ (List.range n).length := few_of n1 fun i hi => by
      rcases (m1 i).1 hi with hi | hi
      · cases hi
      · obtain ⟨x, hx, rfl⟩ := List.mem_map.1 hi
        rw [List.mem_range, hn]
        exact (List.getElem?_eq_some_iff.1 (hl x hx)).1
    simpa using this
  · have : (List.range n).length ≤ (uniq [] ((items d).map (pa F))).length := few_of List.nodup_range fun i hi => by
      rw [List.mem_range, hn] at hi
      obtain ⟨x, hx, e⟩ := ha l[i] (List.getElem_mem hi)
      refine (m1 i).2 (.inr (List.mem_map.2 ⟨x, hx, ?_⟩))
      refine nodup_idx hd (hl x hx) ?_
      rw [e, List.getElem?_eq_getElem hi]
    simpa using this
theorem cnt_le {α β : Type} [DecidableEq β] (l : List α) (f : α → β) : cnt l f ≤ l.length := by
  obtain ⟨_, n1, m1⟩ := uniq_spec (l.map f) [] (by simp)
  have := few_of n1 (M := l.map f) fun x hx => by
    rcases (m1 x).1 hx with h | h
    · cases h
    · exact h
  simpa [cnt] using this
theorem cnt_mono {α β γ : Type} [DecidableEq β] [DecidableEq γ] {items : List α} {f : α → β} {p : α → γ} (hfp : ∀ x ∈ items, ∀ y ∈ items, f x = f y → p x = p y) : cnt items p ≤ cnt items f := by
  obtain ⟨_, n1, m1⟩ := uniq_spec (items.map f) [] (by simp)
  obtain ⟨_, n2, m2⟩ := uniq_spec (items.map p) [] (by simp)
  cases hi : items with
  | nil => simp [cnt, uniq]
  | cons x0 rest =>
    have hx0 : x0 ∈ items := by rw [hi]; exact List.mem_cons_self
    rw [← hi]
    have hex : ∀ v, ∃ c, ∀ z ∈ items, f z = v → p z = c := fun v => by
      by_cases h : ∃ z ∈ items, f z = v
      · obtain ⟨z, hz, e⟩ := h
        exact ⟨p z, fun z' hz' e' => hfp z' hz' z hz (e'.trans e.symm)⟩
      · exact ⟨p x0, fun z hz e => absurd ⟨z, hz, e⟩ h⟩
    obtain ⟨φ, hφ⟩ := Classical.axiomOfChoice hex
    have hcov : ∀ v ∈ uniq [] (items.map p), v ∈ (uniq [] (items.map f)).map φ := by
      intro v hv
      obtain ⟨z, hz, rfl⟩ : ∃ z ∈ items, p z = v := by
        rcases (m2 v).1 hv with h | h
        · cases h
        · obtain ⟨z, hz, e⟩ := List.mem_map.1 h; exact ⟨z, hz, e⟩
      exact List.mem_map.2 ⟨f z, (m1 _).2 (.inr (List.mem_map.2 ⟨z, hz, rfl⟩)), (hφ (f z) z hz rfl).symm⟩
    have := few_of n2 hcov
    simpa [cnt] using this
theorem items_len (d : Dm) : (items d).length = d.n + 1 := by simp [items]
theorem Seen.le {d : Dm} {P F : List Nat} {n : Nat} (h : Seen d P F n) : n ≤ d.n + 1 := by
  rw [← h.many, ← items_len]
  exact cnt_le _ _
theorem Seen.pos {d : Dm} {P F : List Nat} {n : Nat} (h : Seen d P F n) : 0 < n := by
  obtain ⟨l, hd, hn, hl, ha⟩ := h.ex
  rw [hn]
  have := (List.getElem?_eq_some_iff.1 (hl none (none_items d))).1
  omega
theorem Seen.lt {d : Dm} {P F : List Nat} {n : Nat} (h : Seen d P F n) {x : Option Nat} (hx : x ∈ items d) : pa F x < n := by
  obtain ⟨l, hd, hn, hl, ha⟩ := h.ex
  rw [hn]
  exact (List.getElem?_eq_some_iff.1 (hl x hx)).1
theorem Seen.grow {d : Dm} {P F : List Nat} {n : Nat} (h : Seen d P F n) : cnt (items d) (pa P) ≤ n := by
  rw [← h.many]
  exact cnt_mono fun x hx y hy e => ((h.finer x hx y hy).1 e).1
theorem Seen.part {d : Dm} (hd : d.ok) {P F : List Nat} {n : Nat} (h : Seen d P F n) (hp : Part d (pa P)) : Part d (pa F) := hp.finer hd h.finer
theorem Seen.lab {d : Dm} (hd : d.ok) {P F : List Nat} {n : Nat} (h : Seen d P F n) (hp : Part d (pa P)) (hc : cnt (items d) (pa P) = n) : Lab d (pa F) :=
  ⟨hp.done hd h.finer (by rw [h.many, hc]), h.zero, fun x hx => Nat.lt_of_lt_of_le (h.lt hx) h.le⟩
/-- at the beginning two parts: what accepts, and the rest -/
theorem part_start {d : Dm} {P : List Nat} (h0 : pa P none = 0) (hs : ∀ s, s < d.n → pa P (some s) = if d.acc s then 1 else 0) : Part d (pa P) := by
  have key : ∀ x ∈ items d, pa P x = if d.accO x then 1 else 0 := fun x hx => by
    cases x with
    | none => rw [h0]; rfl
    | some s => exact hs s (mem_items.1 hx s rfl)
  refine ⟨fun x hx y hy e => ?_, fun x hx y hy e => ?_⟩
  · have : d.accO x = d.accO y := congrFun e []
    rw [key x hx, key y hy, this]
  · rw [key x hx, key y hy] at e
    cases h1 : d.accO x <;> cases h2 : d.accO y <;> rw [h1, h2] at e <;> simp at e ⊢
end Go.Proofs.Ytkdkibnjfgcppaa.mi
