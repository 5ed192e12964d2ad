/-
  Texts put together: Plain mathematics: automata by the languages of their states: the walk over languages, in the one order that there is, and what is made of it. Plain mathematics: an automaton by bytes, the languages of its states; what is made of a language takes just that; parts that are parted again till nothing more is parted are the languages. Plain mathematics: the walk over states by the numbers of their parts is the walk over languages; classes, row by row.
-/
import Init.Data.List.Lemmas
namespace Go.Proofs.Ytkdkibnjfgcppaa.mi
set_option linter.unusedVariables false
open Classical

/-- what is taken from a state on -/
abbrev Lg := List UInt8 → Bool
def dv (L : Lg) (b : UInt8) : Lg := fun w => L (b :: w)
def Live (L : Lg) : Prop := ∃ w, L w = true
def nil : Lg := fun _ => false
theorem live_nil : ¬ Live nil := fun ⟨w, h⟩ => by cases h
theorem not_live {L : Lg} : ¬ Live L ↔ L = nil := by
  constructor
  · intro h
    funext w
    exact Bool.eq_false_iff.2 fun hw => h ⟨w, hw⟩
  · rintro rfl; exact live_nil
/-- a number's byte -/
abbrev by8 (b : Nat) : UInt8 := UInt8.ofNat b

/-- a language is met -/
noncomputable def met (sts : List Lg) (L : Lg) : List Lg × Int := if Live L then (if L ∈ sts then (sts, (sts.findIdx fun x => decide (x = L) : Nat)) else (sts ++ [L], (sts.length : Int))) else (sts, -1)
theorem met_dead {sts : List Lg} {L : Lg} (h : ¬ Live L) : met sts L = (sts, -1) := by unfold met; rw [if_neg h]
theorem met_old {sts : List Lg} {L : Lg} (h : Live L) (hm : L ∈ sts) : met sts L = (sts, ((sts.findIdx fun x => decide (x = L) : Nat) : Int)) := by unfold met; rw [if_pos h, if_pos hm]
theorem met_new {sts : List Lg} {L : Lg} (h : Live L) (hm : L ∉ sts) : met sts L = (sts ++ [L], (sts.length : Int)) := by unfold met; rw [if_pos h, if_neg hm]
/-- what stands for a language -/
def Ent (sts : List Lg) (L : Lg) (n : Int) : Prop := (¬ Live L ∧ n = -1) ∨ (Live L ∧ ∃ j : Nat, n = j ∧ sts[j]? = some L)
theorem Ent.mono {sts sts' : List Lg} {L : Lg} {n : Int} (h : Ent sts L n) (hp : sts <+: sts') : Ent sts' L n := by
  rcases h with h | ⟨h1, j, e, hj⟩
  · exact .inl h
  · obtain ⟨t, rfl⟩ := hp
    exact .inr ⟨h1, j, e, by rw [List.getElem?_append_left (List.getElem?_eq_some_iff.1 hj).1]; exact hj⟩
theorem idx_at {sts : List Lg} {L : Lg} (hm : L ∈ sts) : sts[sts.findIdx fun x => decide (x = L)]? = some L := by
  have h1 : sts.findIdx (fun x => decide (x = L)) < sts.length := List.findIdx_lt_length_of_exists ⟨L, hm, by simp⟩
  rw [List.getElem?_eq_getElem h1]
  have := List.findIdx_getElem (xs := sts) (p := fun x => decide (x = L)) (w := h1)
  simp at this
  rw [this]
/-- where it stands, if no other one does -/
theorem idx_is {sts : List Lg} (hd : sts.Nodup) {L : Lg} {j : Nat} (hj : sts[j]? = some L) : sts.findIdx (fun x => decide (x = L)) = j := by
  have hm : L ∈ sts := List.mem_of_getElem? hj
  have h1 := idx_at hm
  obtain ⟨a1, e1⟩ := List.getElem?_eq_some_iff.1 h1
  obtain ⟨a2, e2⟩ := List.getElem?_eq_some_iff.1 hj
  have hp := List.pairwise_iff_getElem.1 hd
  rcases Nat.lt_trichotomy (sts.findIdx fun x => decide (x = L)) j with h | h | h
  · exact absurd (e1.trans e2.symm) (hp _ _ a1 a2 h)
  · exact h
  · exact absurd (e2.trans e1.symm) (hp _ _ a2 a1 h)
theorem met_spec (sts : List Lg) (L : Lg) : sts <+: (met sts L).1 ∧ Ent (met sts L).1 L (met sts L).2 ∧ (sts.Nodup → (met sts L).1.Nodup) ∧ ∀ x ∈ (met sts L).1, x ∈ sts ∨ (x = L ∧ Live L) := by
  by_cases h : Live L
  · by_cases hm : L ∈ sts
    · rw [met_old h hm]
      exact ⟨List.prefix_refl _, .inr ⟨h, _, rfl, idx_at hm⟩, fun h => h, fun x hx => .inl hx⟩
    · rw [met_new h hm]
      refine ⟨List.prefix_append _ _, .inr ⟨h, _, rfl, by simp⟩, fun hd => ?_, fun x hx => ?_⟩
      · rw [List.nodup_append]
        exact ⟨hd, by simp, fun a ha b hb e => by rw [List.mem_singleton.1 hb] at e; exact hm (e ▸ ha)⟩
      · rcases List.mem_append.1 hx with hx | hx
        · exact .inl hx
        · exact .inr ⟨List.mem_singleton.1 hx, h⟩
  · rw [met_dead h]
    exact ⟨List.prefix_refl _, .inl ⟨h, rfl⟩, fun h => h, fun x hx => .inl hx⟩
/-- a state is left by its first k bytes -/
noncomputable def rowN (sts : List Lg) (L : Lg) : Nat → List Lg × List Int
  | 0 => (sts, [])
  | k + 1 => ((met (rowN sts L k).1 (dv L (by8 k))).1, (rowN sts L k).2 ++ [(met (rowN sts L k).1 (dv L (by8 k))).2])
theorem rowN_len (sts : List Lg) (L : Lg) (k : Nat) : (rowN sts L k).2.length = k := by
  induction k with
  | zero => rfl
  | succ k ih => simp [rowN, ih]
theorem rowN_spec (sts : List Lg) (L : Lg) (k : Nat) : sts <+: (rowN sts L k).1 ∧ (∀ b, b < k → ∃ n, (rowN sts L k).2[b]? = some n ∧ Ent (rowN sts L k).1 (dv L (by8 b)) n) ∧ (sts.Nodup → (rowN sts L k).1.Nodup) ∧ ∀ x ∈ (rowN sts L k).1, x ∈ sts ∨ (Live x ∧ ∃ b, b < k ∧ x = dv L (by8 b)) := by
  induction k with
  | zero => exact ⟨List.prefix_refl _, fun b hb => by omega, fun h => h, fun x hx => .inl hx⟩
  | succ k ih =>
    obtain ⟨h1, h2, h3, h4⟩ := ih
    obtain ⟨m1, m2, m3, m4⟩ := met_spec (rowN sts L k).1 (dv L (by8 k))
    have hl := rowN_len sts L k
    refine ⟨h1.trans m1, fun b hb => ?_, fun hd => m3 (h3 hd), fun x hx => ?_⟩
    · simp only [rowN]
      by_cases e : b < k
      · obtain ⟨n, e1, e2⟩ := h2 b e
        exact ⟨n, by rw [List.getElem?_append_left (by omega)]; exact e1, e2.mono m1⟩
      · obtain rfl : b = k := by omega
        exact ⟨_, by rw [List.getElem?_append_right (by omega), hl, Nat.sub_self]; rfl, m2⟩
    · rcases m4 x hx with h | ⟨rfl, h⟩
      · rcases h4 x h with h | ⟨h, b, hb, e⟩
        · exact .inl h
        · exact .inr ⟨h, b, by omega, e⟩
      · exact .inr ⟨h, k, by omega, rfl⟩
/-- so many states are left -/
noncomputable def it (L0 : Lg) : Nat → List Lg × List (List Int)
  | 0 => ([L0], [])
  | k + 1 => match (it L0 k).1[k]? with
    | none => it L0 k
    | some L => ((rowN (it L0 k).1 L 256).1, (it L0 k).2 ++ [(rowN (it L0 k).1 L 256).2])
theorem it_end {L0 : Lg} {k : Nat} (h : (it L0 k).1[k]? = none) : it L0 (k + 1) = it L0 k := by
  show (match (it L0 k).1[k]? with | none => it L0 k | some L => _) = _
  rw [h]
theorem it_next {L0 : Lg} {k : Nat} {L : Lg} (h : (it L0 k).1[k]? = some L) : it L0 (k + 1) = ((rowN (it L0 k).1 L 256).1, (it L0 k).2 ++ [(rowN (it L0 k).1 L 256).2]) := by
  show (match (it L0 k).1[k]? with | none => it L0 k | some L => _) = _
  rw [h]
theorem it_stop {L0 : Lg} {k : Nat} (h : (it L0 k).1.length = k) (j : Nat) : it L0 (k + j) = it L0 k := by
  induction j with
  | zero => rfl
  | succ j ih =>
    have : (it L0 (k + j)).1[k + j]? = none := by rw [ih]; exact List.getElem?_eq_none (by omega)
    rw [← Nat.add_assoc, it_end this, ih]
theorem it_one {L0 : Lg} {k j : Nat} (hk : (it L0 k).1.length = k) (hj : (it L0 j).1.length = j) : it L0 k = it L0 j := by
  rcases Nat.le_total k j with h | h
  · obtain ⟨d, rfl⟩ : ∃ d, j = k + d := ⟨j - k, by omega⟩
    exact (it_stop hk d).symm
  · obtain ⟨d, rfl⟩ : ∃ d, k = j + d := ⟨k - j, by omega⟩
    exact it_stop hj d
structure Wk (L0 : Lg) (sts : List Lg) (rows : List (List Int)) (k : Nat) : Prop where
  first : sts[0]? = some L0
  len : rows.length = k
  le : k ≤ sts.length
  nd : sts.Nodup
  rows : ∀ i, i < k → ∃ L r, sts[i]? = some L ∧ rows[i]? = some r ∧ r.length = 256 ∧ ∀ b, b < 256 → ∃ n, r[b]? = some n ∧ Ent sts (dv L (by8 b)) n
  ins : ∀ x ∈ sts, x = L0 ∨ (Live x ∧ ∃ (L : Lg) (b : Nat), L ∈ sts ∧ b < 256 ∧ x = dv L (by8 b))
theorem pre_get {α : Type} {l l' : List α} (h : l <+: l') {i : Nat} {x : α} (e : l[i]? = some x) : l'[i]? = some x := by
  obtain ⟨t, rfl⟩ := h
  rw [List.getElem?_append_left (List.getElem?_eq_some_iff.1 e).1]; exact e
theorem it_wk (L0 : Lg) : ∀ k, (∀ j, j < k → j < (it L0 j).1.length) → Wk L0 (it L0 k).1 (it L0 k).2 k := by
  intro k
  induction k with
  | zero => exact fun _ => ⟨rfl, rfl, by simp, by simp [it], fun i hi => by omega, fun x hx => .inl (by simpa [it] using hx)⟩
  | succ k ih =>
    intro hj
    have hw := ih (fun j h => hj j (by omega))
    have hk := hj k (by omega)
    have hL := List.getElem?_eq_getElem hk
    obtain ⟨r1, r2, r3, r4⟩ := rowN_spec (it L0 k).1 (it L0 k).1[k] 256
    rw [it_next hL]
    refine ⟨pre_get r1 hw.first, by simp [hw.len], Nat.le_trans hk r1.length_le, r3 hw.nd, fun i hi => ?_, fun x hx => ?_⟩
    · by_cases e : i < k
      · obtain ⟨L, r, e1, e2, e3, e4⟩ := hw.rows i e
        refine ⟨L, r, pre_get r1 e1, by rw [List.getElem?_append_left (by rw [hw.len]; exact e)]; exact e2, e3, fun b hb => ?_⟩
        obtain ⟨n, e5, e6⟩ := e4 b hb
        exact ⟨n, e5, e6.mono r1⟩
      · obtain rfl : i = k := by omega
        exact ⟨_, _, pre_get r1 hL, by rw [List.getElem?_append_right (by rw [hw.len]; exact Nat.le_refl _), hw.len, Nat.sub_self]; rfl, rowN_len _ _ _, r2⟩
    · rcases r4 x hx with h | ⟨h, b, hb, e⟩
      · rcases hw.ins x h with h | ⟨h, L, b, h1, h2, h3⟩
        · exact .inl h
        · exact .inr ⟨h, L, b, r1.subset h1, h2, h3⟩
      · exact .inr ⟨h, _, b, r1.subset (List.getElem_mem hk), hb, e⟩

/-- a column: where all states go by a byte -/
def colOf (rows : List (List Int)) (b : Nat) : List Int := rows.map fun r => r.getD b 0
/-- the least bytes of the classes of the first k bytes -/
def firsts (col : Nat → List Int) : Nat → List Nat
  | 0 => []
  | k + 1 => if (firsts col k).any (fun c => col c == col k) then firsts col k else firsts col k ++ [k]
/-- a byte's class -/
def clsOf (col : Nat → List Int) (k b : Nat) : Nat := (firsts col k).findIdx fun c => col c == col b
theorem firsts_lt (col : Nat → List Int) (k : Nat) : ∀ c ∈ firsts col k, c < k := by
  induction k with
  | zero => intro c hc; cases hc
  | succ k ih =>
    intro c hc
    simp only [firsts] at hc
    split at hc
    · have := ih c hc; omega
    · rcases List.mem_append.1 hc with h | h
      · have := ih c h; omega
      · have := List.mem_singleton.1 h; omega
theorem firsts_len (col : Nat → List Int) (k : Nat) : (firsts col k).length ≤ k := by
  induction k with
  | zero => exact Nat.le_refl _
  | succ k ih =>
    simp only [firsts]
    split
    · omega
    · simp; omega
theorem firsts_pre (col : Nat → List Int) (k j : Nat) (h : k ≤ j) : firsts col k <+: firsts col j := by
  induction j with
  | zero => rw [show k = 0 by omega]; exact List.prefix_refl _
  | succ j ih =>
    by_cases e : k = j + 1
    · subst e; exact List.prefix_refl _
    · refine (ih (by omega)).trans ?_
      simp only [firsts]
      split
      · exact List.prefix_refl _
      · exact List.prefix_append _ _
theorem firsts_has (col : Nat → List Int) {k b : Nat} (h : b < k) : ∃ c ∈ firsts col k, col c = col b := by
  have h1 : ∃ c ∈ firsts col (b + 1), col c = col b := by
    simp only [firsts]
    split
    · rename_i hh
      obtain ⟨c, hc, e⟩ := List.any_eq_true.1 hh
      exact ⟨c, hc, by simpa using e⟩
    · exact ⟨b, by simp, rfl⟩
  obtain ⟨c, hc, e⟩ := h1
  exact ⟨c, (firsts_pre col (b + 1) k h).subset hc, e⟩
theorem cls_at (col : Nat → List Int) {k b : Nat} (h : b < k) : ∃ c, (firsts col k)[clsOf col k b]? = some c ∧ col c = col b := by
  obtain ⟨c, hc, e⟩ := firsts_has col h
  have h1 : clsOf col k b < (firsts col k).length := List.findIdx_lt_length_of_exists ⟨c, hc, by simpa using e⟩
  refine ⟨_, List.getElem?_eq_getElem h1, ?_⟩
  have := List.findIdx_getElem (xs := firsts col k) (p := fun c => col c == col b) (w := h1)
  simp at this
  exact this
/-- the least of a language -/
structure Least (L0 : Lg) (cls : List Nat) (next : List (List Int)) (acc : List Bool) : Prop where
  ex : ∃ K, (it L0 K).1.length = K ∧ cls = (List.range 256).map (clsOf (colOf (it L0 K).2) 256) ∧ next = (it L0 K).2.map (fun r => (firsts (colOf (it L0 K).2) 256).map fun c => r.getD c 0) ∧ acc = (it L0 K).1.map fun L => L []
/-- there is one alone -/
theorem Least.one {L0 : Lg} {c1 c2 : List Nat} {n1 n2 : List (List Int)} {a1 a2 : List Bool} (h : Least L0 c1 n1 a1) (k : Least L0 c2 n2 a2) : c1 = c2 ∧ n1 = n2 ∧ a1 = a2 := by
  obtain ⟨K, h1, rfl, rfl, rfl⟩ := h.ex
  obtain ⟨J, k1, rfl, rfl, rfl⟩ := k.ex
  rw [it_one h1 k1]
  exact ⟨rfl, rfl, rfl⟩
theorem least_of (P : Nat → Prop) : ∀ n, P n → ∃ k, P k ∧ ∀ j, j < k → ¬ P j := by
  intro n
  induction n using Nat.strongRecOn with
  | _ n ih =>
    intro h
    by_cases hx : ∃ j, j < n ∧ P j
    · obtain ⟨j, hj, hp⟩ := hx
      exact ih j hj hp
    · exact ⟨n, h, fun j hj hp => hx ⟨j, hj, hp⟩⟩
/-- the first time that all are left -/
theorem least_K {L0 : Lg} {K : Nat} (h : (it L0 K).1.length = K) : ∃ k, (it L0 k).1.length = k ∧ it L0 k = it L0 K ∧ ∀ j, j < k → j < (it L0 j).1.length := by
  obtain ⟨k, hk, hm'⟩ := least_of (fun k => (it L0 k).1.length ≤ k) K (by show _ ≤ _; omega)
  have hm : ∀ j, j < k → j < (it L0 j).1.length := fun j hj => Nat.lt_of_not_le (hm' j hj)
  have hw := it_wk L0 k hm
  have hl : (it L0 k).1.length = k := Nat.le_antisymm hk hw.le
  exact ⟨k, hl, it_one hl h, hm⟩
end Go.Proofs.Ytkdkibnjfgcppaa.mi

namespace Go.Proofs.Ytkdkibnjfgcppaa.mi
set_option linter.unusedVariables false

structure Dm where
  n : Nat
  go : Nat → UInt8 → Option Nat
  acc : Nat → Bool
def Dm.goO (d : Dm) (x : Option Nat) (b : UInt8) : Option Nat := x.bind fun s => d.go s b
def Dm.accO (d : Dm) (x : Option Nat) : Bool := match x with
  | none => false
  | some s => d.acc s
def Dm.lang (d : Dm) (x : Option Nat) : Lg := fun w => d.accO (w.foldl d.goO x)
theorem lang_dv (d : Dm) (x : Option Nat) (b : UInt8) : dv (d.lang x) b = d.lang (d.goO x b) := rfl
theorem lang_none (d : Dm) : d.lang none = nil := by
  funext w
  show d.accO (w.foldl d.goO none) = false
  have : ∀ w : List UInt8, w.foldl d.goO none = none := fun w => by
    induction w with
    | nil => rfl
    | cons b w ih => exact ih
  rw [this]; rfl
/-- the same language, by what is seen of states -/
theorem lang_of {d e : Dm} (R : Option Nat → Option Nat → Prop) (h1 : ∀ x y, R x y → d.accO x = e.accO y) (h2 : ∀ x y b, R x y → R (d.goO x b) (e.goO y b)) {x y : Option Nat} (h : R x y) : d.lang x = e.lang y := by
  funext w
  show d.accO (w.foldl d.goO x) = e.accO (w.foldl e.goO y)
  induction w generalizing x y with
  | nil => exact h1 x y h
  | cons b w ih => exact ih (h2 x y b h)

/-! what is made of a language -/
def mach (cls : List Nat) (next : List (List Int)) (acc : List Bool) : Dm where
  n := next.length
  go i b := let v := (next.getD i []).getD (cls.getD b.toNat 0) (-1); if 0 ≤ v then some v.toNat else none
  acc i := acc.getD i false
theorem Least.takes {L0 : Lg} {cls : List Nat} {next : List (List Int)} {acc : List Bool} (h : Least L0 cls next acc) : (mach cls next acc).lang (some 0) = L0 ∧ 0 < next.length ∧ acc.length = next.length ∧ cls.length = 256 ∧ (∃ c, (∀ r ∈ next, r.length = c) ∧ (∀ k ∈ cls, k < c) ∧ 0 < c ∧ c ≤ 256) ∧ ∀ r ∈ next, ∀ v ∈ r, -1 ≤ v ∧ v < (next.length : Int) := by
  obtain ⟨K0, hK0, rfl, rfl, rfl⟩ := h.ex
  obtain ⟨K, hK, he, hm⟩ := least_K hK0
  rw [← he]
  clear he hK0 h
  have hw := it_wk L0 K hm
  generalize (it L0 K).1 = sts at *
  generalize (it L0 K).2 = rows at *
  have hrl := hw.len
  have hsub : K = sts.length := hK.symm
  have hpos : 0 < sts.length := (List.getElem?_eq_some_iff.1 hw.first).1
  -- one entry
  have ent : ∀ i, i < K → ∀ b : UInt8, ∃ L n, sts[i]? = some L ∧ ((rows.map fun r => (firsts (colOf rows) 256).map fun c => r.getD c 0).getD i []).getD (((List.range 256).map (clsOf (colOf rows) 256)).getD b.toNat 0) (-1) = n ∧ Ent sts (dv L b) n := by
    intro i hi b
    obtain ⟨L, r, e1, e2, e3, e4⟩ := hw.rows i hi
    obtain ⟨n, e5, e6⟩ := e4 b.toNat b.toNat_lt
    rw [show by8 b.toNat = b from UInt8.ofNat_toNat] at e6
    refine ⟨L, n, e1, ?_, e6⟩
    have hb := b.toNat_lt
    obtain ⟨c, c1, c2⟩ := cls_at (colOf rows) (k := 256) (b := b.toNat) hb
    have hri : r ∈ rows := List.mem_of_getElem? e2
    have hcol : r.getD c 0 = r.getD b.toNat 0 := by
      have := congrArg (fun l : List Int => l[i]?) c2
      simpa [colOf, e2] using this
    have h1 : ((List.range 256).map (clsOf (colOf rows) 256)).getD b.toNat 0 = clsOf (colOf rows) 256 b.toNat := by
      rw [List.getD_eq_getElem?_getD, List.getElem?_map, List.getElem?_range hb, Option.map_some, Option.getD_some]
    rw [h1]
    rw [List.getD_eq_getElem?_getD, List.getD_eq_getElem?_getD, List.getElem?_map, e2]
    simp only [Option.map_some, Option.getD_some, List.getElem?_map, c1]
    rw [hcol, List.getD_eq_getElem?_getD, e5]
    rfl
  have hlive : ∀ {L : Lg} {j : Nat}, sts[j]? = some L → j < K := fun {L j} h => by rw [hsub]; exact (List.getElem?_eq_some_iff.1 h).1
  refine ⟨?_, by simp; omega, by simp; omega, by simp, ⟨(firsts (colOf rows) 256).length, ?_, ?_, ?_, firsts_len _ _⟩, ?_⟩
  · -- the language
    have key : ∀ (w : List UInt8) (i : Nat) (L : Lg), sts[i]? = some L → (mach ((List.range 256).map (clsOf (colOf rows) 256)) (rows.map fun r => (firsts (colOf rows) 256).map fun c => r.getD c 0) (sts.map fun L => L [])).lang (some i) w = L w := by
      intro w
      induction w with
      | nil =>
        intro i L hi
        show (sts.map fun L => L []).getD i false = L []
        rw [List.getD_eq_getElem?_getD, List.getElem?_map, hi]; rfl
      | cons b w ih =>
        intro i L hi
        obtain ⟨L', n, e1, e2, e3⟩ := ent i (hlive hi) b
        rw [hi] at e1
        obtain rfl := Option.some.inj e1
        show (mach _ _ _).lang ((mach _ _ _).goO (some i) b) w = L (b :: w)
        have hgo : (mach ((List.range 256).map (clsOf (colOf rows) 256)) (rows.map fun r => (firsts (colOf rows) 256).map fun c => r.getD c 0) (sts.map fun L => L [])).goO (some i) b = if 0 ≤ n then some n.toNat else none := by
          show (if 0 ≤ _ then some _ else none) = _
          rw [e2]
        rw [hgo]
        rcases e3 with ⟨hd, rfl⟩ | ⟨hd, j, rfl, hj⟩
        · rw [if_neg (by omega), lang_none]
          have := congrFun (not_live.1 hd) w
          exact this.symm
        · rw [if_pos (by omega), Int.toNat_natCast]
          exact ih j (dv L b) hj
    funext w
    exact key w 0 L0 hw.first
  · intro r hr
    obtain ⟨r0, _, rfl⟩ := List.mem_map.1 hr
    simp
  · intro k hk
    obtain ⟨b, hb, rfl⟩ := List.mem_map.1 hk
    obtain ⟨c, c1, _⟩ := cls_at (colOf rows) (k := 256) (b := b) (List.mem_range.1 hb)
    exact (List.getElem?_eq_some_iff.1 c1).1
  · obtain ⟨c, c1, _⟩ := firsts_has (colOf rows) (k := 256) (b := 0) (by omega)
    exact List.length_pos_of_mem c1
  · intro r hr v hv
    obtain ⟨r0, hr0, rfl⟩ := List.mem_map.1 hr
    obtain ⟨c, hc, rfl⟩ := List.mem_map.1 hv
    obtain ⟨i, hi, e⟩ := List.mem_iff_getElem.1 hr0
    obtain ⟨L, r, e1, e2, e3, e4⟩ := hw.rows i (by omega)
    rw [List.getElem?_eq_getElem hi, e] at e2
    obtain rfl := Option.some.inj e2
    obtain ⟨n, e5, e6⟩ := e4 c (firsts_lt _ _ c hc)
    rw [List.getD_eq_getElem?_getD, e5, List.length_map, hrl]
    show -1 ≤ n ∧ n < (K : Int)
    rcases e6 with ⟨_, rfl⟩ | ⟨_, j, rfl, hj⟩
    · omega
    · have := hlive hj
      omega

/-! parts -/
/-- those that differ, as they are met first -/
def uniq {α : Type} [DecidableEq α] : List α → List α → List α
  | acc, [] => acc
  | acc, x :: l => uniq (if x ∈ acc then acc else acc ++ [x]) l
section
variable {α : Type} [DecidableEq α]
theorem uniq_spec : ∀ (l acc : List α), acc.Nodup → acc <+: uniq acc l ∧ (uniq acc l).Nodup ∧ ∀ x, x ∈ uniq acc l ↔ x ∈ acc ∨ x ∈ l := by
  intro l
  induction l with
  | nil => intro acc h; exact ⟨List.prefix_refl _, h, fun x => by simp [uniq]⟩
  | cons y l ih =>
    intro acc h
    simp only [uniq]
    by_cases hy : y ∈ acc
    · rw [if_pos hy]
      obtain ⟨h1, h2, h3⟩ := ih acc h
      refine ⟨h1, h2, fun x => (h3 x).trans ?_⟩
      constructor
      · rintro (h | h)
        · exact .inl h
        · exact .inr (List.mem_cons_of_mem _ h)
      · rintro (h | h)
        · exact .inl h
        · rcases List.mem_cons.1 h with rfl | h
          · exact .inl hy
          · exact .inr h
    · rw [if_neg hy]
      obtain ⟨h1, h2, h3⟩ := ih (acc ++ [y]) (by
        rw [List.nodup_append]
        exact ⟨h, by simp, fun a ha b hb e => by rw [List.mem_singleton.1 hb] at e; exact hy (e ▸ ha)⟩)
      refine ⟨(List.prefix_append _ _).trans h1, h2, fun x => (h3 x).trans ?_⟩
      rw [show x ∈ acc ++ [y] ↔ x ∈ acc ∨ x = y by simp, List.mem_cons]
      constructor
      · rintro ((h | h) | h)
        · exact .inl h
        · exact .inr (.inl h)
        · exact .inr (.inr h)
      · rintro (h | h | h)
        · exact .inl (.inl h)
        · exact .inl (.inr h)
        · exact .inr h
theorem few_of : ∀ {L M : List α}, L.Nodup → (∀ a ∈ L, a ∈ M) → L.length ≤ M.length
  | [], M, _, _ => Nat.zero_le _
  | x :: L, M, hd, hs => by
    have hx := hs x (List.mem_cons_self ..)
    have h1 := few_of (L := L) (M := M.erase x) (List.nodup_cons.1 hd).2 (fun b hb => (List.mem_erase_of_ne (fun (e : b = x) => (List.nodup_cons.1 hd).1 (by rw [← e]; exact hb))).2 (hs b (List.mem_cons_of_mem _ hb)))
    have h2 := List.length_erase_of_mem hx
    have h3 := List.length_pos_of_mem hx
    rw [List.length_cons]
    omega
end
/-- how many values there are -/
def cnt {α β : Type} [DecidableEq β] (items : List α) (f : α → β) : Nat := (uniq [] (items.map f)).length
/-- a parting that is finer, but has no more parts, parts nothing -/
theorem same_count {α β γ : Type} [DecidableEq β] [DecidableEq γ] {items : List α} {f : α → β} {p : α → γ} (hfp : ∀ x ∈ items, ∀ y ∈ items, f x = f y → p x = p y) (hc : cnt items f = cnt items p) : ∀ x ∈ items, ∀ y ∈ items, p x = p y → f x = f y := by
  intro x hx y hy hp
  refine Decidable.byContradiction fun hne => ?_
  obtain ⟨_, n1, m1⟩ := uniq_spec (items.map f) [] (by simp)
  obtain ⟨_, n2, m2⟩ := uniq_spec (items.map p) [] (by simp)
  -- a value of p for each value of f
  have hex : ∀ v, ∃ c, ∀ z ∈ items, f z = v → p z = c := fun v => by
    by_cases h : ∃ z ∈ items, f z = v
    · obtain ⟨z, hz, e⟩ := h
      exact ⟨p z, fun z' hz' e' => hfp z' hz' z hz (e'.trans e.symm)⟩
    · exact ⟨p x, fun z hz e => absurd ⟨z, hz, e⟩ h⟩
  obtain ⟨φ, hφ⟩ := Classical.axiomOfChoice hex
  have hmem : f x ∈ uniq [] (items.map f) := (m1 _).2 (.inr (List.mem_map.2 ⟨x, hx, rfl⟩))
  have hcov : ∀ v ∈ uniq [] (items.map p), v ∈ ((uniq [] (items.map f)).erase (f x)).map φ := by
    intro v hv
    obtain ⟨z, hz, rfl⟩ : ∃ z ∈ items, p z = v := by
      rcases (m2 v).1 hv with h | h
      · cases h
      · obtain ⟨z, hz, e⟩ := List.mem_map.1 h; exact ⟨z, hz, e⟩
    by_cases e : f z = f x
    · refine List.mem_map.2 ⟨f y, (List.mem_erase_of_ne (fun h => hne h.symm)).2 ((m1 _).2 (.inr (List.mem_map.2 ⟨y, hy, rfl⟩))), ?_⟩
      rw [← hφ (f y) y hy rfl, ← hp]
      exact (hfp z hz x hx e).symm
    · exact List.mem_map.2 ⟨f z, (List.mem_erase_of_ne e).2 ((m1 _).2 (.inr (List.mem_map.2 ⟨z, hz, rfl⟩))), (hφ (f z) z hz rfl).symm⟩
  have h1 := few_of n2 hcov
  rw [List.length_map, List.length_erase_of_mem hmem] at h1
  have h2 := List.length_pos_of_mem hmem
  unfold cnt at hc
  omega
/-- the states, and none ahead of them -/
def items (d : Dm) : List (Option Nat) := none :: (List.range d.n).map some
def Dm.ok (d : Dm) : Prop := ∀ s, s < d.n → ∀ b t, d.go s b = some t → t < d.n
theorem mem_items {d : Dm} {x : Option Nat} : x ∈ items d ↔ ∀ s, x = some s → s < d.n := by
  unfold items
  rw [List.mem_cons, List.mem_map]
  constructor
  · rintro (rfl | ⟨s, hs, rfl⟩) t e
    · cases e
    · cases e; exact List.mem_range.1 hs
  · intro h
    cases x with
    | none => exact .inl rfl
    | some s => exact .inr ⟨s, List.mem_range.2 (h s rfl), rfl⟩
theorem go_items {d : Dm} (hd : d.ok) {x : Option Nat} (hx : x ∈ items d) (b : UInt8) : d.goO x b ∈ items d := by
  rw [mem_items] at hx ⊢
  intro t e
  cases x with
  | none => cases e
  | some s => exact hd s (hx s rfl) b t e
/-- a parting that keeps the languages together, and tells what accepts -/
structure Part (d : Dm) (p : Option Nat → Nat) : Prop where
  keep : ∀ x ∈ items d, ∀ y ∈ items d, d.lang x = d.lang y → p x = p y
  tell : ∀ x ∈ items d, ∀ y ∈ items d, p x = p y → d.accO x = d.accO y
/-- parted again by where one goes -/
def Finer (d : Dm) (p f : Option Nat → Nat) : Prop := ∀ x ∈ items d, ∀ y ∈ items d, f x = f y ↔ p x = p y ∧ ∀ b : UInt8, p (d.goO x b) = p (d.goO y b)
theorem Part.finer {d : Dm} (hd : d.ok) {p f : Option Nat → Nat} (h : Part d p) (hf : Finer d p f) : Part d f :=
  ⟨fun x hx y hy e => (hf x hx y hy).2 ⟨h.keep x hx y hy e, fun b => h.keep _ (go_items hd hx b) _ (go_items hd hy b) (by rw [← lang_dv, ← lang_dv, e])⟩, fun x hx y hy e => h.tell x hx y hy ((hf x hx y hy).1 e).1⟩
theorem Part.done {d : Dm} (hd : d.ok) {p f : Option Nat → Nat} (h : Part d p) (hf : Finer d p f) (hc : cnt (items d) f = cnt (items d) p) : ∀ x ∈ items d, ∀ y ∈ items d, f x = f y ↔ d.lang x = d.lang y := by
  have hs := same_count (fun x hx y hy e => ((hf x hx y hy).1 e).1) hc
  intro x hx y hy
  constructor
  · intro e
    refine lang_of (R := fun x y => x ∈ items d ∧ y ∈ items d ∧ f x = f y) (fun x y hh => (h.finer hd hf).tell x hh.1 y hh.2.1 hh.2.2) (fun x y b hh => ⟨go_items hd hh.1 b, go_items hd hh.2.1 b, ?_⟩) ⟨hx, hy, e⟩
    exact hs _ (go_items hd hh.1 b) _ (go_items hd hh.2.1 b) (((hf x hh.1 y hh.2.1).1 hh.2.2).2 b)
  · exact (h.finer hd hf).keep x hx y hy
end Go.Proofs.Ytkdkibnjfgcppaa.mi

namespace Go.Proofs.Ytkdkibnjfgcppaa.mi
set_option linter.unusedVariables false
open Classical

/-- parts that are the languages -/
structure Lab (d : Dm) (f : Option Nat → Nat) : Prop where
  iff : ∀ x ∈ items d, ∀ y ∈ items d, f x = f y ↔ d.lang x = d.lang y
  zero : f none = 0
  lt : ∀ x ∈ items d, f x < d.n + 1
theorem none_items (d : Dm) : none ∈ items d := by unfold items; exact List.mem_cons_self
theorem Lab.dead {d : Dm} {f : Option Nat → Nat} (h : Lab d f) {x : Option Nat} (hx : x ∈ items d) : f x = 0 ↔ ¬ Live (d.lang x) := by
  rw [not_live, ← lang_none d, ← h.zero]
  exact h.iff x hx none (none_items d)
/-- the numbers that parts have got -/
structure Num (d : Dm) (f : Option Nat → Nat) (sts : List Lg) (nums : List Int) : Prop where
  len : nums.length = d.n + 1
  at' : ∀ x ∈ items d, ∃ v, nums[f x]? = some v ∧ ((v = -1 ∧ (¬ Live (d.lang x) ∨ d.lang x ∉ sts)) ∨ ∃ j : Nat, v = j ∧ Live (d.lang x) ∧ sts[j]? = some (d.lang x))
theorem Num.no {d : Dm} {f : Option Nat → Nat} {sts : List Lg} {nums : List Int} (hl : Lab d f) (h : Num d f sts nums) {x : Option Nat} (hx : x ∈ items d) (h0 : f x = 0) : met sts (d.lang x) = (sts, -1) ∧ nums[f x]? = some (-1) := by
  have hd := (hl.dead hx).1 h0
  refine ⟨met_dead hd, ?_⟩
  obtain ⟨v, e, h | ⟨j, _, h, _⟩⟩ := h.at' x hx
  · rw [e, h.1]
  · exact absurd h hd
theorem Num.old {d : Dm} {f : Option Nat → Nat} {sts : List Lg} {nums : List Int} (hl : Lab d f) (h : Num d f sts nums) (hnd : sts.Nodup) {x : Option Nat} (hx : x ∈ items d) (h0 : f x ≠ 0) {v : Int} (hv : nums[f x]? = some v) (hn : v ≠ -1) : met sts (d.lang x) = (sts, v) := by
  have hd : Live (d.lang x) := Classical.byContradiction fun hc => h0 ((hl.dead hx).2 hc)
  obtain ⟨v', e, h | ⟨j, e2, h, hj⟩⟩ := h.at' x hx
  · rw [hv] at e
    exact absurd ((Option.some.inj e).trans h.1) hn
  · rw [hv] at e
    rw [met_old hd (List.mem_of_getElem? hj), idx_is hnd hj, Option.some.inj e, e2]
theorem Num.new {d : Dm} {f : Option Nat → Nat} {sts : List Lg} {nums : List Int} (hl : Lab d f) (h : Num d f sts nums) {x : Option Nat} (hx : x ∈ items d) (h0 : f x ≠ 0) (hv : nums[f x]? = some (-1)) : met sts (d.lang x) = (sts ++ [d.lang x], (sts.length : Int)) ∧ Num d f (sts ++ [d.lang x]) (nums.set (f x) (sts.length : Int)) := by
  have hd : Live (d.lang x) := Classical.byContradiction fun hc => h0 ((hl.dead hx).2 hc)
  have hm : d.lang x ∉ sts := by
    obtain ⟨v', e, h | ⟨j, e2, h, hj⟩⟩ := h.at' x hx
    · exact h.2.resolve_left (fun hc => hc hd)
    · rw [hv] at e
      have := Option.some.inj e
      omega
  refine ⟨met_new hd hm, by simp [h.len], fun y hy => ?_⟩
  by_cases e : f y = f x
  · have el := (hl.iff y hy x hx).1 e
    refine ⟨(sts.length : Int), ?_, .inr ⟨sts.length, rfl, by rw [el]; exact hd, by rw [el]; simp⟩⟩
    rw [e, List.getElem?_set_self (by rw [h.len]; exact hl.lt x hx)]
  · have ne : d.lang y ≠ d.lang x := fun hc => e ((hl.iff y hy x hx).2 hc)
    obtain ⟨v, e1, hh⟩ := h.at' y hy
    refine ⟨v, by rw [List.getElem?_set_ne (fun hc => e hc.symm)]; exact e1, ?_⟩
    rcases hh with ⟨h1, h2⟩ | ⟨j, h1, h2, h3⟩
    · refine .inl ⟨h1, h2.imp id fun hc hm => ?_⟩
      rcases List.mem_append.1 hm with hm | hm
      · exact hc hm
      · exact ne (List.mem_singleton.1 hm)
    · exact .inr ⟨j, h1, h2, by rw [List.getElem?_append_left (List.getElem?_eq_some_iff.1 h3).1]; exact h3⟩
/-- at the beginning state 0 alone stands -/
theorem num_start {d : Dm} {f : Option Nat → Nat} (hl : Lab d f) (hn : 0 < d.n) : Num d f [d.lang (some 0)] (if f (some 0) = 0 then List.replicate (d.n + 1) (-1) else (List.replicate (d.n + 1) (-1)).set (f (some 0)) 0) := by
  have h0 : (some 0 : Option Nat) ∈ items d := mem_items.2 fun s e => by cases e; exact hn
  by_cases hz : f (some 0) = 0
  · rw [if_pos hz]
    have hd := (hl.dead h0).1 hz
    refine ⟨by simp, fun x hx => ⟨-1, by rw [List.getElem?_replicate, if_pos (hl.lt x hx)], .inl ⟨rfl, ?_⟩⟩⟩
    by_cases hx2 : Live (d.lang x)
    · exact .inr fun hm => hd (by rw [List.mem_singleton.1 hm] at hx2; exact hx2)
    · exact .inl hx2
  · rw [if_neg hz]
    have hd : Live (d.lang (some 0)) := Classical.byContradiction fun hc => hz ((hl.dead h0).2 hc)
    refine ⟨by simp, fun x hx => ?_⟩
    by_cases e : f x = f (some 0)
    · have el := (hl.iff x hx _ h0).1 e
      exact ⟨0, by rw [e, List.getElem?_set_self (by simp; exact hl.lt _ h0)], .inr ⟨0, rfl, by rw [el]; exact hd, by rw [el]; rfl⟩⟩
    · refine ⟨-1, by rw [List.getElem?_set_ne (fun hc => e hc.symm), List.getElem?_replicate, if_pos (hl.lt x hx)], .inl ⟨rfl, .inr fun hm => e ((hl.iff x hx _ h0).2 (List.mem_singleton.1 hm))⟩⟩

/-! classes, row by row -/
theorem find_pre {α : Type} {p : α → Bool} {l l' : List α} (h : l <+: l') (hx : ∃ x ∈ l, p x = true) : l'.findIdx p = l.findIdx p := by
  obtain ⟨t, rfl⟩ := h
  rw [List.findIdx_append, if_pos (List.findIdx_lt_length_of_exists hx)]
theorem cls_pre (col : Nat → List Int) {k j b : Nat} (hb : b < k) (hk : k ≤ j) : clsOf col j b = clsOf col k b := by
  obtain ⟨c, hc, e⟩ := firsts_has col hb
  exact find_pre (firsts_pre col k j hk) ⟨c, hc, by simpa using e⟩
/-- the number that a byte gets: that of its like, or a new one -/
theorem cls_new (col : Nat → List Int) (b : Nat) : clsOf col (b + 1) b = if (firsts col b).any (fun c => col c == col b) then (firsts col b).findIdx (fun c => col c == col b) else (firsts col b).length := by
  unfold clsOf
  simp only [firsts]
  split
  · rfl
  · rename_i h
    rw [List.findIdx_append, if_neg]
    · simp
    · intro hlt
      have := List.findIdx_getElem (w := hlt)
      exact h (List.any_eq_true.2 ⟨_, List.getElem_mem hlt, this⟩)
theorem cls_iff (col : Nat → List Int) {k b c : Nat} (hb : b < k) (hc : c < k) : clsOf col k b = clsOf col k c ↔ col b = col c := by
  constructor
  · intro h
    obtain ⟨x, e1, e2⟩ := cls_at col hb
    obtain ⟨y, e3, e4⟩ := cls_at col hc
    rw [h, e3] at e1
    rw [← e2, ← e4, Option.some.inj e1]
  · intro h
    unfold clsOf
    rw [h]
theorem cls_lt (col : Nat → List Int) {k b : Nat} (hb : b < k) : clsOf col k b < (firsts col k).length := by
  obtain ⟨x, e1, _⟩ := cls_at col hb
  exact (List.getElem?_eq_some_iff.1 e1).1
theorem col_snoc (rows : List (List Int)) (r : List Int) (b c : Nat) : colOf (rows ++ [r]) b = colOf (rows ++ [r]) c ↔ colOf rows b = colOf rows c ∧ r.getD b 0 = r.getD c 0 := by
  simp only [colOf, List.map_append, List.map_cons, List.map_nil]
  constructor
  · intro h
    have h1 := List.append_inj h (by simp)
    exact ⟨h1.1, by simpa using h1.2⟩
  · rintro ⟨h1, h2⟩
    rw [h1, h2]
/-- with no rows there is one class -/
theorem firsts_none : firsts (colOf []) 256 = [0] := by
  have : ∀ k, firsts (colOf []) (k + 1) = [0] := by
    intro k
    induction k with
    | zero => rfl
    | succ k ih =>
      rw [firsts, ih]
      simp [colOf]
  exact this 255
theorem cls_none (b : Nat) : clsOf (colOf []) 256 b = 0 := by
  unfold clsOf
  rw [firsts_none]
  simp [colOf, List.findIdx_cons]
/-- the bytes' ways so far, each once -/
theorem ways_of {col : Nat → List Int} {key : Nat → Int × Int} (hk : ∀ b c, b < 256 → c < 256 → (key b = key c ↔ col b = col c)) {b c : Nat} (hb : b < 256) (hc : c ∈ firsts col b) : (key c = key b) ↔ col c = col b := hk c b (by have := firsts_lt col b c hc; omega) hb
end Go.Proofs.Ytkdkibnjfgcppaa.mi
