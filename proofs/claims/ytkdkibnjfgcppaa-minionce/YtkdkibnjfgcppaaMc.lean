/-
  Plain mathematics: the walk over states by the numbers of their parts is the walk over languages; classes, row by row.
-/
import Derived.Test.YtkdkibnjfgcppaaMb
namespace Go.Proofs.Ytkdkibnjfgcppaa.mi
set_option linter.unusedVariables false
open Classical

/-- parts that are the languages -/
structure Lab (d : Dm) (f : Option Nat → Nat) : Prop where
  iff : ∀ x ∈ items d, ∀ y ∈ items d, f x = f y ↔ d.lang x = d.lang y
  zero : f none = 0
  lt : ∀ x ∈ items d, f x < d.n + 1
theorem none_items (d : Dm) : none ∈ items d := by unfold items; exact List.mem_cons_self
theorem Lab.dead {d : Dm} {f : Option Nat → Nat} (h : Lab d f) {x : Option Nat} (hx : x ∈ items d) : f x = 0 ↔ ¬ Live (d.lang x) := by
  rw [not_live, ← lang_none d, ← h.zero]
  exact h.iff x hx none (none_items d)
/-- the numbers that parts have got -/
structure Num (d : Dm) (f : Option Nat → Nat) (sts : List Lg) (nums : List Int) : Prop where
  len : nums.length = d.n + 1
  at' : ∀ x ∈ items d, ∃ v, nums[f x]? = some v ∧ ((v = -1 ∧ (¬ Live (d.lang x) ∨ d.lang x ∉ sts)) ∨ ∃ j : Nat, v = j ∧ Live (d.lang x) ∧ sts[j]? = some (d.lang x))
theorem Num.no {d : Dm} {f : Option Nat → Nat} {sts : List Lg} {nums : List Int} (hl : Lab d f) (h : Num d f sts nums) {x : Option Nat} (hx : x ∈ items d) (h0 : f x = 0) : met sts (d.lang x) = (sts, -1) ∧ nums[f x]? = some (-1) := by
  have hd := (hl.dead hx).1 h0
  refine ⟨met_dead hd, ?_⟩
  obtain ⟨v, e, h | ⟨j, _, h, _⟩⟩ := h.at' x hx
  · rw [e, h.1]
  · exact absurd h hd
theorem Num.old {d : Dm} {f : Option Nat → Nat} {sts : List Lg} {nums : List Int} (hl : Lab d f) (h : Num d f sts nums) (hnd : sts.Nodup) {x : Option Nat} (hx : x ∈ items d) (h0 : f x ≠ 0) {v : Int} (hv : nums[f x]? = some v) (hn : v ≠ -1) : met sts (d.lang x) = (sts, v) := by
  have hd : Live (d.lang x) := Classical.byContradiction fun hc => h0 ((hl.dead hx).2 hc)
  obtain ⟨v', e, h | ⟨j, e2, h, hj⟩⟩ := h.at' x hx
  · rw [hv] at e
    exact absurd ((Option.some.inj e).trans h.1) hn
  · rw [hv] at e
    rw [met_old hd (List.mem_of_getElem? hj), idx_is hnd hj, Option.some.inj e, e2]
theorem Num.new {d : Dm} {f : Option Nat → Nat} {sts : List Lg} {nums : List Int} (hl : Lab d f) (h : Num d f sts nums) {x : Option Nat} (hx : x ∈ items d) (h0 : f x ≠ 0) (hv : nums[f x]? = some (-1)) : met sts (d.lang x) = (sts ++ [d.lang x], (sts.length : Int)) ∧ Num d f (sts ++ [d.lang x]) (nums.set (f x) (sts.length : Int)) := by
  have hd : Live (d.lang x) := Classical.byContradiction fun hc => h0 ((hl.dead hx).2 hc)
  have hm : d.lang x ∉ sts := by
    obtain ⟨v', e, h | ⟨j, e2, h, hj⟩⟩ := h.at' x hx
    · exact h.2.resolve_left (fun hc => hc hd)
    · rw [hv] at e
      have := Option.some.inj e
      omega
  refine ⟨met_new hd hm, by simp [h.len], fun y hy => ?_⟩
  by_cases e : f y = f x
  · have el := (hl.iff y hy x hx).1 e
    refine ⟨(sts.length : Int), ?_, .inr ⟨sts.length, rfl, by rw [el]; exact hd, by rw [el]; simp⟩⟩
    rw [e, List.getElem?_set_self (by rw [h.len]; exact hl.lt x hx)]
  · have ne : d.lang y ≠ d.lang x := fun hc => e ((hl.iff y hy x hx).2 hc)
    obtain ⟨v, e1, hh⟩ := h.at' y hy
    refine ⟨v, by rw [List.getElem?_set_ne (fun hc => e hc.symm)]; exact e1, ?_⟩
    rcases hh with ⟨h1, h2⟩ | ⟨j, h1, h2, h3⟩
    · refine .inl ⟨h1, h2.imp id fun hc hm => ?_⟩
      rcases List.mem_append.1 hm with hm | hm
      · exact hc hm
      · exact ne (List.mem_singleton.1 hm)
    · exact .inr ⟨j, h1, h2, by rw [List.getElem?_append_left (List.getElem?_eq_some_iff.1 h3).1]; exact h3⟩
/-- at the beginning state 0 alone stands -/
theorem num_start {d : Dm} {f : Option Nat → Nat} (hl : Lab d f) (hn : 0 < d.n) : Num d f [d.lang (some 0)] (if f (some 0) = 0 then List.replicate (d.n + 1) (-1) else (List.replicate (d.n + 1) (-1)).set (f (some 0)) 0) := by
  have h0 : (some 0 : Option Nat) ∈ items d := mem_items.2 fun s e => by cases e; exact hn
  by_cases hz : f (some 0) = 0
  · rw [if_pos hz]
    have hd := (hl.dead h0).1 hz
    refine ⟨by simp, fun x hx => ⟨-1, by rw [List.getElem?_replicate, if_pos (hl.lt x hx)], .inl ⟨rfl, ?_⟩⟩⟩
    by_cases hx2 : Live (d.lang x)
    · exact .inr fun hm => hd (by rw [List.mem_singleton.1 hm] at hx2; exact hx2)
    · exact .inl hx2
  · rw [if_neg hz]
    have hd : Live (d.lang (some 0)) := Classical.byContradiction fun hc => hz ((hl.dead h0).2 hc)
    refine ⟨by simp, fun x hx => ?_⟩
    by_cases e : f x = f (some 0)
    · have el := (hl.iff x hx _ h0).1 e
      exact ⟨0, by rw [e, List.getElem?_set_self (by simp; exact hl.lt _ h0)], .inr ⟨0, rfl, by rw [el]; exact hd, by rw [el]; rfl⟩⟩
    · refine ⟨-1, by rw [List.getElem?_set_ne (fun hc => e hc.symm), List.getElem?_replicate, if_pos (hl.lt x hx)], .inl ⟨rfl, .inr fun hm => e ((hl.iff x hx _ h0).2 (List.mem_singleton.1 hm))⟩⟩

/-! classes, row by row -/
theorem find_pre {α : Type} {p : α → Bool} {l l' : List α} (h : l <+: l') (hx : ∃ x ∈ l, p x = true) : l'.findIdx p = l.findIdx p := by
  obtain ⟨t, rfl⟩ := h
  rw [List.findIdx_append, if_pos (List.findIdx_lt_length_of_exists hx)]
theorem cls_pre (col : Nat → List Int) {k j b : Nat} (hb : b < k) (hk : k ≤ j) : clsOf col j b = clsOf col k b := by
  obtain ⟨c, hc, e⟩ := firsts_has col hb
  exact find_pre (firsts_pre col k j hk) ⟨c, hc, by simpa using e⟩
/-- the number that a byte gets: that of its like, or a new one -/
theorem cls_new (col : Nat → List Int) (b : Nat) : clsOf col (b + 1) b = if (firsts col b).any (fun c => col c == col b) then (firsts col b).findIdx (fun c => col c == col b) else (firsts col b).length := by
  unfold clsOf
  simp only [firsts]
  split
  · rfl
  · rename_i h
    rw [List.findIdx_append, if_neg]
    · simp
    · intro hlt
      have := List.findIdx_getElem (w := hlt)
      exact h (List.any_eq_true.2 ⟨_, List.getElem_mem hlt, this⟩)
theorem cls_iff (col : Nat → List Int) {k b c : Nat} (hb : b < k) (hc : c < k) : clsOf col k b = clsOf col k c ↔ col b = col c := by
  constructor
  · intro h
    obtain ⟨x, e1, e2⟩ := cls_at col hb
    obtain ⟨y, e3, e4⟩ := cls_at col hc
    rw [h, e3] at e1
    rw [← e2, ← e4, Option.some.inj e1]
  · intro h
    unfold clsOf
    rw [h]
theorem cls_lt (col : Nat → List Int) {k b : Nat} (hb : b < k) : clsOf col k b < (firsts col k).length := by
  obtain ⟨x, e1, _⟩ := cls_at col hb
  exact (List.getElem?_eq_some_iff.1 e1).1
theorem col_snoc (rows : List (List Int)) (r : List Int) (b c : Nat) : colOf (rows ++ [r]) b = colOf (rows ++ [r]) c ↔ colOf rows b = colOf rows c ∧ r.getD b 0 = r.getD c 0 := by
  simp only [colOf, List.map_append, List.map_cons, List.map_nil]
  constructor
  · intro h
    have h1 := List.append_inj h (by simp)
    exact ⟨h1.1, by simpa using h1.2⟩
  · rintro ⟨h1, h2⟩
    rw [h1, h2]
/-- with no rows there is one class -/
theorem firsts_none : firsts (colOf []) 256 = [0] := by
  have : ∀ k, firsts (colOf []) (k + 1) = [0] := by
    intro k
    induction k with
    | zero => rfl
    | succ k ih =>
      rw [firsts, ih]
      simp [colOf]
  exact this 255
theorem cls_none (b : Nat) : clsOf (colOf []) 256 b = 0 := by
  unfold clsOf
  rw [firsts_none]
  simp [colOf, List.findIdx_cons]
/-- the bytes' ways so far, each once -/
theorem ways_of {col : Nat → List Int} {key : Nat → Int × Int} (hk : ∀ b c, b < 256 → c < 256 → (key b = key c ↔ col b = col c)) {b c : Nat} (hb : b < 256) (hc : c ∈ firsts col b) : (key c = key b) ↔ col c = col b := hk c b (by have := firsts_lt col b c hc; omega) hb
end Go.Proofs.Ytkdkibnjfgcppaa.mi
