/-
  Plain mathematics: an automaton by bytes, the languages of its states; what is made of a language takes just that; parts that are parted again till nothing more is parted are the languages.
-/
import Derived.Test.YtkdkibnjfgcppaaMa
namespace Go.Proofs.Ytkdkibnjfgcppaa.mi
set_option linter.unusedVariables false

structure Dm where
  n : Nat
  go : Nat → UInt8 → Option Nat
  acc : Nat → Bool
def Dm.goO (d : Dm) (x : Option Nat) (b : UInt8) : Option Nat := x.bind fun s => d.go s b
def Dm.accO (d : Dm) (x : Option Nat) : Bool := match x with
  | none => false
  | some s => d.acc s
def Dm.lang (d : Dm) (x : Option Nat) : Lg := fun w => d.accO (w.foldl d.goO x)
theorem lang_dv (d : Dm) (x : Option Nat) (b : UInt8) : dv (d.lang x) b = d.lang (d.goO x b) := rfl
theorem lang_none (d : Dm) : d.lang none = nil := by
  funext w
  show d.accO (w.foldl d.goO none) = false
  have : ∀ w : List UInt8, w.foldl d.goO none = none := fun w => by
    induction w with
    | nil => rfl
    | cons b w ih => exact ih
  rw [this]; rfl
/-- the same language, by what is seen of states -/
theorem lang_of {d e : Dm} (R : Option Nat → Option Nat → Prop) (h1 : ∀ x y, R x y → d.accO x = e.accO y) (h2 : ∀ x y b, R x y → R (d.goO x b) (e.goO y b)) {x y : Option Nat} (h : R x y) : d.lang x = e.lang y := by
  funext w
  show d.accO (w.foldl d.goO x) = e.accO (w.foldl e.goO y)
  induction w generalizing x y with
  | nil => exact h1 x y h
  | cons b w ih => exact ih (h2 x y b h)

/-! what is made of a language -/
def mach (cls : List Nat) (next : List (List Int)) (acc : List Bool) : Dm where
  n := next.length
  go i b := let v := (next.getD i []).getD (cls.getD b.toNat 0) (-1); if 0 ≤ v then some v.toNat else none
  acc i := acc.getD i false
theorem Least.takes {L0 : Lg} {cls : List Nat} {next : List (List Int)} {acc : List Bool} (h : Least L0 cls next acc) : (mach cls next acc).lang (some 0) = L0 ∧ 0 < next.length ∧ acc.length = next.length ∧ cls.length = 256 ∧ (∃ c, (∀ r ∈ next, r.length = c) ∧ (∀ k ∈ cls, k < c) ∧ 0 < c ∧ c ≤ 256) ∧ ∀ r ∈ next, ∀ v ∈ r, -1 ≤ v ∧ v < (next.length : Int) := by
  obtain ⟨K0, hK0, rfl, rfl, rfl⟩ := h.ex
  obtain ⟨K, hK, he, hm⟩ := least_K hK0
  rw [← he]
  clear he hK0 h
  have hw := it_wk L0 K hm
  generalize (it L0 K).1 = sts at *
  generalize (it L0 K).2 = rows at *
  have hrl := hw.len
  have hsub : K = sts.length := hK.symm
  have hpos : 0 < sts.length := (List.getElem?_eq_some_iff.1 hw.first).1
  -- one entry
  have ent : ∀ i, i < K → ∀ b : UInt8, ∃ L n, sts[i]? = some L ∧ ((rows.map fun r => (firsts (colOf rows) 256).map fun c => r.getD c 0).getD i []).getD (((List.range 256).map (clsOf (colOf rows) 256)).getD b.toNat 0) (-1) = n ∧ Ent sts (dv L b) n := by
    intro i hi b
    obtain ⟨L, r, e1, e2, e3, e4⟩ := hw.rows i hi
    obtain ⟨n, e5, e6⟩ := e4 b.toNat b.toNat_lt
    rw [show by8 b.toNat = b from UInt8.ofNat_toNat] at e6
    refine ⟨L, n, e1, ?_, e6⟩
    have hb := b.toNat_lt
    obtain ⟨c, c1, c2⟩ := cls_at (colOf rows) (k := 256) (b := b.toNat) hb
    have hri : r ∈ rows := List.mem_of_getElem? e2
    have hcol : r.getD c 0 = r.getD b.toNat 0 := by
      have := congrArg (fun l : List Int => l[i]?) c2
      simpa [colOf, e2] using this
    have h1 : ((List.range 256).map (clsOf (colOf rows) 256)).getD b.toNat 0 = clsOf (colOf rows) 256 b.toNat := by
      rw [List.getD_eq_getElem?_getD, List.getElem?_map, List.getElem?_range hb, Option.map_some, Option.getD_some]
    rw [h1]
    rw [List.getD_eq_getElem?_getD, List.getD_eq_getElem?_getD, List.getElem?_map, e2]
    simp only [Option.map_some, Option.getD_some, List.getElem?_map, c1]
    rw [hcol, List.getD_eq_getElem?_getD, e5]
    rfl
  have hlive : ∀ {L : Lg} {j : Nat}, sts[j]? = some L → j < K := fun {L j} h => by rw [hsub]; exact (List.getElem?_eq_some_iff.1 h).1
  refine ⟨?_, by simp; omega, by simp; omega, by simp, ⟨(firsts (colOf rows) 256).length, ?_, ?_, ?_, firsts_len _ _⟩, ?_⟩
  · -- the language
    have key : ∀ (w : List UInt8) (i : Nat) (L : Lg), sts[i]? = some L → (mach ((List.range 256).map (clsOf (colOf rows) 256)) (rows.map fun r => (firsts (colOf rows) 256).map fun c => r.getD c 0) (sts.map fun L => L [])).lang (some i) w = L w := by
      intro w
      induction w with
      | nil =>
        intro i L hi
        show (sts.map fun L => L []).getD i false = L []
        rw [List.getD_eq_getElem?_getD, List.getElem?_map, hi]; rfl
      | cons b w ih =>
        intro i L hi
        obtain ⟨L', n, e1, e2, e3⟩ := ent i (hlive hi) b
        rw [hi] at e1
        obtain rfl := Option.some.inj e1
        show (mach _ _ _).lang ((mach _ _ _).goO (some i) b) w = L (b :: w)
        have hgo : (mach ((List.range 256).map (clsOf (colOf rows) 256)) (rows.map fun r => (firsts (colOf rows) 256).map fun c => r.getD c 0) (sts.map fun L => L [])).goO (some i) b = if 0 ≤ n then some n.toNat else none := by
          show (if 0 ≤ _ then some _ else none) = _
          rw [e2]
        rw [hgo]
        rcases e3 with ⟨hd, rfl⟩ | ⟨hd, j, rfl, hj⟩
        · rw [if_neg (by omega), lang_none]
          have := congrFun (not_live.1 hd) w
          exact this.symm
        · rw [if_pos (by omega), Int.toNat_natCast]
          exact ih j (dv L b) hj
    funext w
    exact key w 0 L0 hw.first
  · intro r hr
    obtain ⟨r0, _, rfl⟩ := List.mem_map.1 hr
    simp
  · intro k hk
    obtain ⟨b, hb, rfl⟩ := List.mem_map.1 hk
    obtain ⟨c, c1, _⟩ := cls_at (colOf rows) (k := 256) (b := b) (List.mem_range.1 hb)
    exact (List.getElem?_eq_some_iff.1 c1).1
  · obtain ⟨c, c1, _⟩ := firsts_has (colOf rows) (k := 256) (b := 0) (by omega)
    exact List.length_pos_of_mem c1
  · intro r hr v hv
    obtain ⟨r0, hr0, rfl⟩ := List.mem_map.1 hr
    obtain ⟨c, hc, rfl⟩ := List.mem_map.1 hv
    obtain ⟨i, hi, e⟩ := List.mem_iff_getElem.1 hr0
    obtain ⟨L, r, e1, e2, e3, e4⟩ := hw.rows i (by omega)
    rw [List.getElem?_eq_getElem hi, e] at e2
    obtain rfl := Option.some.inj e2
    obtain ⟨n, e5, e6⟩ := e4 c (firsts_lt _ _ c hc)
    rw [List.getD_eq_getElem?_getD, e5, List.length_map, hrl]
    show -1 ≤ n ∧ n < (K : Int)
    rcases e6 with ⟨_, rfl⟩ | ⟨_, j, rfl, hj⟩
    · omega
    · have := hlive hj
      omega

/-! parts -/
/-- those that differ, as they are met first -/
def uniq {α : Type} [DecidableEq α] : List α → List α → List α
  | acc, [] => acc
  | acc, x :: l => uniq (if x ∈ acc then acc else acc ++ [x]) l
section
variable {α : Type} [DecidableEq α]
theorem uniq_spec : ∀ (l acc : List α), acc.Nodup → acc <+: uniq acc l ∧ (uniq acc l).Nodup ∧ ∀ x, x ∈ uniq acc l ↔ x ∈ acc ∨ x ∈ l := by
  intro l
  induction l with
  | nil => intro acc h; exact ⟨List.prefix_refl _, h, fun x => by simp [uniq]⟩
  | cons y l ih =>
    intro acc h
    simp only [uniq]
    by_cases hy : y ∈ acc
    · rw [if_pos hy]
      obtain ⟨h1, h2, h3⟩ := ih acc h
      refine ⟨h1, h2, fun x => (h3 x).trans ?_⟩
      constructor
      · rintro (h | h)
        · exact .inl h
        · exact .inr (List.mem_cons_of_mem _ h)
      · rintro (h | h)
        · exact .inl h
        · rcases List.mem_cons.1 h with rfl | h
          · exact .inl hy
          · exact .inr h
    · rw [if_neg hy]
      obtain ⟨h1, h2, h3⟩ := ih (acc ++ [y]) (by
        rw [List.nodup_append]
        exact ⟨h, by simp, fun a ha b hb e => by rw [List.mem_singleton.1 hb] at e; exact hy (e ▸ ha)⟩)
      refine ⟨(List.prefix_append _ _).trans h1, h2, fun x => (h3 x).trans ?_⟩
      rw [show x ∈ acc ++ [y] ↔ x ∈ acc ∨ x = y by simp, List.mem_cons]
      constructor
      · rintro ((h | h) | h)
        · exact .inl h
        · exact .inr (.inl h)
        · exact .inr (.inr h)
      · rintro (h | h | h)
        · exact .inl (.inl h)
        · exact .inl (.inr h)
        · exact .inr h
theorem few_of : ∀ {L M : List α}, L.Nodup → (∀ a ∈ L, a ∈ M) → L.length ≤ M.length
  | [], M, _, _ => Nat.zero_le _
  | x :: L, M, hd, hs => by
    have hx := hs x (List.mem_cons_self ..)
    have h1 := few_of (L := L) (M := M.erase x) (List.nodup_cons.1 hd).2 (fun b hb => (List.mem_erase_of_ne (fun (e : b = x) => (List.nodup_cons.1 hd).1 (by rw [← e]; exact hb))).2 (hs b (List.mem_cons_of_mem _ hb)))
    have h2 := List.length_erase_of_mem hx
    have h3 := List.length_pos_of_mem hx
    rw [List.length_cons]
    omega
end
/-- how many values there are -/
def cnt {α β : Type} [DecidableEq β] (items : List α) (f : α → β) : Nat := (uniq [] (items.map f)).length
/-- a parting that is finer, but has no more parts, parts nothing -/
theorem same_count {α β γ : Type} [DecidableEq β] [DecidableEq γ] {items : List α} {f : α → β} {p : α → γ} (hfp : ∀ x ∈ items, ∀ y ∈ items, f x = f y → p x = p y) (hc : cnt items f = cnt items p) : ∀ x ∈ items, ∀ y ∈ items, p x = p y → f x = f y := by
  intro x hx y hy hp
  refine Decidable.byContradiction fun hne => ?_
  obtain ⟨_, n1, m1⟩ := uniq_spec (items.map f) [] (by simp)
  obtain ⟨_, n2, m2⟩ := uniq_spec (items.map p) [] (by simp)
  -- a value of p for each value of f
  have hex : ∀ v, ∃ c, ∀ z ∈ items, f z = v → p z = c := fun v => by
    by_cases h : ∃ z ∈ items, f z = v
    · obtain ⟨z, hz, e⟩ := h
      exact ⟨p z, fun z' hz' e' => hfp z' hz' z hz (e'.trans e.symm)⟩
    · exact ⟨p x, fun z hz e => absurd ⟨z, hz, e⟩ h⟩
  obtain ⟨φ, hφ⟩ := Classical.axiomOfChoice hex
  have hmem : f x ∈ uniq [] (items.map f) := (m1 _).2 (.inr (List.mem_map.2 ⟨x, hx, rfl⟩))
  have hcov : ∀ v ∈ uniq [] (items.map p), v ∈ ((uniq [] (items.map f)).erase (f x)).map φ := by
    intro v hv
    obtain ⟨z, hz, rfl⟩ : ∃ z ∈ items, p z = v := by
      rcases (m2 v).1 hv with h | h
      · cases h
      · obtain ⟨z, hz, e⟩ := List.mem_map.1 h; exact ⟨z, hz, e⟩
    by_cases e : f z = f x
    · refine List.mem_map.2 ⟨f y, (List.mem_erase_of_ne (fun h => hne h.symm)).2 ((m1 _).2 (.inr (List.mem_map.2 ⟨y, hy, rfl⟩))), ?_⟩
      rw [← hφ (f y) y hy rfl, ← hp]
      exact (hfp z hz x hx e).symm
    · exact List.mem_map.2 ⟨f z, (List.mem_erase_of_ne e).2 ((m1 _).2 (.inr (List.mem_map.2 ⟨z, hz, rfl⟩))), (hφ (f z) z hz rfl).symm⟩
  have h1 := few_of n2 hcov
  rw [List.length_map, List.length_erase_of_mem hmem] at h1
  have h2 := List.length_pos_of_mem hmem
  unfold cnt at hc
  omega
/-- the states, and none ahead of them -/
def items (d : Dm) : List (Option Nat) := none :: (List.range d.n).map some
def Dm.ok (d : Dm) : Prop := ∀ s, s < d.n → ∀ b t, d.go s b = some t → t < d.n
theorem mem_items {d : Dm} {x : Option Nat} : x ∈ items d ↔ ∀ s, x = some s → s < d.n := by
  unfold items
  rw [List.mem_cons, List.mem_map]
  constructor
  · rintro (rfl | ⟨s, hs, rfl⟩) t e
    · cases e
    · cases e; exact List.mem_range.1 hs
  · intro h
    cases x with
    | none => exact .inl rfl
    | some s => exact .inr ⟨s, List.mem_range.2 (h s rfl), rfl⟩
theorem go_items {d : Dm} (hd : d.ok) {x : Option Nat} (hx : x ∈ items d) (b : UInt8) : d.goO x b ∈ items d := by
  rw [mem_items] at hx ⊢
  intro t e
  cases x with
  | none => cases e
  | some s => exact hd s (hx s rfl) b t e
/-- a parting that keeps the languages together, and tells what accepts -/
structure Part (d : Dm) (p : Option Nat → Nat) : Prop where
  keep : ∀ x ∈ items d, ∀ y ∈ items d, d.lang x = d.lang y → p x = p y
  tell : ∀ x ∈ items d, ∀ y ∈ items d, p x = p y → d.accO x = d.accO y
/-- parted again by where one goes -/
def Finer (d : Dm) (p f : Option Nat → Nat) : Prop := ∀ x ∈ items d, ∀ y ∈ items d, f x = f y ↔ p x = p y ∧ ∀ b : UInt8, p (d.goO x b) = p (d.goO y b)
theorem Part.finer {d : Dm} (hd : d.ok) {p f : Option Nat → Nat} (h : Part d p) (hf : Finer d p f) : Part d f :=
  ⟨fun x hx y hy e => (hf x hx y hy).2 ⟨h.keep x hx y hy e, fun b => h.keep _ (go_items hd hx b) _ (go_items hd hy b) (by rw [← lang_dv, ← lang_dv, e])⟩, fun x hx y hy e => h.tell x hx y hy ((hf x hx y hy).1 e).1⟩
theorem Part.done {d : Dm} (hd : d.ok) {p f : Option Nat → Nat} (h : Part d p) (hf : Finer d p f) (hc : cnt (items d) f = cnt (items d) p) : ∀ x ∈ items d, ∀ y ∈ items d, f x = f y ↔ d.lang x = d.lang y := by
  have hs := same_count (fun x hx y hy e => ((hf x hx y hy).1 e).1) hc
  intro x hx y hy
  constructor
  · intro e
    refine lang_of (R := fun x y => x ∈ items d ∧ y ∈ items d ∧ f x = f y) (fun x y hh => (h.finer hd hf).tell x hh.1 y hh.2.1 hh.2.2) (fun x y b hh => ⟨go_items hd hh.1 b, go_items hd hh.2.1 b, ?_⟩) ⟨hx, hy, e⟩
    exact hs _ (go_items hd hh.1 b) _ (go_items hd hh.2.1 b) (((hf x hh.1 y hh.2.1).1 hh.2.2).2 b)
  · exact (h.finer hd hf).keep x hx y hy
end Go.Proofs.Ytkdkibnjfgcppaa.mi
