/-
  Plain mathematics, no program: rules, which of them counts where a text begins, what a text is rewritten to.
-/
import Derived.WalkKit
namespace Go.Proofs.Ythmecbonjkcnmaa.ru
set_option linter.unusedVariables false

structure Ru where
  fr : ByteArray
  to : ByteArray

def Ru.f (r : Ru) : List UInt8 := r.fr.data.toList
def Ru.t (r : Ru) : List UInt8 := r.to.data.toList
theorem Ru.f_len (r : Ru) : r.f.length = r.fr.size := by cases r with | mk a b => cases a; rfl
theorem Ru.t_len (r : Ru) : r.t.length = r.to.size := by cases r with | mk a b => cases b; rfl
theorem ba_ext {a b : ByteArray} (h : a.data.toList = b.data.toList) : a = b := by
  cases a with | mk a => cases b with | mk b => simp at h; rw [h]

/-- a rule that may not be, whatever stands beside it -/
def bad (r : Ru) : Bool := r.fr.size == 0 || decide (16 < r.fr.size) || decide (32 < r.to.size)
theorem bad_no {r : Ru} : bad r = false ↔ 1 ≤ r.fr.size ∧ r.fr.size ≤ 16 ∧ r.to.size ≤ 32 := by
  unfold bad
  rw [Bool.or_eq_false_iff, Bool.or_eq_false_iff, decide_eq_false_iff_not, decide_eq_false_iff_not, beq_eq_false_iff_ne]
  omega

def Once (l : List Ru) : Prop := (l.map Ru.f).Nodup
def Good (l : List Ru) : Prop := l.length ≤ 64 ∧ (∀ r ∈ l, bad r = false) ∧ Once l
instance (l : List Ru) : Decidable (Good l) := by unfold Good Once; infer_instance

/-- whether rules may be -/
def rightE (l : List Ru) : Nat := if 64 < l.length then 2 else if Good l then 0 else 110

theorem rightE_ok {l : List Ru} (h : Good l) : rightE l = 0 := by unfold rightE; rw [if_neg (by have := h.1; omega), if_pos h]
theorem rightE_zero {l : List Ru} (h : rightE l = 0) : Good l := by
  unfold rightE at h
  split at h
  · omega
  · split at h
    · assumption
    · omega

theorem Good.pos {l : List Ru} (h : Good l) {r : Ru} (hr : r ∈ l) : 0 < r.f.length ∧ r.f.length ≤ 16 ∧ r.t.length ≤ 32 := by
  have := bad_no.1 (h.2.1 r hr)
  rw [r.f_len, r.t_len]
  omega

/-- how many bytes a byte may become -/
def up (a b : Nat) : Nat := (b + a - 1) / a
def growP : List Ru → Nat
  | [] => 1
  | r :: l => max (up r.fr.size r.to.size) (growP l)
def growN (n : Nat) (l : List Ru) : Nat := l.foldl (fun n r => max n (up r.fr.size r.to.size)) n

theorem growN_ge (l : List Ru) : ∀ n, n ≤ growN n l := by
  induction l with
  | nil => intro n; exact Nat.le_refl _
  | cons r l ih => intro n; exact Nat.le_trans (Nat.le_max_left _ _) (ih _)
theorem growN_mem (l : List Ru) : ∀ n, ∀ r ∈ l, up r.fr.size r.to.size ≤ growN n l := by
  induction l with
  | nil => intro n r hr; simp at hr
  | cons x l ih =>
    intro n r hr
    rcases List.mem_cons.1 hr with rfl | hr
    · exact Nat.le_trans (Nat.le_max_right _ _) (growN_ge l _)
    · exact ih _ r hr
theorem up_mul {a b : Nat} (ha : 0 < a) : b ≤ up a b * a := by
  unfold up
  have h := Nat.div_add_mod (b + a - 1) a
  have h2 := Nat.mod_lt (b + a - 1) ha
  have h3 : (b + a - 1) / a * a = a * ((b + a - 1) / a) := Nat.mul_comm _ _
  omega
theorem up_le {a b n : Nat} (ha : 0 < a) (h : b ≤ n * a) : up a b ≤ n := by
  unfold up
  have : (b + a - 1) / a < n + 1 := by
    rw [Nat.div_lt_iff_lt_mul ha, Nat.add_mul]
    omega
  omega
theorem growN_le (l : List Ru) (h : ∀ r ∈ l, bad r = false) : ∀ n, n ≤ 32 → growN n l ≤ 32 := by
  induction l with
  | nil => intro n hn; exact hn
  | cons r l ih =>
    intro n hn
    refine ih (fun x hx => h x (List.mem_cons_of_mem _ hx)) _ ?_
    have hb := bad_no.1 (h r (List.mem_cons_self ..))
    have : up r.fr.size r.to.size ≤ 32 := up_le (by omega) (by
      have h1 : 1 ≤ r.fr.size := by omega
      have : 32 * 1 ≤ 32 * r.fr.size := Nat.mul_le_mul_left _ h1
      omega)
    show max n _ ≤ 32
    omega

/-- which rule counts where a text begins: the one with the longest From -/
def bl : Option Ru → Nat
  | none => 0
  | some r => r.f.length
def step (s : List UInt8) (b : Option Ru) (r : Ru) : Option Ru := if r.f.isPrefixOf s && decide (bl b < r.f.length) then some r else b
def best (l : List Ru) (s : List UInt8) : Option Ru := l.foldl (step s) none

/-- what the one that counts is -/
def IsBest (l : List Ru) (s : List UInt8) (o : Option Ru) : Prop :=
  (∀ r, o = some r → r ∈ l ∧ r.f <+: s) ∧ ∀ r ∈ l, r.f <+: s → r.f.length ≤ bl o

theorem best_aux (s : List UInt8) (l : List Ru) : ∀ (l0 : List Ru) (b : Option Ru), IsBest l0 s b → IsBest (l0 ++ l) s (l.foldl (step s) b) := by
  induction l with
  | nil => intro l0 b h; simpa using h
  | cons x l ih =>
    intro l0 b h
    have : IsBest (l0 ++ [x]) s (step s b x) := by
      unfold step
      by_cases hx : (x.f.isPrefixOf s && decide (bl b < x.f.length)) = true
      · rw [if_pos hx]
        simp at hx
        refine ⟨fun r hr => ?_, fun r hr hp => ?_⟩
        · obtain rfl := Option.some.inj hr
          exact ⟨by simp, hx.1⟩
        · rcases List.mem_append.1 hr with hr | hr
          · have := h.2 r hr hp
            show _ ≤ x.f.length
            omega
          · rw [List.mem_singleton.1 hr]
            exact Nat.le_refl _
      · rw [if_neg hx]
        refine ⟨fun r hr => ⟨List.mem_append_left _ (h.1 r hr).1, (h.1 r hr).2⟩, fun r hr hp => ?_⟩
        rcases List.mem_append.1 hr with hr | hr
        · exact h.2 r hr hp
        · rw [List.mem_singleton.1 hr] at hp ⊢
          simp at hx
          exact hx hp
    have h2 := ih (l0 ++ [x]) _ this
    rw [List.append_assoc] at h2
    exact h2
theorem best_is (l : List Ru) (s : List UInt8) : IsBest l s (best l s) := by
  have h0 : IsBest [] s none := ⟨fun r hr => (by cases hr), fun r hr => absurd hr (by simp)⟩
  exact best_aux s l [] none h0

theorem once_eq {l : List Ru} (h : Once l) {a b : Ru} (ha : a ∈ l) (hb : b ∈ l) (e : a.f = b.f) : a = b := by
  induction l with
  | nil => simp at ha
  | cons x l ih =>
    unfold Once at h
    rw [List.map_cons, List.nodup_cons] at h
    rcases List.mem_cons.1 ha with ha1 | ha
    · rcases List.mem_cons.1 hb with hb1 | hb
      · rw [ha1, hb1]
      · exact absurd (List.mem_map.2 ⟨b, hb, by rw [← e, ha1]⟩) h.1
    · rcases List.mem_cons.1 hb with hb1 | hb
      · exact absurd (List.mem_map.2 ⟨a, ha, by rw [e, hb1]⟩) h.1
      · exact ih h.2 ha hb
theorem pre_eq {a b s : List UInt8} (ha : a <+: s) (hb : b <+: s) (h : a.length = b.length) : a = b := by
  obtain ⟨x, rfl⟩ := ha
  obtain ⟨y, hy⟩ := hb
  exact ((List.append_inj hy h.symm).1).symm
theorem isBest_unique {l : List Ru} (h : Good l) {s : List UInt8} {o p : Option Ru} (ho : IsBest l s o) (hp : IsBest l s p) : o = p := by
  cases o with
  | none =>
    cases p with
    | none => rfl
    | some r =>
      have h1 := hp.1 r rfl
      have h2 := ho.2 r h1.1 h1.2
      have h3 := h.pos h1.1
      simp [bl] at h2
      rw [h2] at h3
      simp at h3
  | some q =>
    have hq := ho.1 q rfl
    cases p with
    | none =>
      have h2 := hp.2 q hq.1 hq.2
      have h3 := h.pos hq.1
      simp [bl] at h2
      rw [h2] at h3
      simp at h3
    | some r =>
      have hr := hp.1 r rfl
      have h1 : q.f.length ≤ r.f.length := hp.2 q hq.1 hq.2
      have h2 : r.f.length ≤ q.f.length := ho.2 r hr.1 hr.2
      rw [once_eq h.2.2 hq.1 hr.1 (pre_eq hq.2 hr.2 (by omega))]

/-- what a text is rewritten to -/
def app (l : List Ru) : Nat → List UInt8 → List UInt8
  | 0, _ => []
  | _ + 1, [] => []
  | n + 1, b :: s => match best l (b :: s) with
    | some r => r.t ++ app l n ((b :: s).drop r.f.length)
    | none => b :: app l n s
def ap (l : List Ru) (s : List UInt8) : List UInt8 := app l s.length s

theorem app_fuel {l : List Ru} (h : Good l) : ∀ (n : Nat) (s : List UInt8), s.length ≤ n → app l n s = ap l s := by
  intro n
  induction n using Nat.strongRecOn with
  | _ n ih =>
    intro s hs
    cases s with
    | nil => cases n <;> rfl
    | cons b s =>
      cases n with
      | zero => simp at hs
      | succ n =>
        simp at hs
        unfold ap
        rw [List.length_cons, app, app]
        cases e : best l (b :: s) with
        | none =>
          simp only []
          rw [ih n (by omega) s hs]
          rfl
        | some r =>
          have hr := (best_is l (b :: s)).1 r e
          have hp := h.pos hr.1
          have hd : ((b :: s).drop r.f.length).length ≤ s.length := by rw [List.length_drop, List.length_cons]; omega
          simp only []
          rw [ih n (by omega) _ (Nat.le_trans hd hs), ih s.length (by omega) _ hd]
theorem ap_nil (l : List Ru) : ap l [] = [] := rfl
theorem ap_none {l : List Ru} (h : Good l) {b : UInt8} {s : List UInt8} (e : best l (b :: s) = none) : ap l (b :: s) = b :: ap l s := by
  rw [← app_fuel h (s.length + 1) (b :: s) (by simp), app, e]
  simp only []
  rw [app_fuel h _ _ (Nat.le_refl _)]
theorem ap_some {l : List Ru} (h : Good l) {r : Ru} {s : List UInt8} (e : best l s = some r) : ap l s = r.t ++ ap l (s.drop r.f.length) := by
  have hr := (best_is l s).1 r e
  have hp := h.pos hr.1
  cases s with
  | nil => have := hr.2.length_le; rw [List.length_nil] at this; omega
  | cons b s =>
    rw [← app_fuel h (s.length + 1) (b :: s) (by simp), app, e]
    simp only []
    rw [app_fuel h _ _ (by rw [List.length_drop, List.length_cons]; omega)]

/-- two lists of rules of which, at every place of a text, the same one counts, rewrite it the same -/
theorem ap_same {l k : List Ru} (hl : Good l) (hk : Good k) : ∀ (n : Nat) (s : List UInt8), s.length ≤ n → (∀ u, u <:+ s → best l u = best k u) → ap l s = ap k s := by
  intro n
  induction n with
  | zero =>
    intro s hs _
    have : s = [] := List.length_eq_zero_iff.1 (by omega)
    subst this
    rfl
  | succ n ih =>
    intro s hs he
    cases s with
    | nil => rfl
    | cons b s =>
      have e := he _ (List.suffix_refl _)
      simp at hs
      cases e1 : best l (b :: s) with
      | none =>
        rw [ap_none hl e1, ap_none hk (by rw [← e]; exact e1), ih s hs fun u hu => he u (hu.trans (List.suffix_cons b s))]
      | some r =>
        have hp := hl.pos ((best_is l _).1 r e1).1
        rw [ap_some hl e1, ap_some hk (by rw [← e]; exact e1), ih _ (by rw [List.length_drop, List.length_cons]; omega) fun u hu => he u (hu.trans (List.drop_suffix _ _))]

/-- a rewritten text is not longer than so many times the text -/
theorem ap_len {l : List Ru} (h : Good l) {k : Nat} (hk : 1 ≤ k) (hg : ∀ r ∈ l, r.t.length ≤ k * r.f.length) : ∀ (n : Nat) (s : List UInt8), s.length ≤ n → (ap l s).length ≤ k * s.length := by
  intro n
  induction n with
  | zero =>
    intro s hs
    have : s = [] := List.length_eq_zero_iff.1 (by omega)
    subst this
    exact Nat.zero_le _
  | succ n ih =>
    intro s hs
    cases s with
    | nil => exact Nat.zero_le _
    | cons b s =>
      cases e : best l (b :: s) with
      | none =>
        simp at hs
        rw [ap_none h e, List.length_cons, List.length_cons, Nat.mul_add]
        have := ih s hs
        omega
      | some r =>
        have hr := (best_is l _).1 r e
        have hp := h.pos hr.1
        have hle := hr.2.length_le
        rw [ap_some h e, List.length_append]
        have h1 := ih ((b :: s).drop r.f.length) (by rw [List.length_drop]; simp at hs ⊢; omega)
        have h2 := hg r hr.1
        rw [List.length_drop] at h1
        have h3 : k * (b :: s).length = k * r.f.length + k * ((b :: s).length - r.f.length) := by rw [← Nat.mul_add]; congr 1; omega
        omega
theorem grow_all {l : List Ru} (h : Good l) : ∀ r ∈ l, r.t.length ≤ growN 1 l * r.f.length := by
  intro r hr
  have hp := h.pos hr
  rw [r.t_len, r.f_len] at *
  have h1 := growN_mem l 1 r hr
  have h2 : r.to.size ≤ up r.fr.size r.to.size * r.fr.size := up_mul (by omega)
  exact Nat.le_trans h2 (Nat.mul_le_mul_right _ h1)
theorem ap_grow {l : List Ru} (h : Good l) (s : List UInt8) : (ap l s).length ≤ growN 1 l * s.length :=
  ap_len h (growN_ge l 1) (grow_all h) s.length s (Nat.le_refl _)

/-- which one counts hangs on which begin the text alone -/
theorem best_congr {l : List Ru} {s u : List UInt8} (h : ∀ r ∈ l, r.f <+: s ↔ r.f <+: u) : best l s = best l u := by
  unfold best
  have : ∀ (b : Option Ru), (∀ r ∈ l, r.f <+: s ↔ r.f <+: u) → l.foldl (step s) b = l.foldl (step u) b := by
    induction l with
    | nil => intro b _; rfl
    | cons x l ih =>
      intro b hx
      have h1 : step s b x = step u b x := by
        unfold step
        have h2 := hx x (List.mem_cons_self ..)
        have : x.f.isPrefixOf s = x.f.isPrefixOf u := by
          rw [Bool.eq_iff_iff, List.isPrefixOf_iff_prefix, List.isPrefixOf_iff_prefix]
          exact h2
        rw [this]
      rw [List.foldl_cons, List.foldl_cons, h1]
      exact ih (fun r hr => hx r (List.mem_cons_of_mem _ hr)) _ (fun r hr => hx r (List.mem_cons_of_mem _ hr))
  exact this none h

/-- a text whose last bytes begin no From is rewritten by itself -/
theorem ap_append {l : List Ru} (h : Good l) (b : List UInt8) : ∀ (n : Nat) (a : List UInt8), a.length ≤ n → (∀ u, u <:+ a → u ≠ [] → ∀ r ∈ l, ¬ u <+: r.f) → ap l (a ++ b) = ap l a ++ ap l b := by
  intro n
  induction n with
  | zero =>
    intro a hs _
    have : a = [] := List.length_eq_zero_iff.1 (by omega)
    subst this
    rfl
  | succ n ih =>
    intro a hs hno
    cases a with
    | nil => rfl
    | cons x a =>
      have hb : best l (x :: a ++ b) = best l (x :: a) := by
        refine best_congr fun r hr => ⟨fun hp => ?_, fun hp => hp.trans (List.prefix_append _ _)⟩
        by_cases hl : r.f.length ≤ (x :: a).length
        · exact List.prefix_of_prefix_length_le hp (List.prefix_append _ _) hl
        · exact absurd (List.prefix_of_prefix_length_le (List.prefix_append _ _) hp (by omega)) (hno _ (List.suffix_refl _) (by simp) r hr)
      cases e : best l (x :: a) with
      | none =>
        simp at hs
        rw [e] at hb
        rw [ap_none h e]
        have hb' : best l (x :: (a ++ b)) = none := hb
        rw [List.cons_append, ap_none h hb', List.cons_append, ih a hs fun u hu => hno u (hu.trans (List.suffix_cons x a))]
      | some r =>
        have hr := (best_is l _).1 r e
        have hp := h.pos hr.1
        rw [ap_some h (hb.trans e), ap_some h e, List.append_assoc, List.drop_append_of_le_length hr.2.length_le, ih _ (by rw [List.length_drop]; simp at hs ⊢; omega) fun u hu => hno u (hu.trans (List.drop_suffix _ _))]

/-- a text in which no From stands stays as it is -/
theorem ap_idle {l : List Ru} (h : Good l) : ∀ (n : Nat) (s : List UInt8), s.length ≤ n → (∀ u, u <:+ s → ∀ r, best l u = some r → r.t = r.f) → ap l s = s := by
  intro n
  induction n with
  | zero =>
    intro s hs _
    have : s = [] := List.length_eq_zero_iff.1 (by omega)
    subst this
    rfl
  | succ n ih =>
    intro s hs hno
    cases s with
    | nil => rfl
    | cons x s =>
      cases e : best l (x :: s) with
      | none =>
        simp at hs
        rw [ap_none h e, ih s hs fun u hu => hno u (hu.trans (List.suffix_cons x s))]
      | some r =>
        have hr := (best_is l _).1 r e
        have hp := h.pos hr.1
        have hd := hno _ (List.suffix_refl _) r e
        rw [ap_some h e, ih _ (by rw [List.length_drop]; simp at hs ⊢; omega) fun u hu => hno u (hu.trans (List.drop_suffix _ _)), hd]
        obtain ⟨y, hy⟩ := hr.2
        rw [← hy, List.drop_left]
end Go.Proofs.Ythmecbonjkcnmaa.ru
