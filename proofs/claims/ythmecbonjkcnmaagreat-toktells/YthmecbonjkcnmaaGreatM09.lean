/-
  Texts put together: Plain mathematics, no program: rules, which of them counts where a text begins, what a text is rewritten to. Contracts over this program: a list of rules that is read; rule.misfit. Contracts over this program: slices.ContainsFunc at rules and rule.misfit. Contracts over this program: the map of the rules' numbers (rule.byFrom).
-/
import Derived.WalkKit
import Derived.Test.YthmecbonjkcnmaaGreatRows
import Derived.Deep.QuietTactic
import Derived.Deep.RegionHeld3
import Derived.WalkSmall
import Derived.BigQuiet
import Derived.ProofKit
import Derived.SizedLaws
import Derived.OpenShut
import Derived.ShutString
import Derived.ChangeOld
import Derived.Below
import Derived.Deep.SlicePairs
import Derived.Maps.OwnSet
import Derived.Maps.AppendAt
import Derived.DeepKeys4
import Derived.MapViews
namespace Go.Proofs.YthmecbonjkcnmaaGreat.ru
set_option linter.unusedVariables false

structure Ru where
  fr : ByteArray
  to : ByteArray

def Ru.f (r : Ru) : List UInt8 := r.fr.data.toList
def Ru.t (r : Ru) : List UInt8 := r.to.data.toList
theorem Ru.f_len (r : Ru) : r.f.length = r.fr.size := by cases r with | mk a b => cases a; rfl
theorem Ru.t_len (r : Ru) : r.t.length = r.to.size := by cases r with | mk a b => cases b; rfl
theorem ba_ext {a b : ByteArray} (h : a.data.toList = b.data.toList) : a = b := by
  cases a with | mk a => cases b with | mk b => simp at h; rw [h]

/-- a rule that may not be, whatever stands beside it -/
def bad (r : Ru) : Bool := r.fr.size == 0 || decide (16 < r.fr.size) || decide (32 < r.to.size)
theorem bad_no {r : Ru} : bad r = false ↔ 1 ≤ r.fr.size ∧ r.fr.size ≤ 16 ∧ r.to.size ≤ 32 := by
  unfold bad
  rw [Bool.or_eq_false_iff, Bool.or_eq_false_iff, decide_eq_false_iff_not, decide_eq_false_iff_not, beq_eq_false_iff_ne]
  omega

def Once (l : List Ru) : Prop := (l.map Ru.f).Nodup
def Good (l : List Ru) : Prop := l.length ≤ 64 ∧ (∀ r ∈ l, bad r = false) ∧ Once l
instance (l : List Ru) : Decidable (Good l) := by unfold Good Once; infer_instance

/-- whether rules may be -/
def rightE (l : List Ru) : Nat := if 64 < l.length then 2 else if Good l then 0 else 110

theorem rightE_ok {l : List Ru} (h : Good l) : rightE l = 0 := by unfold rightE; rw [if_neg (by have := h.1; omega), if_pos h]
theorem rightE_zero {l : List Ru} (h : rightE l = 0) : Good l := by
  unfold rightE at h
  split at h
  · omega
  · split at h
    · assumption
    · omega

theorem Good.pos {l : List Ru} (h : Good l) {r : Ru} (hr : r ∈ l) : 0 < r.f.length ∧ r.f.length ≤ 16 ∧ r.t.length ≤ 32 := by
  have := bad_no.1 (h.2.1 r hr)
  rw [r.f_len, r.t_len]
  omega

/-- how many bytes a byte may become -/
def up (a b : Nat) : Nat := (b + a - 1) / a
def growP : List Ru → Nat
  | [] => 1
  | r :: l => max (up r.fr.size r.to.size) (growP l)
def growN (n : Nat) (l : List Ru) : Nat := l.foldl (fun n r => max n (up r.fr.size r.to.size)) n

theorem growN_ge (l : List Ru) : ∀ n, n ≤ growN n l := by
  induction l with
  | nil => intro n; exact Nat.le_refl _
  | cons r l ih => intro n; exact Nat.le_trans (Nat.le_max_left _ _) (ih _)
theorem growN_mem (l : List Ru) : ∀ n, ∀ r ∈ l, up r.fr.size r.to.size ≤ growN n l := by
  induction l with
  | nil => intro n r hr; simp at hr
  | cons x l ih =>
    intro n r hr
    rcases List.mem_cons.1 hr with rfl | hr
    · exact Nat.le_trans (Nat.le_max_right _ _) (growN_ge l _)
    · exact ih _ r hr
theorem up_mul {a b : Nat} (ha : 0 < a) : b ≤ up a b * a := by
  unfold up
  have h := Nat.div_add_mod (b + a - 1) a
  have h2 := Nat.mod_lt (b + a - 1) ha
  have h3 : (b + a - 1) / a * a = a * ((b + a - 1) / a) := Nat.mul_comm _ _
  omega
theorem up_le {a b n : Nat} (ha : 0 < a) (h : b ≤ n * a) : up a b ≤ n := by
  unfold up
  have : (b + a - 1) / a < n + 1 := by
    rw [Nat.div_lt_iff_lt_mul ha, Nat.add_mul]
    omega
  omega
theorem growN_le (l : List Ru) (h : ∀ r ∈ l, bad r = false) : ∀ n, n ≤ 32 → growN n l ≤ 32 := by
  induction l with
  | nil => intro n hn; exact hn
  | cons r l ih =>
    intro n hn
    refine ih (fun x hx => h x (List.mem_cons_of_mem _ hx)) _ ?_
    have hb := bad_no.1 (h r (List.mem_cons_self ..))
    have : up r.fr.size r.to.size ≤ 32 := up_le (by omega) (by
      have h1 : 1 ≤ r.fr.size := by omega
      have : 32 * 1 ≤ 32 * r.fr.size := Nat.mul_le_mul_left _ h1
      omega)
    show max n _ ≤ 32
    omega

/-- which rule counts where a text begins: the one with the longest From -/
def bl : Option Ru → Nat
  | none => 0
  | some r => r.f.length
def step (s : List UInt8) (b : Option Ru) (r : Ru) : Option Ru := if r.f.isPrefixOf s && decide (bl b < r.f.length) then some r else b
def best (l : List Ru) (s : List UInt8) : Option Ru := l.foldl (step s) none

/-- what the one that counts is -/
def IsBest (l : List Ru) (s : List UInt8) (o : Option Ru) : Prop :=
  (∀ r, o = some r → r ∈ l ∧ r.f <+: s) ∧ ∀ r ∈ l, r.f <+: s → r.f.length ≤ bl o

theorem best_aux (s : List UInt8) (l : List Ru) : ∀ (l0 : List Ru) (b : Option Ru), IsBest l0 s b → IsBest (l0 ++ l) s (l.foldl (step s) b) := by
  induction l with
  | nil => intro l0 b h; simpa using h
  | cons x l ih =>
    intro l0 b h
    have : IsBest (l0 ++ [x]) s (step s b x) := by
      unfold step
      by_cases hx : (x.f.isPrefixOf s && decide (bl b < x.f.length)) = true
      · rw [if_pos hx]
        simp at hx
        refine ⟨fun r hr => ?_, fun r hr hp => ?_⟩
        · obtain rfl := Option.some.inj hr
          exact ⟨by simp, hx.1⟩
        · rcases List.mem_append.1 hr with hr | hr
          · have := h.2 r hr hp
            show _ ≤ x.f.length
            omega
          · rw [List.mem_singleton.1 hr]
            exact Nat.le_refl _
      · rw [if_neg hx]
        refine ⟨fun r hr => ⟨List.mem_append_left _ (h.1 r hr).1, (h.1 r hr).2⟩, fun r hr hp => ?_⟩
        rcases List.mem_append.1 hr with hr | hr
        · exact h.2 r hr hp
        · rw [List.mem_singleton.1 hr] at hp ⊢
          simp at hx
          exact hx hp
    have h2 := ih (l0 ++ [x]) _ this
    rw [List.append_assoc] at h2
    exact h2
theorem best_is (l : List Ru) (s : List UInt8) : IsBest l s (best l s) := by
  have h0 : IsBest [] s none := ⟨fun r hr => (by cases hr), fun r hr => absurd hr (by simp)⟩
  exact best_aux s l [] none h0

theorem once_eq {l : List Ru} (h : Once l) {a b : Ru} (ha : a ∈ l) (hb : b ∈ l) (e : a.f = b.f) : a = b := by
  induction l with
  | nil => simp at ha
  | cons x l ih =>
    unfold Once at h
    rw [List.map_cons, List.nodup_cons] at h
    rcases List.mem_cons.1 ha with ha1 | ha
    · rcases List.mem_cons.1 hb with hb1 | hb
      · rw [ha1, hb1]
      · exact absurd (List.mem_map.2 ⟨b, hb, by rw [← e, ha1]⟩) h.1
    · rcases List.mem_cons.1 hb with hb1 | hb
      · exact absurd (List.mem_map.2 ⟨a, ha, by rw [e, hb1]⟩) h.1
      · exact ih h.2 ha hb
theorem pre_eq {a b s : List UInt8} (ha : a <+: s) (hb : b <+: s) (h : a.length = b.length) : a = b := by
  obtain ⟨x, rfl⟩ := ha
  obtain ⟨y, hy⟩ := hb
  exact ((List.append_inj hy h.symm).1).symm
theorem isBest_unique {l : List Ru} (h : Good l) {s : List UInt8} {o p : Option Ru} (ho : IsBest l s o) (hp : IsBest l s p) : o = p := by
  cases o with
  | none =>
    cases p with
    | none => rfl
    | some r =>
      have h1 := hp.1 r rfl
      have h2 := ho.2 r h1.1 h1.2
      have h3 := h.pos h1.1
      simp [bl] at h2
      rw [h2] at h3
      simp at h3
  | some q =>
    have hq := ho.1 q rfl
    cases p with
    | none =>
      have h2 := hp.2 q hq.1 hq.2
      have h3 := h.pos hq.1
      simp [bl] at h2
      rw [h2] at h3
      simp at h3
    | some r =>
      have hr := hp.1 r rfl
      have h1 : q.f.length ≤ r.f.length := hp.2 q hq.1 hq.2
      have h2 : r.f.length ≤ q.f.length := ho.2 r hr.1 hr.2
      rw [once_eq h.2.2 hq.1 hr.1 (pre_eq hq.2 hr.2 (by omega))]

/-- what a text is rewritten to -/
def app (l : List Ru) : Nat → List UInt8 → List UInt8
  | 0, _ => []
  | _ + 1, [] => []
  | n + 1, b :: s => match best l (b :: s) with
    | some r => r.t ++ app l n ((b :: s).drop r.f.length)
    | none => b :: app l n s
def ap (l : List Ru) (s : List UInt8) : List UInt8 := app l s.length s

theorem app_fuel {l : List Ru} (h : Good l) : ∀ (n : Nat) (s : List UInt8), s.length ≤ n → app l n s = ap l s := by
  intro n
  induction n using Nat.strongRecOn with
  | _ n ih =>
    intro s hs
    cases s with
    | nil => cases n <;> rfl
    | cons b s =>
      cases n with
      | zero => simp at hs
      | succ n =>
        simp at hs
        unfold ap
        rw [List.length_cons, app, app]
        cases e : best l (b :: s) with
        | none =>
          simp only []
          rw [ih n (by omega) s hs]
          rfl
        | some r =>
          have hr := (best_is l (b :: s)).1 r e
          have hp := h.pos hr.1
          have hd : ((b :: s).drop r.f.length).length ≤ s.length := by rw [List.length_drop, List.length_cons]; omega
          simp only []
          rw [ih n (by omega) _ (Nat.le_trans hd hs), ih s.length (by omega) _ hd]
theorem ap_nil (l : List Ru) : ap l [] = [] := rfl
theorem ap_none {l : List Ru} (h : Good l) {b : UInt8} {s : List UInt8} (e : best l (b :: s) = none) : ap l (b :: s) = b :: ap l s := by
  rw [← app_fuel h (s.length + 1) (b :: s) (by simp), app, e]
  simp only []
  rw [app_fuel h _ _ (Nat.le_refl _)]
theorem ap_some {l : List Ru} (h : Good l) {r : Ru} {s : List UInt8} (e : best l s = some r) : ap l s = r.t ++ ap l (s.drop r.f.length) := by
  have hr := (best_is l s).1 r e
  have hp := h.pos hr.1
  cases s with
  | nil => have := hr.2.length_le; rw [List.length_nil] at this; omega
  | cons b s =>
    rw [← app_fuel h (s.length + 1) (b :: s) (by simp), app, e]
    simp only []
    rw [app_fuel h _ _ (by rw [List.length_drop, List.length_cons]; omega)]

/-- two lists of rules of which, at every place of a text, the same one counts, rewrite it the same -/
theorem ap_same {l k : List Ru} (hl : Good l) (hk : Good k) : ∀ (n : Nat) (s : List UInt8), s.length ≤ n → (∀ u, u <:+ s → best l u = best k u) → ap l s = ap k s := by
  intro n
  induction n with
  | zero =>
    intro s hs _
    have : s = [] := List.length_eq_zero_iff.1 (by omega)
    subst this
    rfl
  | succ n ih =>
    intro s hs he
    cases s with
    | nil => rfl
    | cons b s =>
      have e := he _ (List.suffix_refl _)
      simp at hs
      cases e1 : best l (b :: s) with
      | none =>
        rw [ap_none hl e1, ap_none hk (by rw [← e]; exact e1), ih s hs fun u hu => he u (hu.trans (List.suffix_cons b s))]
      | some r =>
        have hp := hl.pos ((best_is l _).1 r e1).1
        rw [ap_some hl e1, ap_some hk (by rw [← e]; exact e1), ih _ (by rw [List.length_drop, List.length_cons]; omega) fun u hu => he u (hu.trans (List.drop_suffix _ _))]

/-- a rewritten text is not longer than so many times the text -/
theorem ap_len {l : List Ru} (h : Good l) {k : Nat} (hk : 1 ≤ k) (hg : ∀ r ∈ l, r.t.length ≤ k * r.f.length) : ∀ (n : Nat) (s : List UInt8), s.length ≤ n → (ap l s).length ≤ k * s.length := by
  intro n
  induction n with
  | zero =>
    intro s hs
    have : s = [] := List.length_eq_zero_iff.1 (by omega)
    subst this
    exact Nat.zero_le _
  | succ n ih =>
    intro s hs
    cases s with
    | nil => exact Nat.zero_le _
    | cons b s =>
      cases e : best l (b :: s) with
      | none =>
        simp at hs
        rw [ap_none h e, List.length_cons, List.length_cons, Nat.mul_add]
        have := ih s hs
        omega
      | some r =>
        have hr := (best_is l _).1 r e
        have hp := h.pos hr.1
        have hle := hr.2.length_le
        rw [ap_some h e, List.length_append]
        have h1 := ih ((b :: s).drop r.f.length) (by rw [List.length_drop]; simp at hs ⊢; omega)
        have h2 := hg r hr.1
        rw [List.length_drop] at h1
        have h3 : k * (b :: s).length = k * r.f.length + k * ((b :: s).length - r.f.length) := by rw [← Nat.mul_add]; congr 1; omega
        omega
theorem grow_all {l : List Ru} (h : Good l) : ∀ r ∈ l, r.t.length ≤ growN 1 l * r.f.length := by
  intro r hr
  have hp := h.pos hr
  rw [r.t_len, r.f_len] at *
  have h1 := growN_mem l 1 r hr
  have h2 : r.to.size ≤ up r.fr.size r.to.size * r.fr.size := up_mul (by omega)
  exact Nat.le_trans h2 (Nat.mul_le_mul_right _ h1)
theorem ap_grow {l : List Ru} (h : Good l) (s : List UInt8) : (ap l s).length ≤ growN 1 l * s.length :=
  ap_len h (growN_ge l 1) (grow_all h) s.length s (Nat.le_refl _)

/-- which one counts hangs on which begin the text alone -/
theorem best_congr {l : List Ru} {s u : List UInt8} (h : ∀ r ∈ l, r.f <+: s ↔ r.f <+: u) : best l s = best l u := by
  unfold best
  have : ∀ (b : Option Ru), (∀ r ∈ l, r.f <+: s ↔ r.f <+: u) → l.foldl (step s) b = l.foldl (step u) b := by
    induction l with
    | nil => intro b _; rfl
    | cons x l ih =>
      intro b hx
      have h1 : step s b x = step u b x := by
        unfold step
        have h2 := hx x (List.mem_cons_self ..)
        have : x.f.isPrefixOf s = x.f.isPrefixOf u := by
          rw [Bool.eq_iff_iff, List.isPrefixOf_iff_prefix, List.isPrefixOf_iff_prefix]
          exact h2
        rw [this]
      rw [List.foldl_cons, List.foldl_cons, h1]
      exact ih (fun r hr => hx r (List.mem_cons_of_mem _ hr)) _ (fun r hr => hx r (List.mem_cons_of_mem _ hr))
  exact this none h

/-- a text whose last bytes begin no From is rewritten by itself -/
theorem ap_append {l : List Ru} (h : Good l) (b : List UInt8) : ∀ (n : Nat) (a : List UInt8), a.length ≤ n → (∀ u, u <:+ a → u ≠ [] → ∀ r ∈ l, ¬ u <+: r.f) → ap l (a ++ b) = ap l a ++ ap l b := by
  intro n
  induction n with
  | zero =>
    intro a hs _
    have : a = [] := List.length_eq_zero_iff.1 (by omega)
    subst this
    rfl
  | succ n ih =>
    intro a hs hno
    cases a with
    | nil => rfl
    | cons x a =>
      have hb : best l (x :: a ++ b) = best l (x :: a) := by
        refine best_congr fun r hr => ⟨fun hp => ?_, fun hp => hp.trans (List.prefix_append _ _)⟩
        by_cases hl : r.f.length ≤ (x :: a).length
        · exact List.prefix_of_prefix_length_le hp (List.prefix_append _ _) hl
        · exact absurd (List.prefix_of_prefix_length_le (List.prefix_append _ _) hp (by omega)) (hno _ (List.suffix_refl _) (by simp) r hr)
      cases e : best l (x :: a) with
      | none =>
        simp at hs
        rw [e] at hb
        rw [ap_none h e]
        have hb' : best l (x :: (a ++ b)) = none := hb
        rw [List.cons_append, ap_none h hb', List.cons_append, ih a hs fun u hu => hno u (hu.trans (List.suffix_cons x a))]
      | some r =>
        have hr := (best_is l _).1 r e
        have hp := h.pos hr.1
        rw [ap_some h (hb.trans e), ap_some h e, List.append_assoc, List.drop_append_of_le_length hr.2.length_le, ih _ (by rw [List.length_drop]; simp at hs ⊢; omega) fun u hu => hno u (hu.trans (List.drop_suffix _ _))]

/-- a text in which no From stands stays as it is -/
theorem ap_idle {l : List Ru} (h : Good l) : ∀ (n : Nat) (s : List UInt8), s.length ≤ n → (∀ u, u <:+ s → ∀ r, best l u = some r → r.t = r.f) → ap l s = s := by
  intro n
  induction n with
  | zero =>
    intro s hs _
    have : s = [] := List.length_eq_zero_iff.1 (by omega)
    subst this
    rfl
  | succ n ih =>
    intro s hs hno
    cases s with
    | nil => rfl
    | cons x s =>
      cases e : best l (x :: s) with
      | none =>
        simp at hs
        rw [ap_none h e, ih s hs fun u hu => hno u (hu.trans (List.suffix_cons x s))]
      | some r =>
        have hr := (best_is l _).1 r e
        have hp := h.pos hr.1
        have hd := hno _ (List.suffix_refl _) r e
        rw [ap_some h e, ih _ (by rw [List.length_drop]; simp at hs ⊢; omega) fun u hu => hno u (hu.trans (List.drop_suffix _ _)), hd]
        obtain ⟨y, hy⟩ := hr.2
        rw [← hy, List.drop_left]
end Go.Proofs.YthmecbonjkcnmaaGreat.ru

namespace Go.Proofs.YthmecbonjkcnmaaGreat.ru
open Go.ChangeShapes Go.WideShapes Go.ChangeAt Go.RowKit
set_option linter.unusedVariables false

instance : Inhabited Ru := ⟨⟨⟨#[]⟩, ⟨#[]⟩⟩⟩
def nth (l : List Ru) (i : Nat) : Ru := l.getD i ⟨⟨#[]⟩, ⟨#[]⟩⟩

/-- a value that reads, in a world, as a list of rules -/
def Rus (w : World) (v : Value) (l : List Ru) : Prop :=
  (l = [] ∧ ∃ a cap, v = .slice a 0 cap) ∨
  (∃ b off cap, v = .slice (some ⟨b, off, none⟩) l.length cap ∧ l.length ≤ cap ∧ cap ≤ 9223372036854775807 ∧ b < w.heap.size ∧ ∀ i, i < l.length → w.cell? ⟨b, off + i * 2, none⟩ = some (.string (nth l i).fr) ∧ w.cell? ⟨b, off + i * 2 + 1, none⟩ = some (.string (nth l i).to))

theorem Rus.below {w w' : World} {v : Value} {l : List Ru} (h : Rus w v l) (hb : Below w.heap.size w w') : Rus w' v l := by
  rcases h with h | ⟨b, off, cap, hv, hl, hm, hlt, hc⟩
  · exact .inl h
  · exact .inr ⟨b, off, cap, hv, hl, hm, Nat.lt_of_lt_of_le hlt hb.size, fun i hi => ⟨by rw [hb.cell hlt]; exact (hc i hi).1, by rw [hb.cell hlt]; exact (hc i hi).2⟩⟩

theorem drop_nth (l : List Ru) (i : Nat) (h : i < l.length) : l.drop i = nth l i :: l.drop (i + 1) := by
  rw [List.drop_eq_getElem_cons h]
  congr 1
  unfold nth
  rw [List.getD_eq_getElem?_getD, List.getElem?_eq_getElem h]
  rfl
theorem nth_mem (l : List Ru) (i : Nat) (h : i < l.length) : nth l i ∈ l := by
  unfold nth
  rw [List.getD_eq_getElem?_getD, List.getElem?_eq_getElem h]
  exact List.getElem_mem h
theorem take_nth (l : List Ru) (i : Nat) (h : i < l.length) : l.take (i + 1) = l.take i ++ [nth l i] := by
  rw [List.take_add_one, List.getElem?_eq_getElem h]
  unfold nth
  rw [List.getD_eq_getElem?_getD, List.getElem?_eq_getElem h]
  rfl
theorem chain {a b c : World} (h : Below a.heap.size a b) (k : Below b.heap.size b c) : Below a.heap.size a c := ⟨k.os.trans h.os, k.tape.trans h.tape, k.output.trans h.output, Nat.le_trans h.size k.size, fun i hi => (k.block i (Nat.lt_of_lt_of_le hi h.size)).trans (h.block i hi)⟩

theorem empty_eq (b : ByteArray) : b.toList.isEmpty = (b.size == 0) := by
  rw [ByteArray.toList_eq]
  cases b with
  | mk a =>
    cases a with
    | mk l => cases l <;> rfl
theorem toList_nil {b : ByteArray} (h : b.toList = []) : b.size = 0 := by
  have := empty_eq b
  rw [h] at this
  simpa using this.symm
theorem bad_eq (r : Ru) : bad r = (r.fr.toList.isEmpty || decide (16 < (r.fr.size : Int)) || decide (32 < (r.to.size : Int))) := by
  unfold bad
  rw [empty_eq]
  congr 1
  · congr 1
    exact decide_eq_decide.2 (by omega)
  · exact decide_eq_decide.2 (by omega)

def BadIs (r : Ru) (x : Bool) : Prop := ∀ w, Calls Tryz.prog 60 #[.agg #[.string r.fr, .string r.to]] w fun e w' => e = .returned (.bool x) ∧ Below w.heap.size w w'

set_option maxHeartbeats 1000000 in
set_option maxRecDepth 100000 in
theorem bad_any (r : Ru) (x : Bool) (hx : x = bad r) : BadIs r x := by
  intro w
  have HX : Hid (x = bad r) := hx
  clear hx
  go_enter Tryz.func60, Tryz.ntmps60
  go_wp2
  · rename_i h
    go_ret
    refine ⟨?_, (Below.refl _ _).alloc (Nat.le_refl _) _⟩
    rw [HX.out]
    unfold bad
    rw [toList_nil h]
    rfl
  · go_ret
    refine ⟨?_, (Below.refl _ _).alloc (Nat.le_refl _) _⟩
    rw [HX.out, bad_eq]
    rfl
  · rename_i h
    go_ret
    refine ⟨?_, (Below.refl _ _).alloc (Nat.le_refl _) _⟩
    rw [HX.out, bad_eq, decide_eq_true h]
    simp
end Go.Proofs.YthmecbonjkcnmaaGreat.ru

namespace Go.Proofs.YthmecbonjkcnmaaGreat.ru
open Go.ChangeShapes Go.WideShapes Go.ChangeAt Go.RowKit
set_option linter.unusedVariables false

def anyBad (l : List Ru) : Bool := l.any bad

def IdxIs (l : List Ru) (x : Bool) : Prop := ∀ v w, Rus w v l → Calls Tryz.prog 84 #[v, .func (.func 60) #[] #[]] w fun e w' => (∃ n : Int, e = .returned (.int .i64 n) ∧ (x = true ∧ 0 ≤ n ∨ x = false ∧ n = -1)) ∧ Below w.heap.size w w'

set_option maxHeartbeats 1000000 in
set_option maxRecDepth 100000 in
theorem idx_any (l : List Ru) (x : Bool) (hx : x = anyBad l) : IdxIs l x := by
  intro v w hv
  have HX : Hid (x = anyBad l) := hx
  clear hx
  rcases hv with ⟨rfl, a, cap, rfl⟩ | ⟨b, off, cap, rfl, hl, hm, hlt, hc⟩
  · have h0 : x = false := HX.out
    subst h0
    go_enter Tryz.func84, Tryz.ntmps84
    go_wp2
    go_loopw [8] (fun x wr => x = .int .i64 0 ∧ wr = w) (fun _ _ => 0)
    case atStart => exact ⟨rfl, rfl⟩
    case round =>
      obtain ⟨rfl, rfl⟩ := hrel
      go_wp2
      go_ret
      exact ⟨⟨_, rfl, .inr ⟨trivial, rfl⟩⟩, Below.refl _ _⟩
  · go_enter Tryz.func84, Tryz.ntmps84
    go_wp2
    go_loopw [8] (fun y wr => ∃ (i : Nat), y = .int .i64 i ∧ i ≤ l.length ∧ Below w.heap.size w wr ∧ Hid (anyBad (l.drop i) = x)) (fun y _ => l.length - (intOf y).toNat)
    case atStart => exact ⟨0, rfl, by omega, Below.refl _ _, by rw [List.drop_zero]; exact HX.out.symm⟩
    case round =>
      obtain ⟨i, rfl, hi, hB, HT⟩ := hrel
      by_cases hend : i < l.length
      · obtain ⟨hc1, hc2⟩ := hc i hend
        rw [← hB.cell (p := ⟨b, off + i * 2, none⟩) hlt] at hc1
        rw [← hB.cell (p := ⟨b, off + i * 2 + 1, none⟩) hlt] at hc2
        have hb := bad_any (nth l i) _ rfl
        have HN : Hid (x = (bad (nth l i) || anyBad (l.drop (i + 1)))) := by
          show _ = _
          rw [← HT.out, drop_nth l i hend]
          rfl
        generalize nth l i = r at *
        cases hbr : bad r
        · rw [hbr] at hb HN
          clear hc HT
          go_wp2_with (go_at_call 60; refine (hb _).mono ?_; rintro e w1 ⟨rfl, b1⟩)
          go_roundw
          case rel => exact ⟨i + 1, by go_num, by omega, chain hB b1, HN.out.symm⟩
          case measure => simp [intOf]; omega
        · rw [hbr] at hb HN
          clear hc HT
          go_wp2_with (go_at_call 60; refine (hb _).mono ?_; rintro e w1 ⟨rfl, b1⟩)
          go_ret
          exact ⟨⟨_, rfl, .inl ⟨HN.out, by omega⟩⟩, chain hB b1⟩
      · have HE : Hid (x = false) := by
          show _ = _
          rw [← HT.out, List.drop_eq_nil_of_le (by omega)]
          rfl
        go_wp2
        go_ret
        exact ⟨⟨_, rfl, .inr ⟨HE.out, rfl⟩⟩, hB⟩

def AnyIs (l : List Ru) (x : Bool) : Prop := ∀ v w, Rus w v l → Calls Tryz.prog 59 #[v, .func (.func 60) #[] #[]] w fun e w' => e = .returned (.bool x) ∧ Below w.heap.size w w'
set_option maxHeartbeats 1000000 in
set_option maxRecDepth 100000 in
theorem anyBad_is (l : List Ru) (x : Bool) (hx : x = anyBad l) : AnyIs l x := by
  intro v w hv
  have hi := idx_any l x hx v w hv
  have HX : Hid (x = anyBad l) := hx
  clear hx
  go_enter Tryz.func59, Tryz.ntmps59
  go_wp2_with (go_at_call 84; refine hi.mono ?_; rintro e w1 ⟨⟨n, rfl, hn⟩, b1⟩)
  go_ret
  refine ⟨?_, b1⟩
  rcases hn with ⟨rfl, h⟩ | ⟨rfl, rfl⟩
  · show Ending.returned (.bool (decide (0 ≤ n))) = _
    rw [decide_eq_true h]
  · rfl
end Go.Proofs.YthmecbonjkcnmaaGreat.ru

namespace Go.Proofs.YthmecbonjkcnmaaGreat.ru
open Go.ChangeShapes Go.WideShapes Go.ChangeAt Go.RowKit Go.Maps
set_option linter.unusedVariables false

theorem law9 : Keyed Tryz.prog 9 := string_keyed Tryz.underlying9
theorem zero3 (w : World) : (zeroValue 3).run Tryz.prog w = .ok (.int .i64 0) w := by kernel_rfl

theorem make75 (n : Int) (w : World) : (Instr.makeMap 75 (some (.int .i64 n))).run Tryz.prog w = .ok (.map (some w.heap.size)) (w.alloc (.map #[] 0)) := by kernel_rfl
/-- what the map of the rules' numbers holds -/
structure MapOf (l : List Ru) (D : DataW Unit) : Prop where
  has : ∀ k, Maps.has D (.string k) = l.any (fun r => r.f == k)
  at' : Once l → ∀ i, i < l.length → D.atKey (.string (nth l i).f) (.lit (.int .i64 0)) = .lit (.int .i64 (i : Nat))
  le : Maps.size D ≤ l.length
  once : Maps.size D = l.length ↔ Once l
theorem mapOf_nil : MapOf [] (.map []) := ⟨fun k => rfl, fun _ i hi => by simp at hi, Nat.le_refl _, ⟨fun _ => List.nodup_nil, fun _ => rfl⟩⟩
theorem nth_append_left (l : List Ru) (r : Ru) (i : Nat) (h : i < l.length) : nth (l ++ [r]) i = nth l i := by
  unfold nth
  rw [List.getD_eq_getElem?_getD, List.getD_eq_getElem?_getD, List.getElem?_append_left h]
theorem nth_append_last (l : List Ru) (r : Ru) : nth (l ++ [r]) l.length = r := by
  unfold nth
  rw [List.getD_eq_getElem?_getD, List.getElem?_append_right (Nat.le_refl _)]
  simp
theorem once_snoc (l : List Ru) (r : Ru) : Once (l ++ [r]) ↔ Once l ∧ l.any (fun x => x.f == r.f) = false := by
  unfold Once
  rw [List.map_append, List.nodup_append]
  constructor
  · rintro ⟨h1, _, h3⟩
    refine ⟨h1, List.any_eq_false.2 fun x hx => ?_⟩
    have := h3 x.f (List.mem_map.2 ⟨x, hx, rfl⟩) r.f (by simp)
    simpa using this
  · rintro ⟨h1, h2⟩
    refine ⟨h1, by simp, fun a ha b hb => ?_⟩
    obtain ⟨x, hx, rfl⟩ := List.mem_map.1 ha
    simp at hb
    subst hb
    have := List.any_eq_false.1 h2 x hx
    simpa using this
theorem mapOf_put {l : List Ru} {D : DataW Unit} (h : MapOf l D) (hT : Tidy D) (r : Ru) : MapOf (l ++ [r]) (D.put (.string r.f) (.lit (.int .i64 (l.length : Nat)))) := by
  have hsz : Maps.size (D.put (.string r.f) (.lit (.int .i64 (l.length : Nat)))) = if l.any (fun x => x.f == r.f) = true then Maps.size D else Maps.size D + 1 := by
    rw [size_put hT, h.has]
  refine ⟨fun k => ?_, fun ho i hi => ?_, ?_, ?_⟩
  · rw [List.any_append]
    by_cases e : k = r.f
    · subst e
      rw [has_put_same hT.isMap (show WideAt.IsKeyLit (.string _) from trivial)]
      simp
    · rw [has_put_other (fun e2 => e (Lit.string.inj e2)), h.has k]
      have : (r.f == k) = false := by simp; exact fun e2 => e e2.symm
      simp [this]
  · obtain ⟨ho1, ho2⟩ := (once_snoc l r).1 ho
    by_cases e : i < l.length
    · rw [nth_append_left l r i e]
      have hne : (nth l i).f ≠ r.f := by
        have := List.any_eq_false.1 ho2 _ (nth_mem l i e)
        simpa using this
      rw [atKey_put_other (fun e2 => hne (Lit.string.inj e2)), h.at' ho1 i e]
    · have : i = l.length := by simp at hi; omega
      subst this
      rw [nth_append_last, atKey_put_same hT.isMap (show WideAt.IsKeyLit (.string _) from trivial)]
  · rw [hsz, List.length_append]
    have := h.le
    split <;> simp <;> omega
  · rw [hsz, once_snoc, List.length_append]
    have h1 := h.le
    have h2 := h.once
    cases e : l.any (fun x => x.f == r.f)
    · simp
      rw [h2]
    · simp
      omega

def ByIs (l : List Ru) : Prop := ∀ v w, Rus w v l → Calls Tryz.prog 61 #[v] w fun e w' => ∃ B D, e = .returned (.map (some B)) ∧ w.heap.size ≤ B ∧ w'.ownsMap Tryz.prog 9 (plainElem (H := Unit) Tryz.prog 3) B l.length D ∧ MapOf l D ∧ Below w.heap.size w w'

theorem key_of (r : Ru) (h : r.fr.size ≤ maxLen) : keyOf Tryz.prog 9 (.string r.fr) = some (.string r.f) := Go.WideMaps.keyOf_string_mk (P := Tryz.prog) Tryz.underlying9 h

set_option maxHeartbeats 2000000 in
set_option maxRecDepth 100000 in
theorem by_any (l : List Ru) (hl64 : l.length ≤ 64) (hsz : ∀ r ∈ l, r.fr.size ≤ 140737488355328) : ByIs l := by
  intro v w hv
  have hmm := make75
  have hmade : (w.alloc (.map #[] 0)).ownsMap Tryz.prog 9 (plainElem (H := Unit) Tryz.prog 3) w.heap.size 0 (.map []) := World.ownsMap_made _ _ _ _
  have hB0 := (Below.refl w.heap.size w).alloc (Nat.le_refl _) (.map #[] 0)
  rcases hv with ⟨rfl, a, cap, rfl⟩ | ⟨b, off, cap, rfl, hl, hm, hlt, hc⟩
  · go_enter Tryz.func61, Tryz.ntmps61
    go_wp2
    clear hmm
    generalize w.alloc (.map #[] 0) = w2 at *
    go_loopw [11] (fun x wr => x = .int .i64 0 ∧ wr = w2) (fun _ _ => 0)
    case atStart => exact ⟨rfl, rfl⟩
    case round =>
      obtain ⟨rfl, rfl⟩ := hrel
      go_wp2
      go_ret
      exact ⟨_, _, rfl, Nat.le_refl _, hmade, mapOf_nil, hB0⟩
  · go_enter Tryz.func61, Tryz.ntmps61
    go_wp2
    clear hmm
    generalize w.alloc (.map #[] 0) = w2 at *
    go_loopw [11] (fun y wr => ∃ (i : Nat) (D : DataW Unit), y = .int .i64 i ∧ i ≤ l.length ∧ wr.ownsMap Tryz.prog 9 (plainElem (H := Unit) Tryz.prog 3) w.heap.size i D ∧ Hid (MapOf (l.take i) D) ∧ Below w.heap.size w wr) (fun y _ => l.length - (intOf y).toNat)
    case atStart => exact ⟨0, _, rfl, by omega, hmade, by rw [List.take_zero]; exact mapOf_nil, hB0⟩
    case round =>
      obtain ⟨i, D, rfl, hi, hown, HM, hB⟩ := hrel
      by_cases hend : i < l.length
      · obtain ⟨hc1, hc2⟩ := hc i hend
        rw [← hB.cell (p := ⟨b, off + i * 2, none⟩) hlt] at hc1
        rw [← hB.cell (p := ⟨b, off + i * 2 + 1, none⟩) hlt] at hc2
        have HT := (show Hid (∀ D', D' = D.put (.string (nth l i).f) (.lit (.int .i64 (i : Nat))) → MapOf (l.take (i + 1)) D') from fun D' e => by
          have := mapOf_put HM.out (hown.tidy law9) (nth l i)
          rw [List.length_take, Nat.min_eq_left hi, ← take_nth l i hend] at this
          rw [e]
          exact this)
        have hkey := key_of (nth l i) (by have := hsz _ (nth_mem l i hend); unfold maxLen; omega)
        generalize nth l i = r at *
        have hown1 : (wr.alloc (.cells #[.string r.fr, .string r.to] 80)).ownsMap Tryz.prog 9 (plainElem (H := Unit) Tryz.prog 3) w.heap.size i D := by
          have b3 := (Below.refl wr.heap.size wr).alloc (Nat.le_refl _) (.cells #[.string r.fr, .string r.to] 80)
          exact hown.kept (row := none) ⟨b3.os, b3.tape, b3.output, b3.size, fun k hk _ => b3.block k hk⟩ (by simp)
        have hB1 : Below w.heap.size w (wr.alloc (.cells #[.string r.fr, .string r.to] 80)) := hB.alloc hB.size _
        clear hc HM hown hB
        go_wp2_with (at_mapUpdate; refine wpList_mapUpdate_own _ rfl _ _ _ 75 rfl 9 3 law9 Tryz.underlying75 _ w.heap.size i D rfl hown1 (by unfold maxLen; omega) _ _ _ rfl rfl hkey _ [] (plainElem_int Tryz.underlying3 (WalkArith.wf_i64 (by omega))) ?_; intro w4 hown4 hgrow4; have hB4 := hB1.grown hgrow4 hB1.size (by intro k hk; cases hk; omega))
        go_roundw
        case rel => exact ⟨i + 1, _, by go_num, by omega, hown4, HT.out _ rfl, hB4⟩
        case measure => simp [intOf]; omega
      · have he : i = l.length := by omega
        subst he
        rw [List.take_length] at HM
        go_wp2
        go_ret
        exact ⟨_, _, rfl, Nat.le_refl _, hown, HM.out, hB⟩
end Go.Proofs.YthmecbonjkcnmaaGreat.ru
