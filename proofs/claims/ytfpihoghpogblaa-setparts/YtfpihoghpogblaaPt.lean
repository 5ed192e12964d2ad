/-
  Plain mathematics, no program: each set is a whole number of classes; two classes are parted by some set; a set more, made of those there, changes none.
-/
import Derived.Test.YtfpihoghpogblaaCls
namespace Go.Proofs.Ytfpihoghpogblaa.st
set_option linter.unusedVariables false

theorem reps_prefix (p : Nat → Nat → Bool) (i d : Nat) : ∃ t, repsBy p (i + d) = repsBy p i ++ t := by
  induction d with
  | zero => exact ⟨[], by simp⟩
  | succ d ih =>
    obtain ⟨t, ht⟩ := ih
    cases h : (repsBy p (i + d)).any (fun c => p (i + d) c)
    · exact ⟨t ++ [i + d], by rw [← Nat.add_assoc, repsBy_out h, ht, List.append_assoc]⟩
    · exact ⟨t, by rw [← Nat.add_assoc, repsBy_in h, ht]⟩
theorem reps_rise (p : Nat → Nat → Bool) (i : Nat) : (repsBy p i).Pairwise (fun x y => x < y ∧ p y x = false) := by
  induction i with
  | zero => simp [repsBy]
  | succ i ih =>
    cases h : (repsBy p i).any (fun c => p i c)
    · rw [repsBy_out h, List.pairwise_append]
      refine ⟨ih, by simp, ?_⟩
      intro x hx y hy
      simp at hy
      subst hy
      refine ⟨repsBy_lt p y x hx, ?_⟩
      have := List.any_eq_false.1 h x hx
      simpa using this
    · rw [repsBy_in h]; exact ih
theorem reps_pair (p : Nat → Nat → Bool) (i : Nat) {m k : Nat} (hmk : m < k) (hk : k < (repsBy p i).length) : (repsBy p i)[m] < (repsBy p i)[k] ∧ p (repsBy p i)[k] (repsBy p i)[m] = false :=
  List.pairwise_iff_getElem.1 (reps_rise p i) m k (by omega) hk hmk
theorem found (p : Nat → Nat → Bool) (hp : ∀ b, p b b = true) (b : Nat) : clsBy p b < (repsBy p (b + 1)).length := by
  cases h : (repsBy p b).any (fun c => p b c)
  · rw [clsBy_out (hp b) h, repsBy_out h]; simp
  · rw [repsBy_in h]; exact (clsBy_in h).2
theorem cls_in {N : Nat} (hN : N = 256) (p : Nat → Nat → Bool) (hp : ∀ b, p b b = true) (b : Nat) (hb : b < 256) : ∃ hlt : clsBy p b < (repsBy p N).length, p b (repsBy p N)[clsBy p b] = true ∧ (repsBy p N)[clsBy p b] ≤ b := by
  obtain ⟨t, ht⟩ := reps_prefix p (b + 1) (N - (b + 1))
  rw [show b + 1 + (N - (b + 1)) = N from by omega] at ht
  have hf := found p hp b
  have hlt : clsBy p b < (repsBy p N).length := by rw [ht, List.length_append]; omega
  refine ⟨hlt, ?_⟩
  have e : (repsBy p N)[clsBy p b] = (repsBy p (b + 1))[clsBy p b] := by
    have h1 : (repsBy p N)[clsBy p b]? = (repsBy p (b + 1))[clsBy p b]? := by rw [ht, List.getElem?_append_left hf]
    rw [List.getElem?_eq_getElem hlt, List.getElem?_eq_getElem hf] at h1
    exact Option.some.inj h1
  rw [e]
  refine ⟨?_, ?_⟩
  · have : clsBy p b = (repsBy p (b + 1)).findIdx (fun c => p b c) := rfl
    have h2 := List.findIdx_getElem (p := fun c => p b c) (xs := repsBy p (b + 1)) (w := by rw [← this]; exact hf)
    exact h2
  · have := repsBy_lt p (b + 1) _ (List.getElem_mem hf)
    omega
theorem cls_rep {N : Nat} (hN : N = 256) (p : Nat → Nat → Bool) (hp : ∀ b, p b b = true) (hs : ∀ a b c, p a b = true → p a c = true → p b c = true) (k : Nat) (hk : k < (repsBy p N).length) : clsBy p (repsBy p N)[k] = k := by
  have hb : (repsBy p N)[k] < 256 := by have := repsBy_lt p N _ (List.getElem_mem hk); omega
  obtain ⟨hlt, h1, _⟩ := cls_in hN p hp _ hb
  rcases Nat.lt_trichotomy (clsBy p (repsBy p N)[k]) k with h | h | h
  · have := (reps_pair p N h hk).2
    rw [this] at h1
    cases h1
  · exact h
  · have h2 := (reps_pair p N h hlt).2
    have h3 := hs _ _ _ h1 (hp _)
    rw [h3] at h2
    cases h2

/-- the least bytes, found from above -/
def dn (f : Nat → Nat) (n : Nat) : Nat → List Nat
  | 0 => List.replicate n 0
  | i + 1 => (dn f n i).set (f (255 - i)) (255 - i)
theorem dn_length (f : Nat → Nat) (n i : Nat) : (dn f n i).length = n := by
  induction i with
  | zero => simp [dn]
  | succ i ih => simp [dn, ih]
theorem dn_at {N : Nat} (hN : N = 256) (p : Nat → Nat → Bool) (hp : ∀ b, p b b = true) (hs : ∀ a b c, p a b = true → p a c = true → p b c = true) (i : Nat) (hi : i ≤ 256) (k : Nat) (hk : k < (repsBy p N).length) (h : 256 - i ≤ (repsBy p N)[k]) :
    (dn (clsBy p) (repsBy p N).length i)[k]? = some (repsBy p N)[k] := by
  induction i with
  | zero =>
    have hb : (repsBy p N)[k] < 256 := by have := repsBy_lt p N _ (List.getElem_mem hk); omega
    omega
  | succ i ih =>
    rw [dn]
    by_cases e : clsBy p (255 - i) = k
    · rw [e, List.getElem?_set_self (by rw [dn_length]; exact hk)]
      obtain ⟨hlt, _, h2⟩ := cls_in hN p hp (255 - i) (by omega)
      have h3 : (repsBy p N)[k] ≤ 255 - i := by
        have : (repsBy p N)[clsBy p (255 - i)] = (repsBy p N)[k] := by congr 1
        omega
      congr 1
      omega
    · rw [List.getElem?_set_ne e]
      refine ih (by omega) ?_
      rcases Nat.lt_or_ge (repsBy p N)[k] (256 - i) with h4 | h4
      · exfalso
        have h5 : (repsBy p N)[k] = 255 - i := by omega
        have h6 := cls_rep hN p hp hs k hk
        rw [h5] at h6
        exact e h6
      · exact h4
theorem dn_all {N : Nat} (hN : N = 256) (p : Nat → Nat → Bool) (hp : ∀ b, p b b = true) (hs : ∀ a b c, p a b = true → p a c = true → p b c = true) : dn (clsBy p) (repsBy p N).length 256 = repsBy p N := by
  apply List.ext_getElem?
  intro k
  by_cases hk : k < (repsBy p N).length
  · rw [dn_at hN p hp hs 256 (by omega) k hk (by omega), List.getElem?_eq_getElem hk]
  · rw [List.getElem?_eq_none (by rw [dn_length]; omega), List.getElem?_eq_none (by omega)]

theorem like_trans (l : List Q4) (a b c : Nat) (h1 : like l a b = true) (h2 : like l a c = true) : like l b c = true := by
  simp [like] at *
  rw [← h1, ← h2]
theorem like_refl (l : List Q4) (a : Nat) : like l a a = true := by simp [like]
theorem like_has {l : List Q4} {a b : Nat} (h : like l a b = true) {q : Q4} (hq : q ∈ l) : has q a = has q b := by
  have : sig l a = sig l b := by simpa [like] using h
  exact (sig_eq l a b).1 this q hq

theorem reps_cong {p r : Nat → Nat → Bool} (h : ∀ i c, i < 256 → c < 256 → p i c = r i c) (i : Nat) (hi : i ≤ 256) : repsBy p i = repsBy r i := by
  induction i with
  | zero => rfl
  | succ i ih =>
    have e := ih (by omega)
    have e2 : (repsBy p i).any (fun c => p i c) = (repsBy r i).any (fun c => r i c) := by
      rw [e, Bool.eq_iff_iff, List.any_eq_true, List.any_eq_true]
      constructor
      · rintro ⟨x, hx, hh⟩
        exact ⟨x, hx, by rw [← h i x (by omega) (by have := repsBy_lt r i x hx; omega)]; exact hh⟩
      · rintro ⟨x, hx, hh⟩
        exact ⟨x, hx, by rw [h i x (by omega) (by have := repsBy_lt r i x hx; omega)]; exact hh⟩
    rw [repsBy, repsBy, e2, e]
theorem findIdx_cong {p r : Nat → Bool} (L : List Nat) (h : ∀ x ∈ L, p x = r x) : L.findIdx p = L.findIdx r := by
  induction L with
  | nil => rfl
  | cons x L ih => rw [List.findIdx_cons, List.findIdx_cons, h x (by simp), ih (fun y hy => h y (by simp [hy]))]
theorem cls_cong {p r : Nat → Nat → Bool} (h : ∀ i c, i < 256 → c < 256 → p i c = r i c) (b : Nat) (hb : b < 256) : clsBy p b = clsBy r b := by
  unfold clsBy
  rw [reps_cong h (b + 1) (by omega)]
  exact findIdx_cong _ (fun x hx => h b x hb (by have := repsBy_lt r (b + 1) x hx; omega))
theorem tbl_cong {p r : Nat → Nat → Bool} (h : ∀ i c, i < 256 → c < 256 → p i c = r i c) : tbl p 256 = tbl r 256 := by
  unfold tbl
  congr 1
  apply List.map_congr_left
  intro b hb
  exact cls_cong h b (by simpa using hb)
theorem like_more {l : List Q4} (hf : ∀ q ∈ l, Fits q) {q r : Q4} (hq : q ∈ l) (hr : r ∈ l) (b c : Nat) (hb : b < 256) (hc : c < 256) : like (l ++ [jn q (nt r)]) b c = like l b c := by
  unfold like
  rw [decide_eq_decide, sig_eq, sig_eq]
  constructor
  · intro h x hx
    exact h x (by simp [hx])
  · intro h x hx
    rcases List.mem_append.1 hx with hx | hx
    · exact h x hx
    · rw [List.mem_singleton.1 hx, has_jn _ _ b hb, has_jn _ _ c hc, has_nt (hf r hr) b hb, has_nt (hf r hr) c hc, h q hq, h r hr]
theorem reps_one {p : Nat → Nat → Bool} (h : ∀ a b, p a b = true) (i : Nat) : repsBy p (i + 1) = [0] := by
  induction i with
  | zero => rw [repsBy_out (by simp [repsBy])]; simp [repsBy]
  | succ i ih => rw [repsBy_in (by rw [ih]; simp [h]), ih]

/-- all that the law asks of the classes -/
structure Parts (l : List Q4) (xs L : List Nat) : Prop where
  len : xs.length = 256
  few : L.length ≤ 256
  c_lt : ∀ b, b < 256 → xs.getD b 0 < L.length
  l_lt : ∀ k, k < L.length → L.getD k 0 < 256
  rise : ∀ k, k + 1 < L.length → L.getD k 0 < L.getD (k + 1) 0
  parted : ∀ m k, m < k → k < L.length → like l (L.getD k 0) (L.getD m 0) = false
  whole : ∀ b, b < 256 → like l b (L.getD (xs.getD b 0) 0) = true
  down : dn (fun b => xs.getD b 0) L.length 256 = L
  lone : l = [] → L.length = 1
theorem dn_cong {f g : Nat → Nat} (h : ∀ b, b < 256 → f b = g b) (n i : Nat) : dn f n i = dn g n i := by
  induction i with
  | zero => rfl
  | succ i ih => rw [dn, dn, ih, h (255 - i) (by omega)]
theorem parts_of {N : Nat} (hN : N = 256) (l : List Q4) : Parts l (tbl (like l) 256) (repsBy (like l) N) := by
  have hx : ∀ b, b < 256 → (tbl (like l) 256).getD b 0 = clsBy (like l) b := fun b hb => by
    rw [List.getD_eq_getElem?_getD, tbl_at _ b hb]; rfl
  have hL : ∀ k (h : k < (repsBy (like l) N).length), (repsBy (like l) N).getD k 0 = (repsBy (like l) N)[k] := fun k h => by
    rw [List.getD_eq_getElem?_getD, List.getElem?_eq_getElem h]; rfl
  refine ⟨tbl_length _ _ (by omega), by have := repsBy_length (like l) N; omega, fun b hb => ?_, fun k hk => ?_, fun k hk => ?_, fun m k hmk hk => ?_, fun b hb => ?_, ?_, fun h => ?_⟩
  · rw [hx b hb]
    exact (cls_in hN _ (like_refl l) b hb).1
  · rw [hL k hk]
    have := repsBy_lt _ N _ (List.getElem_mem hk)
    omega
  · rw [hL k (by omega), hL (k + 1) hk]
    exact (reps_pair _ N (Nat.lt_succ_self k) hk).1
  · rw [hL k hk, hL m (by omega)]
    exact (reps_pair _ N hmk hk).2
  · obtain ⟨hlt, h1, _⟩ := cls_in hN _ (like_refl l) b hb
    rw [hx b hb, hL _ hlt]
    exact h1
  · rw [dn_cong hx]
    exact dn_all hN _ (like_refl l) (like_trans l)
  · subst h
    have h1 : ∀ a b, like [] a b = true := fun a b => rfl
    rw [show N = 255 + 1 from hN, reps_one h1]
    rfl
theorem parts_more {l : List Q4} (hf : ∀ q ∈ l, Fits q) {q r : Q4} (hq : q ∈ l) (hr : r ∈ l) : tbl (like (l ++ [jn q (nt r)])) 256 = tbl (like l) 256 ∧ repsBy (like (l ++ [jn q (nt r)])) 256 = repsBy (like l) 256 :=
  ⟨tbl_cong (fun b c hb hc => like_more hf hq hr b c hb hc), reps_cong (fun b c hb hc => like_more hf hq hr b c hb hc) 256 (by omega)⟩
end Go.Proofs.Ytfpihoghpogblaa.st
