/-
  What is written of an expression's tree is read again as that tree; the law RegexBack.
-/
import Derived.Test.YtfclidcfhadohaaDoorPs
import Derived.Test.YtfclidcfhadohaaDoorPa
import Derived.Test.YtfclidcfhadohaaDoorArg
import Derived.Test.YtfclidcfhadohaaDoorXr
import Derived.Test.YtfclidcfhadohaaDoorQl
import Derived.Test.YtfclidcfhadohaaDoorXp
namespace Go.Proofs.YtfclidcfhadohaaDoor.bk
open Go.Proofs.YtfclidcfhadohaaDoor.st
set_option linter.unusedVariables false

def cs (l : List UInt8) : List Nat := l.map UInt8.toNat
theorem cs_app (a b : List UInt8) : cs (a ++ b) = cs a ++ cs b := List.map_append
theorem cs_cons (a : UInt8) (b : List UInt8) : cs (a :: b) = a.toNat :: cs b := rfl
theorem cs_nil : cs [] = [] := rfl
theorem cs_len (a : List UInt8) : (cs a).length = a.length := List.length_map ..
theorem nat_of (n : Nat) (h : n < 256) : (UInt8.ofNat n).toNat = n := by simp; omega

theorem hx_ok : ∀ n : Fin 16, (rp.hx n).toNat ∈ hexes ∧ hexv (rp.hx n).toNat = n := by decide +kernel
theorem behind_ok : ∀ c ∈ behind, c ∈ escapes ∧ c ≠ 110 ∧ c ≠ 116 ∧ c ≠ 114 ∧ c ≠ 120 ∧ kindOf c = none := by decide
theorem signs_behind : ∀ c ∈ signs, c ∈ behind := by decide

/-- how a byte may be written -/
theorem wr_cases (c : Nat) (h : c < 256) (b : Bool) :
    (cs (rp.wr c b) = [92, c] ∧ c ∈ behind) ∨ (cs (rp.wr c b) = [92, 110] ∧ c = 10) ∨ (cs (rp.wr c b) = [92, 116] ∧ c = 9) ∨ (cs (rp.wr c b) = [92, 114] ∧ c = 13) ∨
    (cs (rp.wr c b) = [c] ∧ c ∉ signs ∧ (b = true → c ≠ 45)) ∨ ∃ x y, x < 16 ∧ y < 16 ∧ cs (rp.wr c b) = [92, 120, (rp.hx x).toNat, (rp.hx y).toNat] ∧ c = 16 * x + y := by
  unfold rp.wr
  by_cases h1 : (rp.isSign c || (b && (decide (c = 45) || decide (c = 47)))) = true
  · rw [if_pos h1]
    refine .inl ⟨by rw [cs_cons, cs_cons, nat_of c h]; rfl, ?_⟩
    simp only [Bool.or_eq_true, Bool.and_eq_true, decide_eq_true_eq] at h1
    rcases h1 with h1 | ⟨_, rfl | rfl⟩
    · exact signs_behind c (by unfold rp.isSign at h1; simpa [signs] using h1)
    · decide
    · decide
  · rw [if_neg h1]
    by_cases h2 : c = 10
    · rw [if_pos h2]; exact .inr (.inl ⟨rfl, h2⟩)
    rw [if_neg h2]
    by_cases h3 : c = 9
    · rw [if_pos h3]; exact .inr (.inr (.inl ⟨rfl, h3⟩))
    rw [if_neg h3]
    by_cases h4 : c = 13
    · rw [if_pos h4]; exact .inr (.inr (.inr (.inl ⟨rfl, h4⟩)))
    rw [if_neg h4]
    by_cases h5 : 33 ≤ c ∧ c ≤ 126
    · rw [if_pos h5]
      refine .inr (.inr (.inr (.inr (.inl ⟨by rw [cs_cons, nat_of c h]; rfl, ?_, ?_⟩))))
      · intro hs
        apply h1
        have : rp.isSign c = true := by unfold rp.isSign; simpa [signs] using hs
        rw [this]; rfl
      · intro hb he
        apply h1
        rw [hb, he]
        simp
    · rw [if_neg h5]
      exact .inr (.inr (.inr (.inr (.inr ⟨c / 16, c % 16, by omega, by omega, rfl, by omega⟩))))

theorem outside_signs (c : Nat) (h : c ∉ signs) (h2 : c ≠ 45) : c ∉ outside := by
  intro ho
  have : ∀ c ∈ outside, c ∈ signs ∨ c = 45 := by decide
  rcases this c ho with h3 | h3
  · exact h h3
  · exact h2 h3
theorem sees_ne (s : List Nat) (c : Nat) (l : List Nat) (h : c ∉ s) : sees s (c :: l) = false := by unfold sees; simpa using h
theorem sees_in (s : List Nat) (c : Nat) (l : List Nat) (h : c ∈ s) : sees s (c :: l) = true := by unfold sees; simpa using h

theorem one_to (c : Nat) (h : c ∈ behind) (rest : List Nat) : one (c :: rest) = .ok c rest := by
  obtain ⟨h1, h2, h3, h4, h5, _⟩ := behind_ok c h
  unfold one oneOf
  rw [sees_in _ _ _ h1, if_pos rfl]
  show (if c = 110 then R.ok 10 rest else if c = 116 then .ok 9 rest else if c = 114 then .ok 13 rest else _) = _
  rw [if_neg h2, if_neg h3, if_neg h4, if_neg h5]
theorem hex_to (x : Nat) (h : x < 16) (rest : List Nat) : hex ((rp.hx x).toNat :: rest) = .ok x rest := by
  obtain ⟨h1, h2⟩ := hx_ok ⟨x, h⟩
  unfold hex oneOf
  rw [sees_in _ _ _ h1, if_pos rfl]
  show R.ok (hexv (rp.hx x).toNat) rest = _
  rw [h2]
theorem one_hex (x y : Nat) (hx : x < 16) (hy : y < 16) (rest : List Nat) : one (120 :: (rp.hx x).toNat :: (rp.hx y).toNat :: rest) = .ok (16 * x + y) rest := by
  unfold one oneOf
  rw [sees_in _ _ _ (by decide), if_pos rfl]
  show ((hex ((rp.hx x).toNat :: (rp.hx y).toNat :: rest)).then fun a l => (hex l).then fun b l => R.ok (16 * a + b) l) = _
  rw [hex_to x hx]
  show ((hex ((rp.hx y).toNat :: rest)).then fun b l => R.ok (16 * x + b) l) = _
  rw [hex_to y hy]
  rfl
theorem point_back (s l : List Nat) : point s (92 :: l) = one l := by unfold point; rw [sees_in _ _ _ (by decide), if_pos rfl]; rfl
/-- a byte is read again -/
theorem point_wr (c : Nat) (h : c < 256) (b : Bool) (rest : List Nat) : point (if b = true then outside else signs) (cs (rp.wr c b) ++ rest) = .ok c rest := by
  rcases wr_cases c h b with ⟨e, hb⟩ | ⟨e, rfl⟩ | ⟨e, rfl⟩ | ⟨e, rfl⟩ | ⟨e, hs, h45⟩ | ⟨x, y, hx, hy, e, rfl⟩
  · rw [e]; exact (point_back _ _).trans (one_to c hb rest)
  · rw [e]; exact (point_back _ _).trans rfl
  · rw [e]; exact (point_back _ _).trans rfl
  · rw [e]; exact (point_back _ _).trans rfl
  · rw [e]
    have h92 : c ∉ [92] := fun hc => hs (by have := List.mem_singleton.1 hc; subst this; decide)
    have hst : c ∉ (if b = true then outside else signs) := by
      cases b
      · exact hs
      · exact outside_signs c hs (h45 rfl)
    show point _ (c :: rest) = _
    unfold point noneOf
    rw [sees_ne _ _ _ h92, if_neg (by decide), sees_ne _ _ _ hst, if_neg (by decide)]
    rfl
  · rw [e]; exact (point_back _ _).trans (one_hex x y hx hy rest)
/-- it is no kind -/
theorem kind_wr (c : Nat) (h : c < 256) (b : Bool) (rest : List Nat) : kind (cs (rp.wr c b) ++ rest) = none := by
  rcases wr_cases c h b with ⟨e, hb⟩ | ⟨e, rfl⟩ | ⟨e, rfl⟩ | ⟨e, rfl⟩ | ⟨e, hs, h45⟩ | ⟨x, y, hx, hy, e, rfl⟩
  · rw [e]
    show (if 92 = 92 then (kindOf c).map fun q => (q, rest) else none) = none
    rw [if_pos rfl, (behind_ok c hb).2.2.2.2.2]
    rfl
  · rw [e]; rfl
  · rw [e]; rfl
  · rw [e]; rfl
  · rw [e]
    have h92 : c ≠ 92 := fun hc => hs (by subst hc; decide)
    cases rest with
    | nil => rfl
    | cons d l =>
      show (if c = 92 then _ else none) = none
      rw [if_neg h92]
  · rw [e]; rfl
/-- how it begins -/
theorem wr_head (c : Nat) (h : c < 256) (b : Bool) : ∃ x l, cs (rp.wr c b) = x :: l ∧ (x = 92 ∨ (x ∉ signs ∧ (b = true → x ≠ 45))) := by
  rcases wr_cases c h b with ⟨e, hb⟩ | ⟨e, rfl⟩ | ⟨e, rfl⟩ | ⟨e, rfl⟩ | ⟨e, hs, h45⟩ | ⟨x, y, hx, hy, e, rfl⟩
  · exact ⟨_, _, e, .inl rfl⟩
  · exact ⟨_, _, e, .inl rfl⟩
  · exact ⟨_, _, e, .inl rfl⟩
  · exact ⟨_, _, e, .inl rfl⟩
  · exact ⟨_, _, e, .inr ⟨hs, h45⟩⟩
  · exact ⟨_, _, e, .inl rfl⟩
theorem wr_sees (c : Nat) (h : c < 256) (b : Bool) (rest : List Nat) (s : List Nat) (hs : ∀ x ∈ s, x ≠ 92 ∧ (x ∈ signs ∨ (b = true ∧ x = 45))) : sees s (cs (rp.wr c b) ++ rest) = false := by
  obtain ⟨x, l, e, hx⟩ := wr_head c h b
  rw [e]
  refine sees_ne _ _ _ fun hm => ?_
  obtain ⟨h1, h2⟩ := hs x hm
  rcases hx with rfl | ⟨h3, h4⟩
  · exact h1 rfl
  · rcases h2 with h2 | ⟨hb, h2⟩
    · exact h3 h2
    · exact h4 hb h2

theorem part_one (c : Nat) (h : c < 256) (rest : List Nat) (hr : sees [45] rest = false) : st.part (cs (rp.wr c true) ++ rest) = .ok (rng c c) rest := by
  unfold st.part
  rw [kind_wr c h]
  show (point outside (cs (rp.wr c true) ++ rest)).then _ = _
  have := point_wr c h true rest
  rw [if_pos rfl] at this
  rw [this]
  show (if sees [45] rest = true then _ else R.ok (rng c c) rest) = _
  rw [hr, if_neg (by decide)]
theorem part_two (a b : Nat) (ha : a < 256) (hb : b < 256) (hab : a ≤ b) (rest : List Nat) : st.part (cs (rp.wr a true) ++ 45 :: (cs (rp.wr b true) ++ rest)) = .ok (rng a b) rest := by
  unfold st.part
  rw [kind_wr a ha]
  show (point outside (cs (rp.wr a true) ++ 45 :: (cs (rp.wr b true) ++ rest))).then _ = _
  have h1 := point_wr a ha true (45 :: (cs (rp.wr b true) ++ rest))
  have h2 := point_wr b hb true rest
  rw [if_pos rfl] at h1 h2
  rw [h1]
  show (if sees [45] (45 :: (cs (rp.wr b true) ++ rest)) = true then (point outside (cs (rp.wr b true) ++ rest)).then (fun b' l2 => if b' < a then R.bad 60 (45 :: (cs (rp.wr b true) ++ rest)).tail else R.ok (rng a b') l2) else R.ok (rng a a) (45 :: (cs (rp.wr b true) ++ rest))) = _
  rw [sees_in _ _ _ (by decide), if_pos rfl, h2]
  show (if b < a then _ else R.ok (rng a b) rest) = _
  rw [if_neg (by omega)]

theorem has_rng (lo hi n : Nat) (h : n < 256) : has (rng lo hi) n = (decide (lo ≤ n) && decide (n ≤ hi)) := has_such _ n h
/-- those that stand one behind the other -/
theorem run_take (c : Nat) (l : List Nat) (m : Nat) : (m ∈ l.take (rp.rn c l)) ↔ c < m ∧ m ≤ c + rp.rn c l := by
  have hle := rp.rn_le c l
  rw [List.mem_take_iff_getElem]
  constructor
  · rintro ⟨i, hi, rfl⟩
    rw [rp.rn_at c l i (by omega) (by omega)]
    omega
  · rintro ⟨h1, h2⟩
    refine ⟨m - c - 1, by omega, ?_⟩
    rw [rp.rn_at c l _ (by omega) (by omega)]
    omega
theorem join_run (q : Q4) (hq : Fits q) (c : Nat) (l : List Nat) (k : Nat) (hk : k = rp.rn c l ∨ k = 0) : (l.drop k).foldl wth (jn q (rng c (c + k))) = (c :: l).foldl wth q := by
  refine ext (foldl_fits _ _ (fits_jn hq (fits_rng _ _))) (foldl_fits _ _ hq) fun n hn => ?_
  rw [foldl_has _ _ _ hn, foldl_has _ _ _ hn, has_jn _ _ _ hn, has_rng _ _ _ hn]
  have hm : (n ∈ c :: l) ↔ (c ≤ n ∧ n ≤ c + k) ∨ n ∈ l.drop k := by
    rcases hk with rfl | rfl
    · have h1 := run_take c l n
      have h2 : n ∈ l ↔ n ∈ l.take (rp.rn c l) ∨ n ∈ l.drop (rp.rn c l) := by rw [← List.mem_append, List.take_append_drop]
      rw [List.mem_cons, h2, h1]
      constructor
      · rintro (rfl | h | h)
        · exact .inl ⟨Nat.le_refl _, by omega⟩
        · exact .inl ⟨by omega, h.2⟩
        · exact .inr h
      · rintro (h | h)
        · by_cases e : n = c
          · exact .inl e
          · exact .inr (.inl ⟨by omega, h.2⟩)
        · exact .inr (.inr h)
    · rw [List.mem_cons, List.drop_zero, Nat.add_zero]
      constructor
      · rintro (rfl | h)
        · exact .inl ⟨Nat.le_refl _, Nat.le_refl _⟩
        · exact .inr h
      · rintro (h | h)
        · exact .inl (by omega)
        · exact .inr h
  by_cases h1 : n ∈ l.drop k
  · simp [h1, hm]
  · by_cases h2 : c ≤ n ∧ n ≤ c + k
    · simp [h1, hm, h2]
    · have : ¬ (n ∈ c :: l) := fun h => by rcases hm.1 h with h | h; exact h2 h; exact h1 h
      have h3 : (decide (c ≤ n) && decide (n ≤ c + k)) = false := by simp only [Bool.and_eq_false_iff, decide_eq_false_iff_not]; omega
      rw [h3, decide_eq_false h1, decide_eq_false this]
      simp

/-- what stands behind a part begins neither with a minus nor with the end -/
theorem prt_sees (f : Nat) (L : List Nat) (hL : ∀ x ∈ L, x < 256) (rest : List Nat) : sees [45] (cs (rp.prt f L) ++ 93 :: rest) = false := by
  cases f with
  | zero => rfl
  | succ f =>
    cases L with
    | nil => rfl
    | cons c l =>
      have hc := hL c (by simp)
      unfold rp.prt
      split
      · rw [List.append_assoc, cs_app, List.append_assoc]
        exact wr_sees c hc true _ _ (by simp)
      · rw [cs_app, List.append_assoc]
        exact wr_sees c hc true _ _ (by simp)
theorem prt_first (f c : Nat) (l : List Nat) (hL : ∀ x ∈ c :: l, x < 256) (rest : List Nat) : ∃ k, (k = rp.rn c l ∨ k = 0) ∧ (rp.prt f (l.drop k)).length < (rp.prt (f + 1) (c :: l)).length ∧
    sees [93] (cs (rp.prt (f + 1) (c :: l)) ++ 93 :: rest) = false ∧ sees [94] (cs (rp.prt (f + 1) (c :: l)) ++ 93 :: rest) = false ∧
    st.part (cs (rp.prt (f + 1) (c :: l)) ++ 93 :: rest) = .ok (rng c (c + k)) (cs (rp.prt f (l.drop k)) ++ 93 :: rest) := by
  have hc := hL c (by simp)
  have hw := (rp.wr_len c true).1
  by_cases h3 : 3 ≤ rp.rn c l
  · have hle := rp.rn_le c l
    have hb : c + rp.rn c l < 256 := by
      have h1 := rp.rn_at c l (rp.rn c l - 1) (by omega) (by omega)
      have h2 := hL _ (List.mem_cons_of_mem c (List.getElem_mem (by omega : rp.rn c l - 1 < l.length)))
      omega
    have e : cs (rp.prt (f + 1) (c :: l)) ++ 93 :: rest = cs (rp.wr c true) ++ 45 :: (cs (rp.wr (c + rp.rn c l) true) ++ (cs (rp.prt f (l.drop (rp.rn c l))) ++ 93 :: rest)) := by
      rw [rp.prt, if_pos h3]
      simp [cs]
    refine ⟨rp.rn c l, .inl rfl, ?_, ?_, ?_, ?_⟩
    · rw [rp.prt.eq_3, if_pos h3]; simp; omega
    · rw [e]; exact wr_sees c hc true _ _ (by decide)
    · rw [e]; exact wr_sees c hc true _ _ (by decide)
    · rw [e, part_two c _ hc hb (by omega)]
  · have e : cs (rp.prt (f + 1) (c :: l)) ++ 93 :: rest = cs (rp.wr c true) ++ (cs (rp.prt f l) ++ 93 :: rest) := by
      rw [rp.prt, if_neg h3]
      simp [cs]
    refine ⟨0, .inr rfl, ?_, ?_, ?_, ?_⟩
    · rw [rp.prt.eq_3, if_neg h3, List.drop_zero]; simp; omega
    · rw [e]; exact wr_sees c hc true _ _ (by decide)
    · rw [e]; exact wr_sees c hc true _ _ (by decide)
    · rw [e, part_one c hc _ (prt_sees f l (fun x hx => hL x (by simp [hx])) rest), List.drop_zero]
      rfl
theorem parts_read (f : Nat) : ∀ (L : List Nat) (n : Nat) (q : Q4) (rest : List Nat), L.length ≤ f → (∀ x ∈ L, x < 256) → Fits q → (rp.prt f L).length < n → parts n q (cs (rp.prt f L) ++ 93 :: rest) = .ok (L.foldl wth q) rest := by
  induction f with
  | zero =>
    intro L n q rest hf hL hq hn
    obtain rfl : L = [] := List.length_eq_zero_iff.1 (by omega)
    obtain ⟨m, rfl⟩ : ∃ m, n = m + 1 := ⟨n - 1, by omega⟩
    rfl
  | succ f ih =>
    intro L n q rest hf hL hq hn
    obtain ⟨m, rfl⟩ : ∃ m, n = m + 1 := ⟨n - 1, by omega⟩
    cases L with
    | nil => rfl
    | cons c l =>
      obtain ⟨k, hk, h1, h2, _, h4⟩ := prt_first f c l hL rest
      simp only [List.length_cons] at hf
      rw [parts, h2, if_neg (by decide), h4]
      show parts m (jn q (rng c (c + k))) (cs (rp.prt f (l.drop k)) ++ 93 :: rest) = _
      rw [ih (l.drop k) m _ rest (by simp; omega) (fun x hx => hL x (List.mem_cons_of_mem c (List.mem_of_mem_drop hx))) (fits_jn hq (fits_rng _ _)) (by omega), join_run q hq c l k hk]
theorem jn_none (q : Q4) (hq : Fits q) : jn none4 q = q := ext (fits_jn fits_none hq) hq fun n hn => by rw [has_jn _ _ _ hn, has_none, Bool.false_or]
/-- a class is read again -/
theorem cls_read (c : Nat) (l : List Nat) (hL : ∀ x ∈ c :: l, x < 256) (o : Bool) (rest : List Nat) : cls ((if o = true then [94] else []) ++ (cs (rp.parts (c :: l)) ++ 93 :: rest)) = .ok (if o = true then nt (ofl (c :: l)) else ofl (c :: l)) rest := by
  obtain ⟨k, hk, h1, h2, h3, h4⟩ := prt_first l.length c l hL rest
  have hp : rp.parts (c :: l) = rp.prt (l.length + 1) (c :: l) := rfl
  rw [hp]
  have hj : (l.drop k).foldl wth (rng c (c + k)) = ofl (c :: l) := by
    have := join_run none4 fits_none c l k hk
    rw [jn_none _ (fits_rng _ _)] at this
    exact this
  have hr := parts_read l.length (l.drop k) ((cs (rp.prt l.length (l.drop k)) ++ 93 :: rest).length + 1) (rng c (c + k)) rest (by simp) (fun x hx => hL x (List.mem_cons_of_mem c (List.mem_of_mem_drop hx))) (fits_rng _ _) (by simp [cs_len]; omega)
  rw [hj] at hr
  cases o
  · rw [if_neg (by decide), if_neg (by decide), List.nil_append]
    unfold cls
    simp only [h3, Bool.false_eq_true, if_false, h4]
    show ((parts ((cs (rp.prt l.length (l.drop k)) ++ 93 :: rest).length + 1) (rng c (c + k)) (cs (rp.prt l.length (l.drop k)) ++ 93 :: rest)).then fun q l2 => R.ok q l2) = _
    rw [hr]
    rfl
  · rw [if_pos rfl, if_pos rfl]
    unfold cls
    have h5 : sees [94] ([94] ++ (cs (rp.prt (l.length + 1) (c :: l)) ++ 93 :: rest)) = true := sees_in _ _ _ (by decide)
    simp only [h5, if_true]
    show ((st.part (cs (rp.prt (l.length + 1) (c :: l)) ++ 93 :: rest)).then fun q l1 => (parts (l1.length + 1) q l1).then fun q l2 => R.ok (nt q) l2) = _
    rw [h4]
    show ((parts ((cs (rp.prt l.length (l.drop k)) ++ 93 :: rest).length + 1) (rng c (c + k)) (cs (rp.prt l.length (l.drop k)) ++ 93 :: rest)).then fun q l2 => R.ok (nt q) l2) = _
    rw [hr]
    rfl

theorem rng_one (c : Nat) : rng c c = ofl [c] := ext (fits_rng _ _) (fits_ofl _) fun n hn => by
  rw [has_rng _ _ _ hn, has_ofl _ _ hn]
  by_cases h : n = c
  · subst h; simp
  · have : ¬ (c ≤ n ∧ n ≤ c) := by omega
    have h3 : (decide (c ≤ n) && decide (n ≤ c)) = false := by simp only [Bool.and_eq_false_iff, decide_eq_false_iff_not]; omega
    rw [h3, decide_eq_false (by simpa using h)]
theorem every_L : rp.everyL = 91 :: rp.parts (List.range 256) ++ [93] := by decide +kernel
theorem nothing_L : rp.nothingL = 91 :: 94 :: rp.parts (List.range 256) ++ [93] := by decide +kernel
/-- a set is read again -/
theorem single_set (q : Q4) (hq : Fits q) (rest : List Nat) : single (cs (rp.setT q) ++ rest) = .ok q rest := by
  have hcl : ∀ (L : List Nat) (o : Bool), L ≠ [] → (∀ x ∈ L, x < 256) → single (91 :: ((if o = true then [94] else []) ++ (cs (rp.parts L) ++ 93 :: rest))) = .ok (if o = true then nt (ofl L) else ofl L) rest := by
    intro L o hne hL
    cases L with
    | nil => exact absurd rfl hne
    | cons c l =>
      unfold single
      rw [sees_in _ _ _ (by decide), if_pos rfl]
      exact cls_read c l hL o rest
  have hmq : ∀ q : Q4, ∀ x ∈ mem q, x < 256 := fun q x hx => mem_lt hx
  unfold rp.setT
  by_cases h1 : cnt q = 1
  · rw [if_pos h1]
    obtain ⟨c, hc⟩ : ∃ c, mem q = [c] := List.length_eq_one_iff.1 h1
    have hlt := hmq q c (by rw [hc]; simp)
    have hg : (mem q).getD 0 0 = c := by rw [hc]; rfl
    rw [hg]
    have hqo : ofl [c] = q := by rw [← hc]; exact ofl_mem hq
    unfold single
    rw [wr_sees c hlt false rest [91] (by decide), if_neg (by decide), wr_sees c hlt false rest [46] (by decide), if_neg (by decide), kind_wr c hlt]
    have hp := point_wr c hlt false rest
    rw [if_neg (by decide)] at hp
    show (point signs (cs (rp.wr c false) ++ rest)).then _ = _
    rw [hp]
    show R.ok (rng c c) rest = _
    rw [rng_one, hqo]
  · rw [if_neg h1]
    by_cases h2 : rp.eq4 q rp.dotQ = true
    · rw [if_pos h2]
      rw [(rp.eq4_iff _ _).1 h2]
      rfl
    · rw [if_neg h2]
      by_cases h3 : cnt q = 0
      · rw [if_pos h3, nothing_L]
        have := hcl (List.range 256) true (fun e => by have := congrArg List.length e; simp at this) (fun x hx => List.mem_range.1 hx)
        rw [if_pos rfl, if_pos rfl] at this
        have e : cs (91 :: 94 :: rp.parts (List.range 256) ++ [93]) ++ rest = 91 :: ([94] ++ (cs (rp.parts (List.range 256)) ++ 93 :: rest)) := by simp [cs]
        rw [e, this]
        refine congrArg (fun q => R.ok q rest) (ext (fits_nt _) hq fun n hn => ?_)
        rw [has_nt (fits_ofl _) n hn, has_ofl _ n hn, decide_eq_true (List.mem_range.2 hn)]
        have hm : mem q = [] := List.length_eq_zero_iff.1 h3
        cases hx : has q n with
        | false => rfl
        | true =>
          have : n ∈ mem q := by unfold mem; rw [List.mem_filter]; exact ⟨List.mem_range.2 hn, hx⟩
          rw [hm] at this
          simp at this
      · rw [if_neg h3]
        by_cases h4 : cnt q = 256
        · rw [if_pos h4, every_L]
          have := hcl (List.range 256) false (fun e => by have := congrArg List.length e; simp at this) (fun x hx => List.mem_range.1 hx)
          rw [if_neg (by decide), if_neg (by decide), List.nil_append] at this
          have e : cs (91 :: rp.parts (List.range 256) ++ [93]) ++ rest = 91 :: (cs (rp.parts (List.range 256)) ++ 93 :: rest) := by simp [cs]
          rw [e, this]
          refine congrArg (fun q => R.ok q rest) (ext (fits_ofl _) hq fun n hn => ?_)
          rw [has_ofl _ n hn, decide_eq_true (List.mem_range.2 hn)]
          have hm : ∀ x ∈ List.range 256, has q x = true := by
            have : ((List.range 256).filter (has q)).length = (List.range 256).length := by show cnt q = _; rw [h4]; simp
            exact List.length_filter_eq_length_iff.1 this
          exact (hm n (List.mem_range.2 hn)).symm
        · rw [if_neg h4]
          have hcn := cnt_nt hq
          have hcl2 := cnt_le q
          by_cases h5 : 128 < cnt q
          · rw [if_pos h5]
            have := hcl (mem (nt q)) true (fun e => by have : cnt (nt q) = 0 := by unfold cnt; rw [e]; rfl
                                                       omega) (hmq _)
            rw [if_pos rfl, if_pos rfl, ofl_mem (fits_nt q), rule5 hq] at this
            rw [← this]
            simp [cs]
          · rw [if_neg h5]
            have := hcl (mem q) false (fun e => h3 (by unfold cnt; rw [e]; rfl)) (hmq _)
            rw [if_neg (by decide), if_neg (by decide), ofl_mem hq, List.nil_append] at this
            rw [← this]
            simp [cs]
end Go.Proofs.YtfclidcfhadohaaDoor.bk

namespace Go.Proofs.YtfclidcfhadohaaDoor.bk
open Go.Proofs.YtfclidcfhadohaaDoor.st
set_option linter.unusedVariables false

/-! times -/
theorem dig_in : ∀ n : Fin 10, 48 + n.val ∈ digits := by decide
theorem cs_dec (n : Nat) (h : n ≤ 20) : cs (rp.dec (n : Int)) = if n < 10 then [48 + n] else [48 + n / 10, 48 + n % 10] := by
  unfold rp.dec
  rw [Int.toNat_natCast]
  by_cases h1 : n < 10
  · rw [Lib.decDigits_one h1, if_pos h1, cs_cons, nat_of _ (by omega)]; rfl
  · rw [Lib.decDigits_two h1 (by omega), if_neg h1, cs_cons, cs_cons, nat_of _ (by omega), nat_of _ (by omega)]; rfl
theorem num_dec (least n : Nat) (h : n ≤ 20) (hl : least ≤ n) (r : List Nat) (hr : sees digits r = false) : num least (cs (rp.dec (n : Int)) ++ r) = .ok n r := by
  rw [cs_dec n h]
  by_cases h1 : n < 10
  · rw [if_pos h1]
    have hd := dig_in ⟨n, h1⟩
    show num least ((48 + n) :: r) = _
    unfold num oneOf
    rw [sees_in _ _ _ hd, if_pos rfl]
    simp only [st.step, R.then, hr, Bool.false_eq_true, if_false]
    rw [show 48 + n - 48 = n from by omega, if_neg (by omega)]
  · rw [if_neg h1]
    have hd := dig_in ⟨n / 10, by omega⟩
    have hd2 := dig_in ⟨n % 10, by omega⟩
    show num least ((48 + n / 10) :: (48 + n % 10) :: r) = _
    unfold num oneOf
    rw [sees_in _ _ _ hd, if_pos rfl]
    simp only [st.step, R.then, sees_in _ _ _ hd2, if_true, List.headD_cons, List.tail_cons]
    rw [show 10 * (48 + n / 10 - 48) + (48 + n % 10 - 48) = n from by omega, if_neg (by omega)]
theorem bounds_up (a : Nat) (ha : a ≤ 20) (r : List Nat) : bounds (cs (rp.dec (a : Int)) ++ 44 :: 125 :: r) = .ok ((a : Int), -1) r := by
  unfold bounds
  rw [num_dec 0 a ha (by omega) _ (sees_ne _ _ _ (by decide))]
  rfl
theorem bounds_one (a : Nat) (ha : a ≤ 20) (r : List Nat) : bounds (cs (rp.dec (a : Int)) ++ 125 :: r) = .ok ((a : Int), (a : Int)) r := by
  unfold bounds
  rw [num_dec 0 a ha (by omega) _ (sees_ne _ _ _ (by decide))]
  rfl
theorem dec_head (b : Nat) (hb : b ≤ 20) (r : List Nat) : sees digits (cs (rp.dec (b : Int)) ++ r) = true := by
  rw [cs_dec b hb]
  split
  · exact sees_in _ _ _ (dig_in ⟨b, by omega⟩)
  · exact sees_in _ _ _ (dig_in ⟨b / 10, by omega⟩)
theorem bounds_two (a b : Nat) (hab : a ≤ b) (hb : b ≤ 20) (r : List Nat) : bounds (cs (rp.dec (a : Int)) ++ 44 :: (cs (rp.dec (b : Int)) ++ 125 :: r)) = .ok ((a : Int), (b : Int)) r := by
  unfold bounds
  rw [num_dec 0 a (by omega) (by omega) _ (sees_ne _ _ _ (by decide))]
  show (if sees digits (cs (rp.dec (b : Int)) ++ 125 :: r) = true then (num a (cs (rp.dec (b : Int)) ++ 125 :: r)).then (fun b l2 => (oneOf [125] l2).then fun _ l3 => R.ok ((a : Int), (b : Int)) l3) else _) = _
  rw [dec_head b hb, if_pos rfl, num_dec a b hb hab _ (sees_ne _ _ _ (by decide))]
  rfl
theorem times_read (mn mx : Int) (h : timesOk mn mx = true) (r : List Nat) : times (cs (rp.timesT mn mx) ++ r) = .ok (mn, mx) r ∧ sees [42, 43, 63, 123] (cs (rp.timesT mn mx) ++ r) = true ∧ rp.timesT mn mx ≠ [] := by
  unfold timesOk at h
  simp only [Bool.and_eq_true, Bool.or_eq_true, decide_eq_true_eq] at h
  obtain ⟨⟨h0, h20⟩, h3⟩ := h
  obtain ⟨a, rfl⟩ := Int.eq_ofNat_of_zero_le h0
  unfold rp.timesT
  by_cases h1 : (a : Int) = 0 ∧ mx = -1
  · rw [if_pos h1, h1.1, h1.2]; exact ⟨rfl, rfl, by simp⟩
  rw [if_neg h1]
  by_cases h2 : (a : Int) = 1 ∧ mx = -1
  · rw [if_pos h2, h2.1, h2.2]; exact ⟨rfl, rfl, by simp⟩
  rw [if_neg h2]
  by_cases h4 : (a : Int) = 0 ∧ mx = 1
  · rw [if_pos h4, h4.1, h4.2]; exact ⟨rfl, rfl, by simp⟩
  rw [if_neg h4]
  by_cases h5 : mx = -1
  · rw [if_pos h5]
    have e : cs (123 :: rp.dec (a : Int) ++ [44, 125]) ++ r = 123 :: (cs (rp.dec (a : Int)) ++ 44 :: 125 :: r) := by simp [cs]
    rw [e]
    refine ⟨?_, sees_in _ _ _ (by decide), by simp⟩
    show bounds (cs (rp.dec (a : Int)) ++ 44 :: 125 :: r) = _
    rw [bounds_up a (by omega), h5]
  rw [if_neg h5]
  have h6 := (h3.resolve_left h5).1
  by_cases h7 : mx = (a : Int)
  · rw [if_pos h7]
    have e : cs (123 :: rp.dec (a : Int) ++ [125]) ++ r = 123 :: (cs (rp.dec (a : Int)) ++ 125 :: r) := by simp [cs]
    rw [e]
    refine ⟨?_, sees_in _ _ _ (by decide), by simp⟩
    show bounds (cs (rp.dec (a : Int)) ++ 125 :: r) = _
    rw [bounds_one a (by omega), h7]
  rw [if_neg h7]
  obtain ⟨b, rfl⟩ := Int.eq_ofNat_of_zero_le (show 0 ≤ mx by omega)
  have e : cs (123 :: rp.dec (a : Int) ++ 44 :: rp.dec (b : Int) ++ [125]) ++ r = 123 :: (cs (rp.dec (a : Int)) ++ 44 :: (cs (rp.dec (b : Int)) ++ 125 :: r)) := by simp [cs]
  rw [e]
  refine ⟨?_, sees_in _ _ _ (by decide), by simp⟩
  show bounds (cs (rp.dec (a : Int)) ++ 44 :: (cs (rp.dec (b : Int)) ++ 125 :: r)) = _
  rw [bounds_two a b (by omega) (by omega)]

/-! one tree's node -/
theorem none_of (q : Q4) (h : noSet q = true) : q = none4 := by
  cases q
  simp only [noSet, Bool.and_eq_true, decide_eq_true_eq] at h
  obtain ⟨⟨⟨h1, h2⟩, h3⟩, h4⟩ := h
  simp only [none4, Q4.mk.injEq]
  exact ⟨h1, h2, h3, h4⟩
theorem any_not (k : Int) (l : List Tr) (h : anyKind k l = false) : ∀ t ∈ l, t.kind ≠ k := by
  intro t ht e
  unfold anyKind at h
  rw [List.any_eq_false] at h
  exact h t ht (by simpa using e)
theorem goods_mem : ∀ (l : List Tr), goods l = true → ∀ t ∈ l, t.good = true
  | [], _, _, h => by simp at h
  | x :: l, hg, t, h => by
    simp only [goods, Bool.and_eq_true] at hg
    rcases List.mem_cons.1 h with rfl | h
    · exact hg.1
    · exact goods_mem l hg.2 t h
theorem sanes_mem : ∀ (l : List Tr), sanes l → ∀ t ∈ l, t.sane
  | [], _, _, h => by simp at h
  | x :: l, hg, t, h => by
    simp only [sanes] at hg
    rcases List.mem_cons.1 h with rfl | h
    · exact hg.1
    · exact sanes_mem l hg.2 t h
theorem depths_mem : ∀ (l : List Tr), ∀ t ∈ l, t.depth ≤ depths l
  | [], _, h => by simp at h
  | x :: l, t, h => by
    simp only [depths]
    rcases List.mem_cons.1 h with rfl | h
    · omega
    · have := depths_mem l t h; omega
structure Ok (t : Tr) : Prop where
  good : t.good = true
  sane : t.sane
theorem Ok.node {t : Tr} (h : Ok t) : okNode t = true := by have := h.good; rw [Tr.good_eq] at this; simp only [Bool.and_eq_true] at this; exact this.1
theorem Ok.kid {t x : Tr} (h : Ok t) (hx : x ∈ t.kids) : Ok x ∧ x.depth + 1 ≤ t.depth := by
  have hg := h.good
  rw [Tr.good_eq] at hg
  simp only [Bool.and_eq_true] at hg
  refine ⟨⟨goods_mem _ hg.2 x hx, ?_⟩, ?_⟩
  · have hs := h.sane
    cases t with
    | node k q mn mx l =>
      simp only [Tr.sane] at hs
      exact sanes_mem l hs.2.2.2.2 x hx
  · have := depths_mem _ x hx
    rw [Tr.depth_eq t]
    omega
theorem Ok.fits {t : Tr} (h : Ok t) : Fits t.set := by
  have hs := h.sane
  cases t with
  | node k q mn mx l =>
    simp only [Tr.sane] at hs
    exact hs.1
theorem Ok.kinds {t : Tr} (h : Ok t) : t.kind = 1 ∨ t.kind = 2 ∨ t.kind = 3 ∨ t.kind = 4 := rp.ok_kind h.node
theorem Ok.one {t : Tr} (h : Ok t) (hk : t.kind = 1) : t = .node 1 t.set 0 0 [] := by
  have hn := h.node
  unfold okNode at hn
  rw [if_pos hk] at hn
  simp only [Bool.and_eq_true, decide_eq_true_eq] at hn
  have e := Tr.eta t
  rw [hk, hn.1.1, hn.1.2, List.length_eq_zero_iff.1 hn.2] at e
  exact e
theorem Ok.two {t : Tr} (h : Ok t) (hk : t.kind = 2) : t = .node 2 none4 0 0 t.kids ∧ t.kids.length ≠ 1 ∧ ∀ x ∈ t.kids, x.kind ≠ 2 := by
  have hn := h.node
  unfold okNode at hn
  rw [if_neg (by omega), if_pos hk] at hn
  simp only [Bool.and_eq_true, decide_eq_true_eq, Bool.not_eq_true', decide_eq_false_iff_not] at hn
  have e := Tr.eta t
  rw [hk, hn.1.1.1.2, hn.1.1.2, none_of _ hn.1.1.1.1] at e
  exact ⟨e, hn.1.2, any_not _ _ hn.2⟩
theorem Ok.three {t : Tr} (h : Ok t) (hk : t.kind = 3) : t = .node 3 none4 0 0 t.kids ∧ 2 ≤ t.kids.length ∧ ∀ x ∈ t.kids, x.kind ≠ 3 := by
  have hn := h.node
  unfold okNode at hn
  rw [if_neg (by omega), if_neg (by omega), if_pos hk] at hn
  simp only [Bool.and_eq_true, decide_eq_true_eq, Bool.not_eq_true'] at hn
  have e := Tr.eta t
  rw [hk, hn.1.1.1.2, hn.1.1.2, none_of _ hn.1.1.1.1] at e
  exact ⟨e, hn.1.2, any_not _ _ hn.2⟩
theorem Ok.four {t : Tr} (h : Ok t) (hk : t.kind = 4) : ∃ x, t = .node 4 none4 t.min t.max [x] ∧ t.kids = [x] ∧ timesOk t.min t.max = true := by
  have hn := h.node
  unfold okNode at hn
  rw [if_neg (by omega), if_neg (by omega), if_neg (by omega), if_pos hk] at hn
  simp only [Bool.and_eq_true, decide_eq_true_eq] at hn
  obtain ⟨x, hx⟩ := List.length_eq_one_iff.1 hn.2
  have e := Tr.eta t
  rw [hk, hx, none_of _ hn.1.1] at e
  exact ⟨x, e, hx, hn.1.2⟩
theorem again_four (x : Tr) (mn mx : Int) (h : timesOk mn mx = true) : again x (mn, mx) = .node 4 none4 mn mx [x] := by
  unfold again
  rw [if_neg]
  intro hc
  unfold timesOk at h
  simp only at hc
  rw [hc.1, hc.2] at h
  revert h
  decide

/-! how what is written begins -/
theorem set_sees (q : Q4) (r s : List Nat) (hs : ∀ x ∈ s, x ∈ signs ∧ x ≠ 92 ∧ x ≠ 46 ∧ x ≠ 91) : sees s (cs (rp.setT q) ++ r) = false := by
  unfold rp.setT
  by_cases h1 : cnt q = 1
  · rw [if_pos h1]
    obtain ⟨c, hc⟩ : ∃ c, mem q = [c] := List.length_eq_one_iff.1 h1
    have hlt : c < 256 := mem_lt (q := q) (by rw [hc]; simp)
    have hg : (mem q).getD 0 0 = c := by rw [hc]; rfl
    rw [hg]
    exact wr_sees c hlt false r s fun x hx => ⟨(hs x hx).2.1, .inl (hs x hx).1⟩
  · rw [if_neg h1]
    split
    · exact sees_ne _ _ _ fun h => (hs _ h).2.2.1 rfl
    · repeat' split
      all_goals exact sees_ne _ _ _ fun h => (hs _ h).2.2.2 rfl
/-- an atom's text -/
def at' (t : Tr) : List UInt8 := rp.par (!decide (t.kind = 1)) (rp.txt t)
/-- an item's text -/
def it (t : Tr) : List UInt8 := rp.par (decide (t.kind = 3)) (rp.txt t)
theorem txt_one {t : Tr} (hk : t.kind = 1) : rp.txt t = rp.setT t.set := by rw [rp.txt_eq, if_pos hk]
theorem txt_four {t x : Tr} (hk : t.kind = 4) (hx : t.kids = [x]) : rp.txt t = at' x ++ rp.timesT t.min t.max := by
  rw [rp.txt_eq, if_neg (by omega), if_pos hk, hx, rp.reps]
  rfl
theorem at_sees (t : Tr) (r s : List Nat) (hs : ∀ x ∈ s, x ∈ signs ∧ x ≠ 92 ∧ x ≠ 46 ∧ x ≠ 91 ∧ x ≠ 40) : sees s (cs (at' t) ++ r) = false := by
  unfold at'
  by_cases hk : t.kind = 1
  · rw [decide_eq_true hk, txt_one hk]
    exact set_sees _ _ _ fun x hx => ⟨(hs x hx).1, (hs x hx).2.1, (hs x hx).2.2.1, (hs x hx).2.2.2.1⟩
  · rw [decide_eq_false hk]
    exact sees_ne _ _ _ fun h => (hs _ h).2.2.2.2 rfl
theorem it_sees {t : Tr} (ht : Ok t) (hk : t.kind ≠ 2) (r s : List Nat) (hs : ∀ x ∈ s, x ∈ signs ∧ x ≠ 92 ∧ x ≠ 46 ∧ x ≠ 91 ∧ x ≠ 40) : sees s (cs (it t) ++ r) = false := by
  unfold it
  rcases ht.kinds with h | h | h | h
  · rw [decide_eq_false (by omega)]
    show sees s (cs (rp.txt t) ++ r) = false
    rw [txt_one h]
    exact set_sees _ _ _ fun x hx => ⟨(hs x hx).1, (hs x hx).2.1, (hs x hx).2.2.1, (hs x hx).2.2.2.1⟩
  · exact absurd h hk
  · rw [decide_eq_true h]
    exact sees_ne _ _ _ fun hm => (hs _ hm).2.2.2.2 rfl
  · rw [decide_eq_false (by omega)]
    show sees s (cs (rp.txt t) ++ r) = false
    obtain ⟨x, _, hx, _⟩ := ht.four h
    rw [txt_four h hx, cs_app, List.append_assoc]
    exact at_sees x _ _ hs
theorem sees_nil (s : List Nat) : sees s [] = false := rfl
theorem it_some {t : Tr} (ht : Ok t) (hk : t.kind ≠ 2) : it t ≠ [] := by
  unfold it
  rcases ht.kinds with h | h | h | h
  · rw [decide_eq_false (by omega)]
    show rp.txt t ≠ []
    rw [txt_one h]
    unfold rp.setT
    split
    · intro e; have := (rp.wr_len ((mem t.set).getD 0 0) false).1; rw [e] at this; simp at this
    · repeat' split
      all_goals simp [rp.nothingL, rp.everyL]
  · exact absurd h hk
  · rw [decide_eq_true h]; simp [rp.par]
  · rw [decide_eq_false (by omega)]
    show rp.txt t ≠ []
    obtain ⟨x, _, hx, hto⟩ := ht.four h
    rw [txt_four h hx]
    simp [(times_read _ _ hto []).2.2]
end Go.Proofs.YtfclidcfhadohaaDoor.bk

namespace Go.Proofs.YtfclidcfhadohaaDoor.bk
open Go.Proofs.YtfclidcfhadohaaDoor.st
set_option linter.unusedVariables false

def repS : List Nat := [42, 43, 63, 123]
def endS : List Nat := [124, 41]
theorem reps_stop (n : Nat) (t : Tr) (l : List Nat) (h : sees repS l = false) : st.rpts (n + 1) t l = .ok t l := by
  rw [st.rpts]
  unfold repS at h
  rw [h]
  rfl
/-- groups can be read, of trees that are so deep at most -/
def Grp (G : List Nat → R Tr) (D : Nat) : Prop := ∀ t, Ok t → t.depth ≤ D → ∀ rest, G (cs (rp.par true (rp.txt t)) ++ rest) = .ok t rest

theorem atom_read {G : List Nat → R Tr} {D : Nat} (hG : Grp G D) (t : Tr) (ht : Ok t) (hd : t.kind = 1 ∨ t.depth ≤ D) (rest : List Nat) : atom G (cs (at' t) ++ rest) = .ok t rest := by
  unfold atom at'
  by_cases hk : t.kind = 1
  · rw [decide_eq_true hk]
    show (if sees [40] (cs (rp.txt t) ++ rest) = true then _ else (single (cs (rp.txt t) ++ rest)).then fun q l1 => R.ok (Tr.node 1 q 0 0 []) l1) = _
    rw [txt_one hk, set_sees t.set rest [40] (by decide), if_neg (by decide), single_set _ ht.fits]
    show R.ok (Tr.node 1 t.set 0 0 []) rest = _
    rw [← ht.one hk]
  · rw [decide_eq_false hk]
    show (if sees [40] (cs (rp.par true (rp.txt t)) ++ rest) = true then G (cs (rp.par true (rp.txt t)) ++ rest) else _) = _
    have h40 : sees [40] (cs (rp.par true (rp.txt t)) ++ rest) = true := sees_in _ _ _ (by decide)
    rw [h40, if_pos rfl, hG t ht (hd.resolve_left hk)]
theorem item_read {G : List Nat → R Tr} {D : Nat} (hG : Grp G D) (t : Tr) (ht : Ok t) (hk2 : t.kind ≠ 2) (hd : t.depth ≤ D ∨ (t.kind ≠ 3 ∧ t.depth ≤ D + 1)) (rest : List Nat) (hr : sees repS rest = false) : st.item G (cs (it t) ++ rest) = .ok t rest := by
  unfold st.item
  rcases ht.kinds with h | h | h | h
  · have e : it t = at' t := by unfold it at'; rw [decide_eq_true h, decide_eq_false (by omega)]; rfl
    rw [e, atom_read hG t ht (.inl h)]
    exact reps_stop _ _ _ hr
  · exact absurd h hk2
  · have e : it t = at' t := by unfold it at'; rw [decide_eq_true h, decide_eq_false (by omega)]; rfl
    rw [e, atom_read hG t ht (.inr (hd.resolve_right fun hx => hx.1 h))]
    exact reps_stop _ _ _ hr
  · obtain ⟨x, e4, hx, hto⟩ := ht.four h
    have hxo := ht.kid (x := x) (by rw [hx]; simp)
    have e : it t = at' x ++ rp.timesT t.min t.max := by unfold it; rw [decide_eq_false (by omega)]; exact txt_four h hx
    obtain ⟨h1, h2, h3⟩ := times_read t.min t.max hto rest
    rw [e, cs_app, List.append_assoc, atom_read hG x hxo.1 (.inr (by omega))]
    show st.rpts ((cs (rp.timesT t.min t.max) ++ rest).length + 1) x (cs (rp.timesT t.min t.max) ++ rest) = _
    obtain ⟨m, hm⟩ : ∃ m, (cs (rp.timesT t.min t.max) ++ rest).length = m + 1 := ⟨(cs (rp.timesT t.min t.max) ++ rest).length - 1, by
      have : 0 < (rp.timesT t.min t.max).length := List.length_pos_iff.2 h3
      rw [List.length_append, cs_len]
      omega⟩
    rw [hm, st.rpts, h2, if_pos rfl, h1]
    show st.rpts (m + 1) (again x (t.min, t.max)) rest = _
    rw [again_four x _ _ hto, ← e4]
    exact reps_stop _ _ _ hr

/-- the items one behind the other -/
def its : List Tr → List UInt8
  | [] => []
  | t :: l => it t ++ its l
theorem txts_two (l : List Tr) (f : Bool) : rp.txts 2 f l = its l := by
  induction l generalizing f with
  | nil => rfl
  | cons t l ih =>
    rw [rp.txts, ih, if_neg (by omega)]
    rfl
def AtEnd (rest : List Nat) : Prop := rest = [] ∨ sees endS rest = true
theorem end_rep {rest : List Nat} (h : AtEnd rest) : sees repS rest = false := by
  cases rest with
  | nil => rfl
  | cons c l =>
    rcases h with h | h
    · simp at h
    · unfold sees at h ⊢
      simp only [endS, repS, decide_eq_true_eq, decide_eq_false_iff_not, List.mem_cons, List.not_mem_nil, or_false] at *
      omega
theorem items_read {G : List Nat → R Tr} {D : Nat} (hG : Grp G D) : ∀ (L ks : List Tr) (n : Nat) (rest : List Nat), (∀ t ∈ L, Ok t ∧ t.kind ≠ 2 ∧ (t.depth ≤ D ∨ (t.kind ≠ 3 ∧ t.depth ≤ D + 1))) → AtEnd rest → (its L).length < n → items G n ks (cs (its L) ++ rest) = .ok (grown 2 (ks ++ L)) rest
  | [], ks, n, rest, hL, he, hn => by
    obtain ⟨m, rfl⟩ : ∃ m, n = m + 1 := ⟨n - 1, by omega⟩
    rw [items]
    have : (cs (its []) ++ rest = [] ∨ sees [124, 41] (cs (its []) ++ rest) = true) := he
    rw [if_pos this, List.append_nil]
    rfl
  | t :: l, ks, n, rest, hL, he, hn => by
    obtain ⟨m, rfl⟩ : ∃ m, n = m + 1 := ⟨n - 1, by omega⟩
    obtain ⟨ht, hk, hd⟩ := hL t (by simp)
    have hne : 0 < (it t).length := List.length_pos_iff.2 (it_some ht hk)
    have e : cs (its (t :: l)) ++ rest = cs (it t) ++ (cs (its l) ++ rest) := by rw [its, cs_app, List.append_assoc]
    have hno : ¬ (cs (it t) ++ (cs (its l) ++ rest) = [] ∨ sees [124, 41] (cs (it t) ++ (cs (its l) ++ rest)) = true) := by
      rintro (h | h)
      · have := congrArg List.length h
        simp only [List.length_append, cs_len, List.length_nil] at this
        omega
      · rw [it_sees ht hk _ _ (by decide)] at h
        cases h
    have hr : sees repS (cs (its l) ++ rest) = false := by
      cases l with
      | nil => exact end_rep he
      | cons x l =>
        obtain ⟨hx, hxk, _⟩ := hL x (by simp)
        rw [its, cs_app, List.append_assoc]
        exact it_sees hx hxk _ _ (by decide)
    simp only [its, List.length_append] at hn
    rw [e, items, if_neg hno, item_read hG t ht hk hd _ hr]
    show items G m (laid ks t 2) (cs (its l) ++ rest) = _
    have hl : laid ks t 2 = ks ++ [t] := by unfold laid; rw [if_neg hk]
    rw [hl, items_read hG l (ks ++ [t]) m rest (fun x hx => hL x (by simp [hx])) he (by omega), List.append_assoc]
    rfl
theorem cat_read {G : List Nat → R Tr} {D : Nat} (hG : Grp G D) (t : Tr) (ht : Ok t) (hk : t.kind ≠ 3) (hd : t.depth ≤ D + 1) (rest : List Nat) (he : AtEnd rest) : cat G (cs (rp.txt t) ++ rest) = .ok t rest := by
  unfold cat
  by_cases h2 : t.kind = 2
  · obtain ⟨e, h1, h3⟩ := ht.two h2
    have et : rp.txt t = its t.kids := by rw [rp.txt_eq, if_neg (by omega), if_neg (by omega), h2, txts_two]
    rw [et, items_read hG t.kids [] _ rest (fun x hx => ⟨(ht.kid hx).1, h3 x hx, .inl (by have := (ht.kid hx).2; omega)⟩) he (by rw [List.length_append, cs_len]; omega), List.nil_append]
    unfold grown
    rw [if_neg h1, ← e]
  · have et : rp.txt t = its [t] := by
      show _ = it t ++ []
      unfold it
      rw [decide_eq_false hk, List.append_nil]
      rfl
    rw [et, items_read hG [t] [] _ rest (fun x hx => by obtain rfl := List.mem_singleton.1 hx; exact ⟨ht, h2, .inr ⟨hk, hd⟩⟩) he (by rw [List.length_append, cs_len]; omega)]
    rfl
/-- ways one behind the other, each behind a bar -/
def ways : List Tr → List UInt8
  | [] => []
  | t :: l => 124 :: rp.txt t ++ ways l
theorem txts_three (l : List Tr) : rp.txts 3 false l = ways l := by
  induction l with
  | nil => rfl
  | cons t l ih =>
    rw [rp.txts, ih, if_pos ⟨rfl, rfl⟩]
    rfl
def AtClose (rest : List Nat) : Prop := rest = [] ∨ ∃ l, rest = 41 :: l
theorem close_end {rest : List Nat} (h : AtClose rest) : AtEnd rest := by
  rcases h with rfl | ⟨l, rfl⟩
  · exact .inl rfl
  · exact .inr (sees_in _ _ _ (by decide))
theorem ways_end (l : List Tr) {rest : List Nat} (h : AtClose rest) : AtEnd (cs (ways l) ++ rest) := by
  cases l with
  | nil => exact close_end h
  | cons t l => exact .inr (sees_in _ _ _ (by decide))
theorem close_bar {rest : List Nat} (h : AtClose rest) : sees [124] rest = false := by
  rcases h with rfl | ⟨l, rfl⟩
  · rfl
  · exact sees_ne _ _ _ (by decide)
theorem alts_read {G : List Nat → R Tr} {D : Nat} (hG : Grp G D) : ∀ (L ks : List Tr) (n : Nat) (rest : List Nat), (∀ t ∈ L, Ok t ∧ t.kind ≠ 3 ∧ t.depth ≤ D + 1) → AtClose rest → (ways L).length < n → alts G n ks (cs (ways L) ++ rest) = .ok (grown 3 (ks ++ L)) rest
  | [], ks, n, rest, hL, he, hn => by
    obtain ⟨m, rfl⟩ : ∃ m, n = m + 1 := ⟨n - 1, by omega⟩
    rw [alts]
    show (if sees [124] rest = true then _ else R.ok (grown 3 ks) rest) = _
    rw [close_bar he, if_neg (by decide), List.append_nil]
  | t :: l, ks, n, rest, hL, he, hn => by
    obtain ⟨m, rfl⟩ : ∃ m, n = m + 1 := ⟨n - 1, by omega⟩
    obtain ⟨ht, hk, hd⟩ := hL t (by simp)
    have e : cs (ways (t :: l)) ++ rest = 124 :: (cs (rp.txt t) ++ (cs (ways l) ++ rest)) := by simp [ways, cs]
    simp only [ways, List.length_append, List.length_cons] at hn
    rw [e, alts, sees_in _ _ _ (by decide), if_pos rfl]
    show (cat G (cs (rp.txt t) ++ (cs (ways l) ++ rest))).then _ = _
    rw [cat_read hG t ht hk hd _ (ways_end l he)]
    show alts G m (laid ks t 3) (cs (ways l) ++ rest) = _
    have hl : laid ks t 3 = ks ++ [t] := by unfold laid; rw [if_neg hk]
    rw [hl, alts_read hG l (ks ++ [t]) m rest (fun x hx => hL x (by simp [hx])) he (by omega), List.append_assoc]
    rfl
theorem alt_read {G : List Nat → R Tr} {D : Nat} (hG : Grp G D) (t : Tr) (ht : Ok t) (hd : t.depth ≤ D + 1) (rest : List Nat) (he : AtClose rest) : altOf G (cs (rp.txt t) ++ rest) = .ok t rest := by
  unfold altOf
  by_cases h3 : t.kind = 3
  · obtain ⟨e, h2, hk⟩ := ht.three h3
    cases hks : t.kids with
    | nil => rw [hks] at h2; simp at h2
    | cons x l =>
      have hx := ht.kid (x := x) (by rw [hks]; simp)
      have hxk := hk x (by rw [hks]; simp)
      have et : cs (rp.txt t) ++ rest = cs (rp.txt x) ++ (cs (ways l) ++ rest) := by
        rw [rp.txt_eq, if_neg (by omega), if_neg (by omega), h3, hks, rp.txts, txts_three, if_neg (by simp)]
        simp [cs, rp.par]
      rw [et, cat_read hG x hx.1 hxk (by omega) _ (ways_end l he)]
      show alts G ((cs (ways l) ++ rest).length + 1) (laid [] x 3) (cs (ways l) ++ rest) = _
      have hl : laid [] x 3 = [x] := by unfold laid; rw [if_neg hxk]; rfl
      rw [hl, alts_read hG l [x] _ rest (fun y hy => by
        have := ht.kid (x := y) (by rw [hks]; simp [hy])
        exact ⟨this.1, hk y (by rw [hks]; simp [hy]), by omega⟩) he (by rw [List.length_append, cs_len]; omega)]
      have hg : grown 3 ([x] ++ l) = t := by
        unfold grown
        rw [show [x] ++ l = t.kids from hks.symm, if_neg (by omega), ← e]
      rw [hg]
  · rw [cat_read hG t ht h3 hd rest (close_end he)]
    show alts G (rest.length + 1) (laid [] t 3) rest = _
    have hl : laid [] t 3 = [t] := by unfold laid; rw [if_neg h3]; rfl
    have := alts_read hG [] [t] (rest.length + 1) rest (by simp) he (by simp [ways])
    rw [hl]
    exact this
theorem group_read (d : Nat) : Grp (group d) d := by
  induction d with
  | zero =>
    intro t ht hd
    rw [Tr.depth_eq] at hd
    omega
  | succ d ih =>
    intro t ht hd rest
    have e : cs (rp.par true (rp.txt t)) ++ rest = 40 :: (cs (rp.txt t) ++ 41 :: rest) := by simp [rp.par, cs]
    rw [e, group, oneOf, sees_in _ _ _ (by decide), if_pos rfl]
    show (altOf (group d) (cs (rp.txt t) ++ 41 :: rest)).then _ = _
    rw [alt_read ih t ht hd _ (.inr ⟨rest, rfl⟩)]
    rfl
/-- the whole -/
theorem parse_txt (t : Tr) (ht : Ok t) (hd : t.depth ≤ 30) (hl : (rp.txt t).length ≤ 512) : parse (cs (rp.txt t)) = (t, 0, 0) := by
  have h := alt_read (group_read 30) t ht (by omega) [] (.inl rfl)
  rw [List.append_nil] at h
  unfold parse
  rw [if_neg (by rw [cs_len]; omega)]
  have h2 : alt 30 (cs (rp.txt t)) = .ok t [] := h
  rw [h2]
  show (if ([] : List Nat) ≠ [] then _ else if t.depth ≤ 30 then (t, 0, 0) else _) = _
  rw [if_neg (by simp), if_pos hd]
end Go.Proofs.YtfclidcfhadohaaDoor.bk

namespace Go.Proofs.YtfclidcfhadohaaDoor.bk
open Go.Proofs.YtfclidcfhadohaaDoor.st
open Go.Proofs.YtfclidcfhadohaaDoor.rp (PrIs bs)
open Go.ChangeShapes Go.WideShapes Go.ChangeAt Go.RowKit
set_option linter.unusedVariables false

theorem codes_bs (l : List UInt8) : codes (bs l) = cs l := by simp [codes, bs, cs]

set_option maxHeartbeats 2000000 in
set_option maxRecDepth 100000 in
theorem back_none (t : Tr) (n : Nat) (hn : n ≠ 0) (hp : PrIs 6 t [] n) (hq : PrIs 7 t [] n) (v : Value) (w : World) (hI : Is w (fun _ => True) t v) : Calls Tryd.prog 4 #[.agg #[.int .i64 t.kind, .int .u64 t.set.a, .int .u64 t.set.b, .int .u64 t.set.c, .int .u64 t.set.d, .int .i64 t.min, .int .i64 t.max, v]] w fun e w' => e = .returned (.bool true) ∧ RowKit.Below w.heap.size w w' := by
  obtain ⟨o, nn, cap, rfl⟩ := hI.shape
  have B0 : RowKit.Below w.heap.size w (w.alloc (.cells #[.int .i64 t.kind, .int .u64 t.set.a, .int .u64 t.set.b, .int .u64 t.set.c, .int .u64 t.set.d, .int .i64 t.min, .int .i64 t.max, .slice o nn cap] 28)) := below_alloc _ _
  have hb0 := box_new w t (.slice o nn cap)
  obtain ⟨c0, c1, c2, c3, c4, c5, c6, c7⟩ := hb0.cells
  have hne : ((n : Int) == 0) = false := by rw [beq_eq_false_iff_ne]; omega
  have h1 := hq (.slice o nn cap) (w.alloc (.cells #[.int .i64 t.kind, .int .u64 t.set.a, .int .u64 t.set.b, .int .u64 t.set.c, .int .u64 t.set.d, .int .i64 t.min, .int .i64 t.max, .slice o nn cap] 28)) (hI.later B0)
  have HQ := (show Hid (∀ W, RowKit.Below (w.alloc (.cells #[.int .i64 t.kind, .int .u64 t.set.a, .int .u64 t.set.b, .int .u64 t.set.c, .int .u64 t.set.d, .int .i64 t.min, .int .i64 t.max, .slice o nn cap] 28)).heap.size (w.alloc (.cells #[.int .i64 t.kind, .int .u64 t.set.a, .int .u64 t.set.b, .int .u64 t.set.c, .int .u64 t.set.d, .int .i64 t.min, .int .i64 t.max, .slice o nn cap] 28)) W → Calls Tryd.prog 6 #[.agg #[.int .i64 t.kind, .int .u64 t.set.a, .int .u64 t.set.b, .int .u64 t.set.c, .int .u64 t.set.d, .int .i64 t.min, .int .i64 t.max, .slice o nn cap]] W (fun e w' => e = .returned (.tuple #[.string (bs []), .int .i64 n]) ∧ RowKit.Below W.heap.size W w') ∧ Box W w.heap.size t (.slice o nn cap)) from fun W hW => ⟨hp _ W ((hI.later B0).later hW), hb0.below hW⟩)
  clear hp hq hI
  have HZ := (show Hid ((bs []).toList.isEmpty = true) from by show _ = _; rw [ByteArray.toList_eq]; rfl)
  generalize bs [] = ts at *
  go_enter Tryd.func4, Tryd.ntmps4
  go_wp2_with (first | (go_at_call 7; (with_reducible refine h1.mono ?_); rintro e w1 ⟨rfl, b1⟩; obtain ⟨h2, hBx⟩ := HQ.out w1 b1; obtain ⟨d0, d1, d2, d3, d4, d5, d6, d7⟩ := hBx.cells) | (go_at_call 6; (with_reducible refine h2.mono ?_); rintro e w2 ⟨rfl, b2⟩))
  go_ret
  refine ⟨?_, (B0.trans (b1.mono B0.size)).trans (b2.mono (B0.trans (b1.mono B0.size)).size)⟩
  show Ending.returned (.bool ts.toList.isEmpty) = _
  rw [HZ.out]

set_option maxHeartbeats 2000000 in
set_option maxRecDepth 100000 in
theorem back_some (t : Tr) (hp : PrIs 6 t (rp.txt t) 0) (hq : PrIs 7 t (rp.txt t) 0) (h8 : ParseIs (bs (rp.txt t)) t 0 0) (hL : LikeIs t) (v : Value) (w : World) (hI : Is w (fun _ => True) t v) : Calls Tryd.prog 4 #[.agg #[.int .i64 t.kind, .int .u64 t.set.a, .int .u64 t.set.b, .int .u64 t.set.c, .int .u64 t.set.d, .int .i64 t.min, .int .i64 t.max, v]] w fun e w' => e = .returned (.bool true) ∧ RowKit.Below w.heap.size w w' := by
  obtain ⟨o, nn, cap, rfl⟩ := hI.shape
  have B0 : RowKit.Below w.heap.size w (w.alloc (.cells #[.int .i64 t.kind, .int .u64 t.set.a, .int .u64 t.set.b, .int .u64 t.set.c, .int .u64 t.set.d, .int .i64 t.min, .int .i64 t.max, .slice o nn cap] 28)) := below_alloc _ _
  have hb0 := box_new w t (.slice o nn cap)
  obtain ⟨c0, c1, c2, c3, c4, c5, c6, c7⟩ := hb0.cells
  have h1 := hq (.slice o nn cap) (w.alloc (.cells #[.int .i64 t.kind, .int .u64 t.set.a, .int .u64 t.set.b, .int .u64 t.set.c, .int .u64 t.set.d, .int .i64 t.min, .int .i64 t.max, .slice o nn cap] 28)) (hI.later B0)
  have HQ := (show Hid (∀ W, RowKit.Below (w.alloc (.cells #[.int .i64 t.kind, .int .u64 t.set.a, .int .u64 t.set.b, .int .u64 t.set.c, .int .u64 t.set.d, .int .i64 t.min, .int .i64 t.max, .slice o nn cap] 28)).heap.size (w.alloc (.cells #[.int .i64 t.kind, .int .u64 t.set.a, .int .u64 t.set.b, .int .u64 t.set.c, .int .u64 t.set.d, .int .i64 t.min, .int .i64 t.max, .slice o nn cap] 28)) W → Calls Tryd.prog 6 #[.agg #[.int .i64 t.kind, .int .u64 t.set.a, .int .u64 t.set.b, .int .u64 t.set.c, .int .u64 t.set.d, .int .i64 t.min, .int .i64 t.max, .slice o nn cap]] W (fun e w' => e = .returned (.tuple #[.string (bs (rp.txt t)), .int .i64 ((0 : Nat) : Int)]) ∧ RowKit.Below W.heap.size W w') ∧ Box W w.heap.size t (.slice o nn cap)) from fun W hW => ⟨hp _ W ((hI.later B0).later hW), hb0.below hW⟩)
  have HI := (show Hid (∀ W, RowKit.Below w.heap.size w W → Is W (fun _ => True) t (.slice o nn cap)) from fun W hW => hI.later hW)
  unfold ParseIs at h8
  unfold LikeIs at hL
  clear hp hq hI
  generalize bs (rp.txt t) = ts at *
  go_enter Tryd.func4, Tryd.ntmps4
  go_wp2_with (first | (go_at_call 7; (with_reducible refine h1.mono ?_); rintro e w1 ⟨rfl, b1⟩; obtain ⟨h2, hBx⟩ := HQ.out w1 b1; obtain ⟨d0, d1, d2, d3, d4, d5, d6, d7⟩ := hBx.cells; have B1 := B0.trans (b1.mono B0.size)) | (go_at_call 6; (with_reducible refine h2.mono ?_); rintro e w2 ⟨rfl, b2⟩; have B2 := B1.trans (b2.mono B1.size); have hBx2 := hBx.below b2) | (go_at_call 8; refine (h8 _).mono ?_; rintro e w3 ⟨v3, rfl, i3, b3⟩; obtain ⟨va, vn, vc, rfl⟩ := i3.shape; have B3 := B2.trans (b3.mono B2.size); have hBx3 := (hBx2.below b3).below (below_alloc w3 (.cells #[.int .i64 t.kind, .int .u64 t.set.a, .int .u64 t.set.b, .int .u64 t.set.c, .int .u64 t.set.d, .int .i64 t.min, .int .i64 t.max, .slice va vn vc] 28)); have hBn := box_new w3 t (.slice va vn vc); have B4 := B3.trans ((below_alloc w3 (.cells #[.int .i64 t.kind, .int .u64 t.set.a, .int .u64 t.set.b, .int .u64 t.set.c, .int .u64 t.set.d, .int .i64 t.min, .int .i64 t.max, .slice va vn vc] 28)).mono B3.size); obtain ⟨k0, k1, k2, k3, k4, k5, k6, k7⟩ := hBx3.cells; obtain ⟨l0, l1, l2, l3, l4, l5, l6, l7⟩ := hBn.cells; have i4 := i3.later (below_alloc w3 (.cells #[.int .i64 t.kind, .int .u64 t.set.a, .int .u64 t.set.b, .int .u64 t.set.c, .int .u64 t.set.d, .int .i64 t.min, .int .i64 t.max, .slice va vn vc] 28)); have iI := HI.out _ B4) | (go_at_call 9; refine (hL _ _ _ _ _ iI i4).mono ?_; rintro e w5 ⟨rfl, b5⟩))
  go_ret
  exact ⟨rfl, B4.trans (b5.mono B4.size)⟩

theorem depth_of {t : Tr} (h : rightN t = 0) : t.depth ≤ 30 := by
  unfold rightN at h
  split at h
  · rename_i hh
    exact hh.1
  · simp at h

theorem back_law (t : Tr) (hs : t.sane) (v : Value) (w : World) (hI : Is w (fun _ => True) t v) : Calls Tryd.prog 4 #[.agg #[.int .i64 t.kind, .int .u64 t.set.a, .int .u64 t.set.b, .int .u64 t.set.c, .int .u64 t.set.d, .int .i64 t.min, .int .i64 t.max, v]] w fun e w' => e = .returned (.bool true) ∧ RowKit.Below w.heap.size w w' := by
  by_cases h : rightN t = 0
  · by_cases hl : (rp.txt t).length ≤ 512
    · have hg := (rp.good_of h).1
      have hd : t.depth ≤ 30 := depth_of h
      have hpt := parse_txt t ⟨hg, hs⟩ hd hl
      have h8 := parse_any (bs (rp.txt t)) (by rw [rp.bs_size]; omega)
      rw [codes_bs, hpt] at h8
      exact back_some t (rp.print_yes t hs h _ _ (by rw [if_pos hl]) (by rw [if_pos hl])) (rp.rprint_yes t hs h _ _ (by rw [if_pos hl]) (by rw [if_pos hl])) h8 (like_any t.depth t (Nat.le_refl _)) v w hI
    · exact back_none t 2 (by decide) (rp.print_yes t hs h _ _ (by rw [if_neg hl]) (by rw [if_neg hl])) (rp.rprint_yes t hs h _ _ (by rw [if_neg hl]) (by rw [if_neg hl])) v w hI
  · exact back_none t _ h (rp.print_no t h) (rp.rprint_no t h) v w hI
end Go.Proofs.YtfclidcfhadohaaDoor.bk
