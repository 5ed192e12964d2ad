/-
  Texts put together: Plain facts on characters in bytes: how the head of a list of bytes is taken, how a character is written, texts as lists of what is taken. No program in it. Plain facts on texts as lists of what is taken of them, one behind the other; and on the document's own way to find what is taken. No program in it.
-/
import Derived.Laws.RangeAny
import Derived.Lib.RuneBytes
namespace Go.Proofs.Ythmecbonjkcnmaa.chars

/-- the k-th byte's number; 0 beyond the end -/
def nth (l : List UInt8) (k : Nat) : Nat := (l.getD k 0).toNat

theorem nth_lt (l : List UInt8) (k : Nat) : nth l k < 256 := UInt8.toNat_lt _
theorem nth_cons_zero (x : UInt8) (l : List UInt8) : nth (x :: l) 0 = x.toNat := rfl
theorem nth_cons_succ (x : UInt8) (l : List UInt8) (k : Nat) : nth (x :: l) (k + 1) = nth l k := rfl
theorem nth_nil (k : Nat) : nth [] k = 0 := rfl

/-- is it a character's number? -/
def isC (c : Int) : Bool := decide (0 ≤ c ∧ c ≤ 1114111 ∧ ¬ (55296 ≤ c ∧ c ≤ 57343))

/-- what is taken where four bytes stand (0 where none does): the character, and how many bytes -/
def decN (a b c d : Nat) : Nat × Nat :=
  if a < 128 then (a, 1)
  else if a / 32 = 6 ∧ b / 64 = 2 then
    if 128 ≤ a % 32 * 64 + b % 64 then (a % 32 * 64 + b % 64, 2) else (65533, 1)
  else if a / 16 = 14 ∧ b / 64 = 2 ∧ c / 64 = 2 then
    if 2048 ≤ a % 16 * 4096 + b % 64 * 64 + c % 64 ∧ ¬ (55296 ≤ a % 16 * 4096 + b % 64 * 64 + c % 64 ∧ a % 16 * 4096 + b % 64 * 64 + c % 64 ≤ 57343)
    then (a % 16 * 4096 + b % 64 * 64 + c % 64, 3) else (65533, 1)
  else if a / 8 = 30 ∧ b / 64 = 2 ∧ c / 64 = 2 ∧ d / 64 = 2 then
    if 65536 ≤ a % 8 * 262144 + b % 64 * 4096 + c % 64 * 64 + d % 64 ∧ a % 8 * 262144 + b % 64 * 4096 + c % 64 * 64 + d % 64 ≤ 1114111
    then (a % 8 * 262144 + b % 64 * 4096 + c % 64 * 64 + d % 64, 4) else (65533, 1)
  else (65533, 1)
/-- what is taken at the head of a list of bytes -/
def dec (l : List UInt8) : Nat × Nat := decN (nth l 0) (nth l 1) (nth l 2) (nth l 3)

/-- nothing good was taken -/
def badB (p : Nat × Nat) : Bool := decide (p.1 = 65533 ∧ p.2 = 1)
theorem badB_bad : badB (65533, 1) = true := rfl

/-- the ways of taking -/
theorem decN_ways (a b c d : Nat) : badB (decN a b c d) = true ∨ (a < 128 ∧ decN a b c d = (a, 1)) ∨
    (a / 32 = 6 ∧ b / 64 = 2 ∧ 128 ≤ a % 32 * 64 + b % 64 ∧ decN a b c d = (a % 32 * 64 + b % 64, 2)) ∨
    (a / 16 = 14 ∧ b / 64 = 2 ∧ c / 64 = 2 ∧ 2048 ≤ a % 16 * 4096 + b % 64 * 64 + c % 64 ∧ ¬ (55296 ≤ a % 16 * 4096 + b % 64 * 64 + c % 64 ∧ a % 16 * 4096 + b % 64 * 64 + c % 64 ≤ 57343) ∧ decN a b c d = (a % 16 * 4096 + b % 64 * 64 + c % 64, 3)) ∨
    (a / 8 = 30 ∧ b / 64 = 2 ∧ c / 64 = 2 ∧ d / 64 = 2 ∧ 65536 ≤ a % 8 * 262144 + b % 64 * 4096 + c % 64 * 64 + d % 64 ∧ a % 8 * 262144 + b % 64 * 4096 + c % 64 * 64 + d % 64 ≤ 1114111 ∧ decN a b c d = (a % 8 * 262144 + b % 64 * 4096 + c % 64 * 64 + d % 64, 4)) := by
  unfold decN
  split
  · rename_i h; exact .inr (.inl ⟨h, rfl⟩)
  · split
    · rename_i h; split
      · rename_i h1; exact .inr (.inr (.inl ⟨h.1, h.2, h1, rfl⟩))
      · exact .inl badB_bad
    · split
      · rename_i h; split
        · rename_i h1; exact .inr (.inr (.inr (.inl ⟨h.1, h.2.1, h.2.2, h1.1, h1.2, rfl⟩)))
        · exact .inl badB_bad
      · split
        · rename_i h; split
          · rename_i h1; exact .inr (.inr (.inr (.inr ⟨h.1, h.2.1, h.2.2.1, h.2.2.2, h1.1, h1.2, rfl⟩)))
          · exact .inl badB_bad
        · exact .inl badB_bad

theorem get_nth (s : ByteArray) (i k : Nat) : (s.get! (i + k)).toNat = nth (s.data.toList.drop i) k := by
  have e : s.get! (i + k) = (s.data.toList.drop i).getD k 0 := by
    show s.data[i + k]! = _
    simp only [List.getD_eq_getElem?_getD, List.getElem?_drop, Array.getElem?_toList, getElem!_def]
    cases s.data[i + k]? <;> rfl
  rw [e]; rfl

theorem lt_nth (s : ByteArray) (i k : Nat) : (decide (i + k < s.size) && (nth (s.data.toList.drop i) k / 64 == 2)) = decide (nth (s.data.toList.drop i) k / 64 = 2) := by
  by_cases h : i + k < s.size
  · simp [h]
    rfl
  · have e : nth (s.data.toList.drop i) k = 0 := by
      unfold nth
      have hs : s.data.toList.length = s.size := by simp
      rw [List.getD_eq_getElem?_getD, List.getElem?_eq_none (by simp; omega)]
      rfl
    simp [h, e]

/-- the model's own taking, at a place, is the taking at the head of what is left -/
theorem decode_eq (s : ByteArray) (i : Nat) : Utf8.decode s i = dec (s.data.toList.drop i) := by
  unfold dec
  have c1 := lt_nth s i 1
  have c2 := lt_nth s i 2
  have c3 := lt_nth s i 3
  have g0 := get_nth s i 0
  have g1 := get_nth s i 1
  have g2 := get_nth s i 2
  have g3 := get_nth s i 3
  have h0 := nth_lt (s.data.toList.drop i) 0
  have h1 := nth_lt (s.data.toList.drop i) 1
  have h2 := nth_lt (s.data.toList.drop i) 2
  have h3 := nth_lt (s.data.toList.drop i) 3
  unfold Utf8.decode
  simp only [g0, g1, g2, g3, c1, c2, c3]
  generalize nth (s.data.toList.drop i) 0 = a at *
  generalize nth (s.data.toList.drop i) 1 = b at *
  generalize nth (s.data.toList.drop i) 2 = c at *
  generalize nth (s.data.toList.drop i) 3 = d at *
  clear g0 g1 g2 g3 c1 c2 c3
  unfold decN Utf8.valid Utf8.runeError
  simp only [Bool.and_eq_true, decide_eq_true_eq, beq_iff_eq, Bool.or_eq_true, and_assoc]
  repeat' split
  all_goals first | rfl | (exfalso; omega)

/-- how a character is written -/
abbrev enc (c : Int) : List UInt8 := Lib.encodeRune c
/-- what Put gives -/
def put (c : Int) : List UInt8 := if isC c = true then enc c else []

theorem isC_iff (c : Int) : isC c = true ↔ 0 ≤ c ∧ c ≤ 1114111 ∧ ¬ (55296 ≤ c ∧ c ≤ 57343) := by
  unfold isC; exact decide_eq_true_iff

theorem u8 (x : Int) (_ : 0 ≤ x) (h1 : x < 256) : ((x.toNat).toUInt8).toNat = x.toNat := by
  simp; omega

theorem enc_one {c : Int} (h0 : 0 ≤ c) (h1 : c ≤ 127) : enc c = [c.toNat.toUInt8] := by
  simp only [enc, Lib.encodeRune, Lib.encodeRuneZ_one h0 h1, List.map]
theorem enc_two {c : Int} (h0 : 128 ≤ c) (h1 : c ≤ 2047) : enc c = [(192 + c / 64).toNat.toUInt8, (128 + c % 64).toNat.toUInt8] := by
  simp only [enc, Lib.encodeRune, Lib.encodeRuneZ_two h0 h1, List.map]
theorem enc_three {c : Int} (h : (2048 ≤ c ∧ c < 55296) ∨ (57343 < c ∧ c ≤ 65535)) : enc c = [(224 + c / 4096).toNat.toUInt8, (128 + c / 64 % 64).toNat.toUInt8, (128 + c % 64).toNat.toUInt8] := by
  simp only [enc, Lib.encodeRune, Lib.encodeRuneZ_three h, List.map]
theorem enc_four {c : Int} (h0 : 65536 ≤ c) (h1 : c ≤ 1114111) : enc c = [(240 + c / 262144).toNat.toUInt8, (128 + c / 4096 % 64).toNat.toUInt8, (128 + c / 64 % 64).toNat.toUInt8, (128 + c % 64).toNat.toUInt8] := by
  simp only [enc, Lib.encodeRune, Lib.encodeRuneZ_four h0 h1, List.map]

/-- a character that is written is taken again -/
theorem dec_enc (c : Int) (h : isC c = true) (r : List UInt8) : dec (enc c ++ r) = (c.toNat, (enc c).length) := by
  rw [isC_iff] at h
  by_cases h1 : c ≤ 127
  · rw [enc_one h.1 h1]
    have e := u8 c h.1 (by omega)
    show decN (c.toNat.toUInt8).toNat _ _ _ = _
    rw [e]
    unfold decN
    rw [if_pos (by omega)]; rfl
  · by_cases h2 : c ≤ 2047
    · rw [enc_two (by omega) h2]
      have e0 := u8 (192 + c / 64) (by omega) (by omega)
      have e1 := u8 (128 + c % 64) (by omega) (by omega)
      show decN ((192 + c / 64).toNat.toUInt8).toNat ((128 + c % 64).toNat.toUInt8).toNat _ _ = (_, 2)
      rw [e0, e1]
      unfold decN
      rw [if_neg (by omega), if_pos (by omega), if_pos (by omega)]
      exact Prod.ext (by simp only []; omega) rfl
    · by_cases h3 : c ≤ 65535
      · rw [enc_three (by omega)]
        have e0 := u8 (224 + c / 4096) (by omega) (by omega)
        have e1 := u8 (128 + c / 64 % 64) (by omega) (by omega)
        have e2 := u8 (128 + c % 64) (by omega) (by omega)
        show decN ((224 + c / 4096).toNat.toUInt8).toNat ((128 + c / 64 % 64).toNat.toUInt8).toNat ((128 + c % 64).toNat.toUInt8).toNat _ = (_, 3)
        rw [e0, e1, e2]
        unfold decN
        rw [if_neg (by omega), if_neg (by omega), if_pos (by omega), if_pos (by omega)]
        exact Prod.ext (by simp only []; omega) rfl
      · rw [enc_four (by omega) (by omega)]
        have e0 := u8 (240 + c / 262144) (by omega) (by omega)
        have e1 := u8 (128 + c / 4096 % 64) (by omega) (by omega)
        have e2 := u8 (128 + c / 64 % 64) (by omega) (by omega)
        have e3 := u8 (128 + c % 64) (by omega) (by omega)
        show decN ((240 + c / 262144).toNat.toUInt8).toNat ((128 + c / 4096 % 64).toNat.toUInt8).toNat ((128 + c / 64 % 64).toNat.toUInt8).toNat ((128 + c % 64).toNat.toUInt8).toNat = (_, 4)
        rw [e0, e1, e2, e3]
        unfold decN
        rw [if_neg (by omega), if_neg (by omega), if_neg (by omega), if_pos (by omega), if_pos (by omega)]
        exact Prod.ext (by simp only []; omega) rfl

theorem u8_inj (x : UInt8) (y : Int) (h0 : 0 ≤ y) (h : (x.toNat : Int) = y) : y.toNat.toUInt8 = x := by
  apply UInt8.toNat_inj.1
  have := x.toNat_lt
  rw [u8 y h0 (by omega)]; omega

/-- so many bytes stand there, if the last of them is not 0 -/
theorem long (l : List UInt8) (k : Nat) (h : nth l k ≠ 0) : k < l.length := by
  refine Nat.lt_of_not_le fun hk => h ?_
  unfold nth
  rw [List.getD_eq_getElem?_getD, List.getElem?_eq_none hk]
  rfl
theorem take_nth (l : List UInt8) (n : Nat) (h : n ≤ l.length) : ∀ r : List UInt8, r.length = n → (∀ k, k < n → nth r k = nth l k) → r = l.take n := by
  intro r hr hk
  apply List.ext_getElem
  · simp; omega
  · intro i h1 h2
    have := hk i (by omega)
    unfold nth at this
    rw [List.getD_eq_getElem?_getD, List.getD_eq_getElem?_getD, List.getElem?_eq_getElem h1, List.getElem?_eq_getElem (by omega)] at this
    rw [List.getElem_take]
    exact UInt8.toNat_inj.1 this

/-- what is taken well is written there -/
theorem dec_good (l : List UInt8) (hl : l ≠ []) (h : badB (dec l) = false) : isC (dec l).1 = true ∧ enc (dec l).1 = l.take (dec l).2 ∧ (dec l).2 ≤ l.length := by
  have hp : 0 < l.length := List.length_pos_iff.2 hl
  have h0 := nth_lt l 0
  have h1 := nth_lt l 1
  have h2 := nth_lt l 2
  have h3 := nth_lt l 3
  have w := decN_ways (nth l 0) (nth l 1) (nth l 2) (nth l 3)
  change badB (dec l) = true ∨ (_ ∧ dec l = _) ∨ (_ ∧ _ ∧ _ ∧ dec l = _) ∨ (_ ∧ _ ∧ _ ∧ _ ∧ _ ∧ dec l = _) ∨ (_ ∧ _ ∧ _ ∧ _ ∧ _ ∧ _ ∧ dec l = _) at w
  rcases w with w | ⟨a, e⟩ | ⟨a, b, c, e⟩ | ⟨a, b, c, d, f, e⟩ | ⟨a, b, c, d, f, g, e⟩
  · rw [h] at w; cases w
  · rw [e]
    refine ⟨by rw [isC_iff]; simp only []; omega, ?_, by simp only []; omega⟩
    refine take_nth l 1 (by omega) _ (by rw [enc_one (by simp only []; omega) (by simp only []; omega)]; rfl) fun k hk => ?_
    rw [enc_one (by simp only []; omega) (by simp only []; omega)]
    obtain rfl : k = 0 := by omega
    refine (u8 _ ?_ ?_).trans ?_ <;> simp only [] <;> omega
  · have n1 := long l 1 (by omega)
    rw [e]
    refine ⟨by rw [isC_iff]; simp only []; omega, ?_, by simp only []; omega⟩
    refine take_nth l 2 (by omega) _ (by rw [enc_two (by simp only []; omega) (by simp only []; omega)]; rfl) fun k hk => ?_
    rw [enc_two (by simp only []; omega) (by simp only []; omega)]
    match k, hk with
    | 0, _ => refine (u8 _ ?_ ?_).trans ?_ <;> simp only [] <;> omega
    | 1, _ => refine (u8 _ ?_ ?_).trans ?_ <;> simp only [] <;> omega
  · have n1 := long l 2 (by omega)
    rw [e]
    refine ⟨by rw [isC_iff]; simp only []; omega, ?_, by simp only []; omega⟩
    refine take_nth l 3 (by omega) _ (by rw [enc_three (by simp only []; omega)]; rfl) fun k hk => ?_
    rw [enc_three (by simp only []; omega)]
    match k, hk with
    | 0, _ => refine (u8 _ ?_ ?_).trans ?_ <;> simp only [] <;> omega
    | 1, _ => refine (u8 _ ?_ ?_).trans ?_ <;> simp only [] <;> omega
    | 2, _ => refine (u8 _ ?_ ?_).trans ?_ <;> simp only [] <;> omega
  · have n1 := long l 3 (by omega)
    rw [e]
    refine ⟨by rw [isC_iff]; simp only []; omega, ?_, by simp only []; omega⟩
    refine take_nth l 4 (by omega) _ (by rw [enc_four (by simp only []; omega) (by simp only []; omega)]; rfl) fun k hk => ?_
    rw [enc_four (by simp only []; omega) (by simp only []; omega)]
    match k, hk with
    | 0, _ => refine (u8 _ ?_ ?_).trans ?_ <;> simp only [] <;> omega
    | 1, _ => refine (u8 _ ?_ ?_).trans ?_ <;> simp only [] <;> omega
    | 2, _ => refine (u8 _ ?_ ?_).trans ?_ <;> simp only [] <;> omega
    | 3, _ => refine (u8 _ ?_ ?_).trans ?_ <;> simp only [] <;> omega

theorem badB_eq {p : Nat × Nat} (h : badB p = true) : p = (65533, 1) := by
  have := of_decide_eq_true h
  exact Prod.ext this.1 this.2

/-- one to four bytes, and no more than there are -/
theorem dec_width (l : List UInt8) (hl : l ≠ []) : 1 ≤ (dec l).2 ∧ (dec l).2 ≤ 4 ∧ (dec l).2 ≤ l.length := by
  have hp : 0 < l.length := List.length_pos_iff.2 hl
  by_cases h : badB (dec l) = true
  · rw [badB_eq h]; simp only []; omega
  · have g := dec_good l hl (by simpa using h)
    have w := decN_ways (nth l 0) (nth l 1) (nth l 2) (nth l 3)
    change badB (dec l) = true ∨ (_ ∧ dec l = _) ∨ (_ ∧ _ ∧ _ ∧ dec l = _) ∨ (_ ∧ _ ∧ _ ∧ _ ∧ _ ∧ dec l = _) ∨ (_ ∧ _ ∧ _ ∧ _ ∧ _ ∧ _ ∧ dec l = _) at w
    refine ⟨?_, ?_, g.2.2⟩
    · rcases w with w | ⟨a, e⟩ | ⟨a, b, c, e⟩ | ⟨a, b, c, d, f, e⟩ | ⟨a, b, c, d, f, g, e⟩
      · exact absurd w h
      all_goals (rw [e]; simp only []; omega)
    · rcases w with w | ⟨a, e⟩ | ⟨a, b, c, e⟩ | ⟨a, b, c, d, f, e⟩ | ⟨a, b, c, d, f, g, e⟩
      · exact absurd w h
      all_goals (rw [e]; simp only []; omega)

/-- what is taken is a character's number, good or not -/
theorem dec_isC (l : List UInt8) (hl : l ≠ []) : isC (dec l).1 = true := by
  by_cases h : badB (dec l) = true
  · rw [badB_eq h]; decide
  · exact (dec_good l hl (by simpa using h)).1

end Go.Proofs.Ythmecbonjkcnmaa.chars

namespace Go.Proofs.Ythmecbonjkcnmaa.chars

/-! what is taken of a text -/
def toks : Nat → List UInt8 → List (Nat × Nat)
  | 0, _ => []
  | _ + 1, [] => []
  | f + 1, x :: l => dec (x :: l) :: toks f ((x :: l).drop (dec (x :: l)).2)

theorem toks_nil (f : Nat) : toks f [] = [] := by cases f <;> rfl
theorem toks_step (f : Nat) (l : List UInt8) (h : l ≠ []) : toks (f + 1) l = dec l :: toks f (l.drop (dec l).2) := by
  cases l with
  | nil => exact absurd rfl h
  | cons x l => rfl
theorem toks_fuel : ∀ (f g : Nat) (l : List UInt8), l.length ≤ f → l.length ≤ g → toks f l = toks g l := by
  intro f
  induction f with
  | zero =>
    intro g l hf _
    have : l = [] := List.length_eq_zero_iff.1 (by omega)
    subst this
    rw [toks_nil, toks_nil]
  | succ f ih =>
    intro g l hf hg
    by_cases h : l = []
    · subst h; rw [toks_nil, toks_nil]
    · have hp := List.length_pos_iff.2 h
      obtain ⟨g, rfl⟩ : ∃ g', g = g' + 1 := ⟨g - 1, by omega⟩
      rw [toks_step f l h, toks_step g l h]
      have w := dec_width l h
      rw [ih g _ (by rw [List.length_drop]; omega) (by rw [List.length_drop]; omega)]

/-- all that is taken of a text, in order -/
def T (l : List UInt8) : List (Nat × Nat) := toks l.length l
theorem T_nil : T [] = [] := rfl
theorem T_step (l : List UInt8) (h : l ≠ []) : T l = dec l :: T (l.drop (dec l).2) := by
  have hp := List.length_pos_iff.2 h
  have w := dec_width l h
  obtain ⟨n, hn⟩ : ∃ n, l.length = n + 1 := ⟨l.length - 1, by omega⟩
  unfold T
  rw [hn, toks_step n l h, toks_fuel n _ _ (by rw [List.length_drop]; omega) (Nat.le_refl _)]

/-- each bad byte as FFFD is written -/
def fix (l : List UInt8) : List UInt8 := (T l).flatMap fun p => enc p.1
/-- how many -/
def count (l : List UInt8) : Nat := (T l).length
/-- nothing bad -/
def valid (l : List UInt8) : Bool := (T l).all fun p => !badB p

theorem fix_nil : fix [] = [] := rfl
theorem fix_step (l : List UInt8) (h : l ≠ []) : fix l = enc (dec l).1 ++ fix (l.drop (dec l).2) := by
  unfold fix; rw [T_step l h]; rfl
theorem count_nil : count [] = 0 := rfl
theorem count_step (l : List UInt8) (h : l ≠ []) : count l = count (l.drop (dec l).2) + 1 := by
  unfold count; rw [T_step l h]; rfl
theorem valid_nil : valid [] = true := rfl
theorem valid_step (l : List UInt8) (h : l ≠ []) : valid l = (!badB (dec l) && valid (l.drop (dec l).2)) := by
  unfold valid; rw [T_step l h]; rfl

/-- what is taken are characters -/
theorem T_isC : ∀ (n : Nat) (l : List UInt8), l.length ≤ n → ∀ p ∈ T l, isC p.1 = true := by
  intro n
  induction n with
  | zero =>
    intro l hl p hp
    have : l = [] := List.length_eq_zero_iff.1 (by omega)
    subst this
    cases hp
  | succ n ih =>
    intro l hl p hp
    by_cases h : l = []
    · subst h; cases hp
    · rw [T_step l h] at hp
      have w := dec_width l h
      rcases List.mem_cons.1 hp with rfl | hq
      · exact dec_isC l h
      · exact ih _ (by rw [List.length_drop]; omega) p hq

theorem enc_ne (c : Int) : enc c ≠ [] := by
  intro h
  have := Lib.encodeRuneZ_length c
  have e : (enc c).length = (Lib.encodeRuneZ c).length := by simp [enc, Lib.encodeRune]
  rw [h] at e
  simp at e
  omega
theorem enc_length (c : Int) : 1 ≤ (enc c).length ∧ (enc c).length ≤ 4 := by
  have := Lib.encodeRuneZ_length c
  have e : (enc c).length = (Lib.encodeRuneZ c).length := by simp [enc, Lib.encodeRune]
  omega
theorem enc_good (c : Nat) : badB (c, (enc (c : Int)).length) = false := by
  unfold badB
  rw [decide_eq_false_iff_not]
  rintro ⟨h1, h2⟩
  simp only [] at h1 h2
  subst h1
  rw [enc_three (by omega)] at h2
  simp at h2

/-- a text that is written, with another behind it -/
theorem T_written (b : List UInt8) : ∀ cs : List (Nat × Nat), (∀ p ∈ cs, isC p.1 = true) → T ((cs.flatMap fun p => enc p.1) ++ b) = (cs.map fun p => (p.1, (enc p.1).length)) ++ T b := by
  intro cs
  induction cs with
  | nil => intro _; rfl
  | cons p cs ih =>
    intro h
    have hp := h p (List.mem_cons_self ..)
    have e := dec_enc p.1 hp ((cs.flatMap fun p => enc p.1) ++ b)
    rw [List.flatMap_cons, List.append_assoc, T_step _ (by simp [enc_ne]), e]
    simp only [Int.toNat_natCast, List.drop_left', List.map_cons, List.cons_append]
    rw [ih fun q hq => h q (List.mem_cons_of_mem _ hq)]

theorem fix_chars (l : List UInt8) : ∀ p ∈ T l, isC p.1 = true := T_isC l.length l (Nat.le_refl _)
theorem T_fix (l b : List UInt8) : T (fix l ++ b) = ((T l).map fun p => (p.1, (enc p.1).length)) ++ T b := T_written b (T l) (fix_chars l)

theorem fix_behind (a b : List UInt8) : fix (fix a ++ b) = fix a ++ fix b := by
  conv => lhs; unfold fix
  rw [show (List.flatMap (fun p : Nat × Nat => enc p.1) (T a)) = fix a from rfl, T_fix a b, List.flatMap_append]
  congr 1
  unfold fix
  rw [List.flatMap_map]
theorem count_behind (a b : List UInt8) : count (fix a ++ b) = count (fix a) + count b := by
  have e := T_fix a []
  rw [List.append_nil, T_nil, List.append_nil] at e
  unfold count
  rw [T_fix a b, e, List.length_append]
theorem all_good (cs : List (Nat × Nat)) : ((cs.map fun p => (p.1, (enc (p.1 : Int)).length)).all fun p => !badB p) = true := by
  rw [List.all_eq_true]
  intro p hp
  obtain ⟨q, _, rfl⟩ := List.mem_map.1 hp
  rw [enc_good q.1]; rfl
theorem valid_behind (a b : List UInt8) : valid (fix a ++ b) = valid b := by
  unfold valid
  rw [T_fix a b, List.all_append, all_good, Bool.true_and]

theorem fix_fix (l : List UInt8) : fix (fix l) = fix l := by
  have := fix_behind l []
  rwa [List.append_nil, fix_nil, List.append_nil] at this
theorem valid_fix (l : List UInt8) : valid (fix l) = true := by
  have := valid_behind l []
  rwa [List.append_nil] at this
theorem count_fix (l : List UInt8) : count (fix l) = count l := by
  have e := T_fix l []
  rw [List.append_nil, T_nil, List.append_nil] at e
  unfold count
  rw [e, List.length_map]
theorem fix_valid : ∀ (n : Nat) (l : List UInt8), l.length ≤ n → valid l = true → fix l = l := by
  intro n
  induction n with
  | zero =>
    intro l hl _
    have : l = [] := List.length_eq_zero_iff.1 (by omega)
    subst this
    rfl
  | succ n ih =>
    intro l hl hv
    by_cases h : l = []
    · subst h; rfl
    · have w := dec_width l h
      rw [valid_step l h, Bool.and_eq_true] at hv
      have g := dec_good l h (by simpa using hv.1)
      rw [fix_step l h, ih _ (by rw [List.length_drop]; omega) hv.2, g.2.1, List.take_append_drop]

theorem fix_length (l : List UInt8) : ∀ n, l.length ≤ n → (fix l).length ≤ 4 * l.length := by
  intro n
  induction n generalizing l with
  | zero =>
    intro hl
    have : l = [] := List.length_eq_zero_iff.1 (by omega)
    subst this
    simp [fix_nil]
  | succ n ih =>
    intro hl
    by_cases h : l = []
    · subst h; simp [fix_nil]
    · have w := dec_width l h
      have e := enc_length ((dec l).1 : Int)
      have := ih (l.drop (dec l).2) (by rw [List.length_drop]; omega)
      rw [fix_step l h, List.length_append]
      rw [List.length_drop] at this
      omega

/-! the document's own way -/
def base (n : Nat) : Int := if n = 2 then 192 else if n = 3 then 224 else if n = 4 then 240 else 0
def acc (l : List UInt8) (n : Nat) : Nat → Int
  | 0 => (nth l 0 : Int) - base n
  | k + 1 => acc l n k * 64 + (nth l (k + 1) : Int) - 128
def more (l : List UInt8) (n : Nat) : Int := if n ≤ l.length ∧ ∀ j, j < n → 1 ≤ j → 128 ≤ nth l j ∧ nth l j ≤ 191 then acc l n (n - 1) else -1

theorem base_bd (n : Nat) : 0 ≤ base n ∧ base n ≤ 240 := by
  unfold base
  repeat' split
  all_goals omega
theorem acc_bd (l : List UInt8) (n k : Nat) (h : k ≤ 3) : -100000000 ≤ acc l n k ∧ acc l n k ≤ 100000000 := by
  have b := base_bd n
  have h0 := nth_lt l 0
  have h1 := nth_lt l 1
  have h2 := nth_lt l 2
  have h3 := nth_lt l 3
  match k, h with
  | 0, _ => simp only [acc]; omega
  | 1, _ => simp only [acc, Nat.zero_add]; omega
  | 2, _ => simp only [acc, Nat.zero_add, Nat.reduceAdd]; omega
  | 3, _ => simp only [acc, Nat.zero_add, Nat.reduceAdd]; omega

/-- a character stands there, of so many bytes -/
def Hit (l : List UInt8) (n : Nat) : Prop := isC (more l n) = true ∧ enc (more l n) = l.take n

theorem more_long (l : List UInt8) (n : Nat) (h : isC (more l n) = true) : n ≤ l.length := by
  rw [isC_iff] at h
  unfold more at h
  split at h
  · rename_i h1; exact h1.1
  · omega

theorem hit_dec (l : List UInt8) (n : Nat) (h : Hit l n) : dec l = ((more l n).toNat, n) ∧ badB (dec l) = false := by
  have hn := more_long l n h.1
  have e := dec_enc _ h.1 (l.drop n)
  have hlen : (enc (more l n)).length = n := by rw [h.2, List.length_take]; omega
  rw [h.2, List.take_append_drop, ← h.2, hlen] at e
  refine ⟨e, ?_⟩
  rw [e]
  have g := enc_good (more l n).toNat
  have h0 := ((isC_iff _).1 h.1).1
  rwa [show (((more l n).toNat : Nat) : Int) = more l n from by omega, hlen] at g

theorem nth_take (l : List UInt8) (n k : Nat) (h : k < n) : nth (l.take n) k = nth l k := by
  unfold nth
  rw [List.getD_eq_getElem?_getD, List.getD_eq_getElem?_getD, List.getElem?_take_of_lt h]

theorem dec_hit (l : List UInt8) (hl : l ≠ []) (h : badB (dec l) = false) : more l (dec l).2 = (dec l).1 ∧ Hit l (dec l).2 := by
  have g := dec_good l hl h
  have key : more l (dec l).2 = (dec l).1 := by
    obtain ⟨g1, g2, g3⟩ := g
    generalize dec l = p at *
    obtain ⟨c, n⟩ := p
    simp only [] at g1 g2 g3 ⊢
    have hlen : (enc (c : Int)).length = n := by rw [g2, List.length_take]; omega
    have at' : ∀ k, k < n → nth l k = nth (enc (c : Int)) k := fun k hk => by rw [g2, nth_take l n k hk]
    rw [isC_iff] at g1
    by_cases h1 : c ≤ 127
    · rw [enc_one (by omega) (by omega)] at hlen at'
      obtain rfl : 1 = n := hlen
      have a0 : nth l 0 = c := (at' 0 (by omega)).trans ((u8 _ (by omega) (by omega)).trans (by omega))
      unfold more
      rw [if_pos ⟨g3, fun j h1 h2 => by omega⟩]
      simp [acc, base, a0]
    · by_cases h2 : c ≤ 2047
      · rw [enc_two (by omega) (by omega)] at hlen at'
        obtain rfl : 2 = n := hlen
        have a0 : nth l 0 = 192 + c / 64 := (at' 0 (by omega)).trans ((u8 _ (by omega) (by omega)).trans (by omega))
        have a1 : nth l 1 = 128 + c % 64 := (at' 1 (by omega)).trans ((u8 _ (by omega) (by omega)).trans (by omega))
        unfold more
        rw [if_pos ⟨g3, fun j h1 h2 => by obtain rfl : j = 1 := by omega
                                          omega⟩]
        simp only [acc, base, a0, a1, Nat.add_one_sub_one, if_true]
        omega
      · by_cases h3 : c ≤ 65535
        · rw [enc_three (by omega)] at hlen at'
          obtain rfl : 3 = n := hlen
          have a0 : nth l 0 = 224 + c / 4096 := (at' 0 (by omega)).trans ((u8 _ (by omega) (by omega)).trans (by omega))
          have a1 : nth l 1 = 128 + c / 64 % 64 := (at' 1 (by omega)).trans ((u8 _ (by omega) (by omega)).trans (by omega))
          have a2 : nth l 2 = 128 + c % 64 := (at' 2 (by omega)).trans ((u8 _ (by omega) (by omega)).trans (by omega))
          unfold more
          rw [if_pos ⟨g3, fun j h1 h2 => by
            rcases (by omega : j = 1 ∨ j = 2) with rfl | rfl <;> omega⟩]
          show (acc l 3 2) = _
          simp only [acc, base, a0, a1, a2]
          simp
          omega
        · rw [enc_four (by omega) (by omega)] at hlen at'
          obtain rfl : 4 = n := hlen
          have a0 : nth l 0 = 240 + c / 262144 := (at' 0 (by omega)).trans ((u8 _ (by omega) (by omega)).trans (by omega))
          have a1 : nth l 1 = 128 + c / 4096 % 64 := (at' 1 (by omega)).trans ((u8 _ (by omega) (by omega)).trans (by omega))
          have a2 : nth l 2 = 128 + c / 64 % 64 := (at' 2 (by omega)).trans ((u8 _ (by omega) (by omega)).trans (by omega))
          have a3 : nth l 3 = 128 + c % 64 := (at' 3 (by omega)).trans ((u8 _ (by omega) (by omega)).trans (by omega))
          unfold more
          rw [if_pos ⟨g3, fun j h1 h2 => by
            rcases (by omega : j = 1 ∨ j = 2 ∨ j = 3) with rfl | rfl | rfl <;> omega⟩]
          show (acc l 4 3) = _
          simp only [acc, base, a0, a1, a2, a3]
          simp
          omega
  refine ⟨key, ?_, ?_⟩
  · rw [key]; exact g.1
  · rw [key]; exact g.2.1

end Go.Proofs.Ythmecbonjkcnmaa.chars
