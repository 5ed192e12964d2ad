/-
  Plain facts on characters in bytes: how the head of a list of bytes is taken, how a character is written, texts as lists of what is taken. No program in it.
-/
import Derived.Laws.RangeAny
import Derived.Lib.RuneBytes
namespace Go.Proofs.Ytjdgcnednaeogaa.chars

/-- the k-th byte's number; 0 beyond the end -/
def nth (l : List UInt8) (k : Nat) : Nat := (l.getD k 0).toNat

theorem nth_lt (l : List UInt8) (k : Nat) : nth l k < 256 := UInt8.toNat_lt _
theorem nth_cons_zero (x : UInt8) (l : List UInt8) : nth (x :: l) 0 = x.toNat := rfl
theorem nth_cons_succ (x : UInt8) (l : List UInt8) (k : Nat) : nth (x :: l) (k + 1) = nth l k := rfl
theorem nth_nil (k : Nat) : nth [] k = 0 := rfl

/-- is it a character's number? -/
def isC (c : Int) : Bool := decide (0 ≤ c ∧ c ≤ 1114111 ∧ ¬ (55296 ≤ c ∧ c ≤ 57343))

/-- what is taken where four bytes stand (0 where none does): the character, and how many bytes -/
def decN (a b c d : Nat) : Nat × Nat :=
  if a < 128 then (a, 1)
  else if a / 32 = 6 ∧ b / 64 = 2 then
    if 128 ≤ a % 32 * 64 + b % 64 then (a % 32 * 64 + b % 64, 2) else (65533, 1)
  else if a / 16 = 14 ∧ b / 64 = 2 ∧ c / 64 = 2 then
    if 2048 ≤ a % 16 * 4096 + b % 64 * 64 + c % 64 ∧ ¬ (55296 ≤ a % 16 * 4096 + b % 64 * 64 + c % 64 ∧ a % 16 * 4096 + b % 64 * 64 + c % 64 ≤ 57343)
    then (a % 16 * 4096 + b % 64 * 64 + c % 64, 3) else (65533, 1)
  else if a / 8 = 30 ∧ b / 64 = 2 ∧ c / 64 = 2 ∧ d / 64 = 2 then
    if 65536 ≤ a % 8 * 262144 + b % 64 * 4096 + c % 64 * 64 + d % 64 ∧ a % 8 * 262144 + b % 64 * 4096 + c % 64 * 64 + d % 64 ≤ 1114111
    then (a % 8 * 262144 + b % 64 * 4096 + c % 64 * 64 + d % 64, 4) else (65533, 1)
  else (65533, 1)
/-- what is taken at the head of a list of bytes -/
def dec (l : List UInt8) : Nat × Nat := decN (nth l 0) (nth l 1) (nth l 2) (nth l 3)

/-- nothing good was taken -/
def badB (p : Nat × Nat) : Bool := decide (p.1 = 65533 ∧ p.2 = 1)
theorem badB_bad : badB (65533, 1) = true := rfl

/-- the ways of taking -/
theorem decN_ways (a b c d : Nat) : badB (decN a b c d) = true ∨ (a < 128 ∧ decN a b c d = (a, 1)) ∨
    (a / 32 = 6 ∧ b / 64 = 2 ∧ 128 ≤ a % 32 * 64 + b % 64 ∧ decN a b c d = (a % 32 * 64 + b % 64, 2)) ∨
    (a / 16 = 14 ∧ b / 64 = 2 ∧ c / 64 = 2 ∧ 2048 ≤ a % 16 * 4096 + b % 64 * 64 + c % 64 ∧ ¬ (55296 ≤ a % 16 * 4096 + b % 64 * 64 + c % 64 ∧ a % 16 * 4096 + b % 64 * 64 + c % 64 ≤ 57343) ∧ decN a b c d = (a % 16 * 4096 + b % 64 * 64 + c % 64, 3)) ∨
    (a / 8 = 30 ∧ b / 64 = 2 ∧ c / 64 = 2 ∧ d / 64 = 2 ∧ 65536 ≤ a % 8 * 262144 + b % 64 * 4096 + c % 64 * 64 + d % 64 ∧ a % 8 * 262144 + b % 64 * 4096 + c % 64 * 64 + d % 64 ≤ 1114111 ∧ decN a b c d = (a % 8 * 262144 + b % 64 * 4096 + c % 64 * 64 + d % 64, 4)) := by
  unfold decN
  split
  · rename_i h; exact .inr (.inl ⟨h, rfl⟩)
  · split
    · rename_i h; split
      · rename_i h1; exact .inr (.inr (.inl ⟨h.1, h.2, h1, rfl⟩))
      · exact .inl badB_bad
    · split
      · rename_i h; split
        · rename_i h1; exact .inr (.inr (.inr (.inl ⟨h.1, h.2.1, h.2.2, h1.1, h1.2, rfl⟩)))
        · exact .inl badB_bad
      · split
        · rename_i h; split
          · rename_i h1; exact .inr (.inr (.inr (.inr ⟨h.1, h.2.1, h.2.2.1, h.2.2.2, h1.1, h1.2, rfl⟩)))
          · exact .inl badB_bad
        · exact .inl badB_bad

theorem get_nth (s : ByteArray) (i k : Nat) : (s.get! (i + k)).toNat = nth (s.data.toList.drop i) k := by
  have e : s.get! (i + k) = (s.data.toList.drop i).getD k 0 := by
    show s.data[i + k]! = _
    simp only [List.getD_eq_getElem?_getD, List.getElem?_drop, Array.getElem?_toList, getElem!_def]
    cases s.data[i + k]? <;> rfl
  rw [e]; rfl

theorem lt_nth (s : ByteArray) (i k : Nat) : (decide (i + k < s.size) && (nth (s.data.toList.drop i) k / 64 == 2)) = decide (nth (s.data.toList.drop i) k / 64 = 2) := by
  by_cases h : i + k < s.size
  · simp [h]
    rfl
  · have e : nth (s.data.toList.drop i) k = 0 := by
      unfold nth
      have hs : s.data.toList.length = s.size := by simp
      rw [List.getD_eq_getElem?_getD, List.getElem?_eq_none (by simp; omega)]
      rfl
    simp [h, e]

/-- the model's own taking, at a place, is the taking at the head of what is left -/
theorem decode_eq (s : ByteArray) (i : Nat) : Utf8.decode s i = dec (s.data.toList.drop i) := by
  unfold dec
  have c1 := lt_nth s i 1
  have c2 := lt_nth s i 2
  have c3 := lt_nth s i 3
  have g0 := get_nth s i 0
  have g1 := get_nth s i 1
  have g2 := get_nth s i 2
  have g3 := get_nth s i 3
  have h0 := nth_lt (s.data.toList.drop i) 0
  have h1 := nth_lt (s.data.toList.drop i) 1
  have h2 := nth_lt (s.data.toList.drop i) 2
  have h3 := nth_lt (s.data.toList.drop i) 3
  unfold Utf8.decode
  simp only [g0, g1, g2, g3, c1, c2, c3]
  generalize nth (s.data.toList.drop i) 0 = a at *
  generalize nth (s.data.toList.drop i) 1 = b at *
  generalize nth (s.data.toList.drop i) 2 = c at *
  generalize nth (s.data.toList.drop i) 3 = d at *
  clear g0 g1 g2 g3 c1 c2 c3
  unfold decN Utf8.valid Utf8.runeError
  simp only [Bool.and_eq_true, decide_eq_true_eq, beq_iff_eq, Bool.or_eq_true, and_assoc]
  repeat' split
  all_goals first | rfl | (exfalso; omega)

/-- how a character is written -/
abbrev enc (c : Int) : List UInt8 := Lib.encodeRune c
/-- what Put gives -/
def put (c : Int) : List UInt8 := if isC c = true then enc c else []

theorem isC_iff (c : Int) : isC c = true ↔ 0 ≤ c ∧ c ≤ 1114111 ∧ ¬ (55296 ≤ c ∧ c ≤ 57343) := by
  unfold isC; exact decide_eq_true_iff

theorem u8 (x : Int) (_ : 0 ≤ x) (h1 : x < 256) : ((x.toNat).toUInt8).toNat = x.toNat := by
  simp; omega

theorem enc_one {c : Int} (h0 : 0 ≤ c) (h1 : c ≤ 127) : enc c = [c.toNat.toUInt8] := by
  simp only [enc, Lib.encodeRune, Lib.encodeRuneZ_one h0 h1, List.map]
theorem enc_two {c : Int} (h0 : 128 ≤ c) (h1 : c ≤ 2047) : enc c = [(192 + c / 64).toNat.toUInt8, (128 + c % 64).toNat.toUInt8] := by
  simp only [enc, Lib.encodeRune, Lib.encodeRuneZ_two h0 h1, List.map]
theorem enc_three {c : Int} (h : (2048 ≤ c ∧ c < 55296) ∨ (57343 < c ∧ c ≤ 65535)) : enc c = [(224 + c / 4096).toNat.toUInt8, (128 + c / 64 % 64).toNat.toUInt8, (128 + c % 64).toNat.toUInt8] := by
  simp only [enc, Lib.encodeRune, Lib.encodeRuneZ_three h, List.map]
theorem enc_four {c : Int} (h0 : 65536 ≤ c) (h1 : c ≤ 1114111) : enc c = [(240 + c / 262144).toNat.toUInt8, (128 + c / 4096 % 64).toNat.toUInt8, (128 + c / 64 % 64).toNat.toUInt8, (128 + c % 64).toNat.toUInt8] := by
  simp only [enc, Lib.encodeRune, Lib.encodeRuneZ_four h0 h1, List.map]

/-- a character that is written is taken again -/
theorem dec_enc (c : Int) (h : isC c = true) (r : List UInt8) : dec (enc c ++ r) = (c.toNat, (enc c).length) := by
  rw [isC_iff] at h
  by_cases h1 : c ≤ 127
  · rw [enc_one h.1 h1]
    have e := u8 c h.1 (by omega)
    show decN (c.toNat.toUInt8).toNat _ _ _ = _
    rw [e]
    unfold decN
    rw [if_pos (by omega)]; rfl
  · by_cases h2 : c ≤ 2047
    · rw [enc_two (by omega) h2]
      have e0 := u8 (192 + c / 64) (by omega) (by omega)
      have e1 := u8 (128 + c % 64) (by omega) (by omega)
      show decN ((192 + c / 64).toNat.toUInt8).toNat ((128 + c % 64).toNat.toUInt8).toNat _ _ = (_, 2)
      rw [e0, e1]
      unfold decN
      rw [if_neg (by omega), if_pos (by omega), if_pos (by omega)]
      exact Prod.ext (by simp only []; omega) rfl
    · by_cases h3 : c ≤ 65535
      · rw [enc_three (by omega)]
        have e0 := u8 (224 + c / 4096) (by omega) (by omega)
        have e1 := u8 (128 + c / 64 % 64) (by omega) (by omega)
        have e2 := u8 (128 + c % 64) (by omega) (by omega)
        show decN ((224 + c / 4096).toNat.toUInt8).toNat ((128 + c / 64 % 64).toNat.toUInt8).toNat ((128 + c % 64).toNat.toUInt8).toNat _ = (_, 3)
        rw [e0, e1, e2]
        unfold decN
        rw [if_neg (by omega), if_neg (by omega), if_pos (by omega), if_pos (by omega)]
        exact Prod.ext (by simp only []; omega) rfl
      · rw [enc_four (by omega) (by omega)]
        have e0 := u8 (240 + c / 262144) (by omega) (by omega)
        have e1 := u8 (128 + c / 4096 % 64) (by omega) (by omega)
        have e2 := u8 (128 + c / 64 % 64) (by omega) (by omega)
        have e3 := u8 (128 + c % 64) (by omega) (by omega)
        show decN ((240 + c / 262144).toNat.toUInt8).toNat ((128 + c / 4096 % 64).toNat.toUInt8).toNat ((128 + c / 64 % 64).toNat.toUInt8).toNat ((128 + c % 64).toNat.toUInt8).toNat = (_, 4)
        rw [e0, e1, e2, e3]
        unfold decN
        rw [if_neg (by omega), if_neg (by omega), if_neg (by omega), if_pos (by omega), if_pos (by omega)]
        exact Prod.ext (by simp only []; omega) rfl

theorem u8_inj (x : UInt8) (y : Int) (h0 : 0 ≤ y) (h : (x.toNat : Int) = y) : y.toNat.toUInt8 = x := by
  apply UInt8.toNat_inj.1
  have := x.toNat_lt
  rw [u8 y h0 (by omega)]; omega

/-- so many bytes stand there, if the last of them is not 0 -/
theorem long (l : List UInt8) (k : Nat) (h : nth l k ≠ 0) : k < l.length := by
  refine Nat.lt_of_not_le fun hk => h ?_
  unfold nth
  rw [List.getD_eq_getElem?_getD, List.getElem?_eq_none hk]
  rfl
theorem take_nth (l : List UInt8) (n : Nat) (h : n ≤ l.length) : ∀ r : List UInt8, r.length = n → (∀ k, k < n → nth r k = nth l k) → r = l.take n := by
  intro r hr hk
  apply List.ext_getElem
  · simp; omega
  · intro i h1 h2
    have := hk i (by omega)
    unfold nth at this
    rw [List.getD_eq_getElem?_getD, List.getD_eq_getElem?_getD, List.getElem?_eq_getElem h1, List.getElem?_eq_getElem (by omega)] at this
    rw [List.getElem_take]
    exact UInt8.toNat_inj.1 this

/-- what is taken well is written there -/
theorem dec_good (l : List UInt8) (hl : l ≠ []) (h : badB (dec l) = false) : isC (dec l).1 = true ∧ enc (dec l).1 = l.take (dec l).2 ∧ (dec l).2 ≤ l.length := by
  have hp : 0 < l.length := List.length_pos_iff.2 hl
  have h0 := nth_lt l 0
  have h1 := nth_lt l 1
  have h2 := nth_lt l 2
  have h3 := nth_lt l 3
  have w := decN_ways (nth l 0) (nth l 1) (nth l 2) (nth l 3)
  change badB (dec l) = true ∨ (_ ∧ dec l = _) ∨ (_ ∧ _ ∧ _ ∧ dec l = _) ∨ (_ ∧ _ ∧ _ ∧ _ ∧ _ ∧ dec l = _) ∨ (_ ∧ _ ∧ _ ∧ _ ∧ _ ∧ _ ∧ dec l = _) at w
  rcases w with w | ⟨a, e⟩ | ⟨a, b, c, e⟩ | ⟨a, b, c, d, f, e⟩ | ⟨a, b, c, d, f, g, e⟩
  · rw [h] at w; cases w
  · rw [e]
    refine ⟨by rw [isC_iff]; simp only []; omega, ?_, by simp only []; omega⟩
    refine take_nth l 1 (by omega) _ (by rw [enc_one (by simp only []; omega) (by simp only []; omega)]; rfl) fun k hk => ?_
    rw [enc_one (by simp only []; omega) (by simp only []; omega)]
    obtain rfl : k = 0 := by omega
    refine (u8 _ ?_ ?_).trans ?_ <;> simp only [] <;> omega
  · have n1 := long l 1 (by omega)
    rw [e]
    refine ⟨by rw [isC_iff]; simp only []; omega, ?_, by simp only []; omega⟩
    refine take_nth l 2 (by omega) _ (by rw [enc_two (by simp only []; omega) (by simp only []; omega)]; rfl) fun k hk => ?_
    rw [enc_two (by simp only []; omega) (by simp only []; omega)]
    match k, hk with
    | 0, _ => refine (u8 _ ?_ ?_).trans ?_ <;> simp only [] <;> omega
    | 1, _ => refine (u8 _ ?_ ?_).trans ?_ <;> simp only [] <;> omega
  · have n1 := long l 2 (by omega)
    rw [e]
    refine ⟨by rw [isC_iff]; simp only []; omega, ?_, by simp only []; omega⟩
    refine take_nth l 3 (by omega) _ (by rw [enc_three (by simp only []; omega)]; rfl) fun k hk => ?_
    rw [enc_three (by simp only []; omega)]
    match k, hk with
    | 0, _ => refine (u8 _ ?_ ?_).trans ?_ <;> simp only [] <;> omega
    | 1, _ => refine (u8 _ ?_ ?_).trans ?_ <;> simp only [] <;> omega
    | 2, _ => refine (u8 _ ?_ ?_).trans ?_ <;> simp only [] <;> omega
  · have n1 := long l 3 (by omega)
    rw [e]
    refine ⟨by rw [isC_iff]; simp only []; omega, ?_, by simp only []; omega⟩
    refine take_nth l 4 (by omega) _ (by rw [enc_four (by simp only []; omega) (by simp only []; omega)]; rfl) fun k hk => ?_
    rw [enc_four (by simp only []; omega) (by simp only []; omega)]
    match k, hk with
    | 0, _ => refine (u8 _ ?_ ?_).trans ?_ <;> simp only [] <;> omega
    | 1, _ => refine (u8 _ ?_ ?_).trans ?_ <;> simp only [] <;> omega
    | 2, _ => refine (u8 _ ?_ ?_).trans ?_ <;> simp only [] <;> omega
    | 3, _ => refine (u8 _ ?_ ?_).trans ?_ <;> simp only [] <;> omega

theorem badB_eq {p : Nat × Nat} (h : badB p = true) : p = (65533, 1) := by
  have := of_decide_eq_true h
  exact Prod.ext this.1 this.2

/-- one to four bytes, and no more than there are -/
theorem dec_width (l : List UInt8) (hl : l ≠ []) : 1 ≤ (dec l).2 ∧ (dec l).2 ≤ 4 ∧ (dec l).2 ≤ l.length := by
  have hp : 0 < l.length := List.length_pos_iff.2 hl
  by_cases h : badB (dec l) = true
  · rw [badB_eq h]; simp only []; omega
  · have g := dec_good l hl (by simpa using h)
    have w := decN_ways (nth l 0) (nth l 1) (nth l 2) (nth l 3)
    change badB (dec l) = true ∨ (_ ∧ dec l = _) ∨ (_ ∧ _ ∧ _ ∧ dec l = _) ∨ (_ ∧ _ ∧ _ ∧ _ ∧ _ ∧ dec l = _) ∨ (_ ∧ _ ∧ _ ∧ _ ∧ _ ∧ _ ∧ dec l = _) at w
    refine ⟨?_, ?_, g.2.2⟩
    · rcases w with w | ⟨a, e⟩ | ⟨a, b, c, e⟩ | ⟨a, b, c, d, f, e⟩ | ⟨a, b, c, d, f, g, e⟩
      · exact absurd w h
      all_goals (rw [e]; simp only []; omega)
    · rcases w with w | ⟨a, e⟩ | ⟨a, b, c, e⟩ | ⟨a, b, c, d, f, e⟩ | ⟨a, b, c, d, f, g, e⟩
      · exact absurd w h
      all_goals (rw [e]; simp only []; omega)

/-- what is taken is a character's number, good or not -/
theorem dec_isC (l : List UInt8) (hl : l ≠ []) : isC (dec l).1 = true := by
  by_cases h : badB (dec l) = true
  · rw [badB_eq h]; decide
  · exact (dec_good l hl (by simpa using h)).1

end Go.Proofs.Ytjdgcnednaeogaa.chars
