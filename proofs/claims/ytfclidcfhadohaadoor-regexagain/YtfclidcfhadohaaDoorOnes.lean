/-
  Plain mathematics, no program: how many bits of a number below 2^64 are 1, as math/bits reckons it.
-/
import Derived.Test.YtfclidcfhadohaaDoorSets
namespace Go.Proofs.YtfclidcfhadohaaDoor.st
set_option linter.unusedVariables false

def rep (m : Nat) : Nat → Nat
  | 0 => 0
  | k + 1 => m + 256 * rep m k
def val : List Nat → Nat
  | [] => 0
  | e :: l => e + 256 * val l

theorem and_split (e m y M : Nat) (he : e < 256) (hm : m < 256) : (e + 256 * y) &&& (m + 256 * M) = (e &&& m) + 256 * (y &&& M) := by
  have h1 : ((e + 256 * y) &&& (m + 256 * M)) % 2 ^ 8 = e &&& m := by
    rw [Nat.and_mod_two_pow, show (e + 256 * y) % 2 ^ 8 = e from by omega, show (m + 256 * M) % 2 ^ 8 = m from by omega]
  have h2 : ((e + 256 * y) &&& (m + 256 * M)) / 2 ^ 8 = y &&& M := by
    rw [Nat.and_div_two_pow, show (e + 256 * y) / 2 ^ 8 = y from by omega, show (m + 256 * M) / 2 ^ 8 = M from by omega]
  omega

def t1 (e : Nat) : Nat := (e / 2 &&& 85) + (e &&& 85)
def t2 (e : Nat) : Nat := (e / 4 &&& 51) + (e &&& 51)
def t3 (e : Nat) : Nat := (e / 16 + e) % 16
def s1 (k x : Nat) : Nat := (x / 2 &&& rep 85 k) + (x &&& rep 85 k)
def s2 (k x : Nat) : Nat := (x / 4 &&& rep 51 k) + (x &&& rep 51 k)
def s3 (k x : Nat) : Nat := (x / 16 + x) &&& rep 15 k

set_option maxRecDepth 100000 in
theorem kill1 : ∀ e, e < 256 → ∀ b, b < 2 → (e / 2 + 128 * b) &&& 85 = e / 2 &&& 85 := by decide +kernel
set_option maxRecDepth 100000 in
theorem kill2 : ∀ e, e < 256 → ∀ b, b < 4 → (e / 4 + 64 * b) &&& 51 = e / 4 &&& 51 := by decide +kernel
set_option maxRecDepth 100000 in
theorem few : ∀ e, e < 256 → t1 e < 256 ∧ t2 (t1 e) ≤ 68 ∧ t2 (t1 e) % 16 ≤ 4 ∧ t3 (t2 (t1 e)) ≤ 8 ∧ t3 (t2 (t1 e)) = (List.range 8).countP (fun j => e.testBit j) := by decide +kernel

theorem s1_val (l : List Nat) (h : ∀ e ∈ l, e < 256) : s1 l.length (val l) = val (l.map t1) := by
  induction l with
  | nil => rfl
  | cons e l ih =>
    have he := h e (by simp)
    have h1 := ih (fun x hx => h x (by simp [hx]))
    unfold s1 at h1 ⊢
    rw [List.length_cons, List.map_cons, val, val, rep, show (e + 256 * val l) / 2 = (e / 2 + 128 * (val l % 2)) + 256 * (val l / 2) from by omega,
      and_split _ _ _ _ (by omega) (by omega), and_split _ _ _ _ he (by omega), kill1 e he _ (by omega), ← h1]
    unfold t1
    omega
theorem s2_val (l : List Nat) (h : ∀ e ∈ l, e < 256) : s2 l.length (val l) = val (l.map t2) := by
  induction l with
  | nil => rfl
  | cons e l ih =>
    have he := h e (by simp)
    have h1 := ih (fun x hx => h x (by simp [hx]))
    unfold s2 at h1 ⊢
    rw [List.length_cons, List.map_cons, val, val, rep, show (e + 256 * val l) / 4 = (e / 4 + 64 * (val l % 4)) + 256 * (val l / 4) from by omega,
      and_split _ _ _ _ (by omega) (by omega), and_split _ _ _ _ he (by omega), kill2 e he _ (by omega), ← h1]
    unfold t2
    omega
theorem val_mod (l : List Nat) (h : ∀ e ∈ l, e % 16 ≤ 4) : val l % 16 ≤ 4 := by
  cases l with
  | nil => simp [val]
  | cons e l =>
    have := h e (by simp)
    rw [val]
    omega
theorem s3_val (l : List Nat) (h : ∀ e ∈ l, e ≤ 68 ∧ e % 16 ≤ 4) : s3 l.length (val l) = val (l.map t3) := by
  induction l with
  | nil => rfl
  | cons e l ih =>
    have he := h e (by simp)
    have h1 := ih (fun x hx => h x (by simp [hx]))
    have hm := val_mod l (fun x hx => (h x (by simp [hx])).2)
    unfold s3 at h1 ⊢
    rw [List.length_cons, List.map_cons, val, val, rep, show (e + 256 * val l) / 16 + (e + 256 * val l) = (e / 16 + e + 16 * (val l % 16)) + 256 * (val l / 16 + val l) from by omega,
      and_split _ _ _ _ (by omega) (by omega), ← h1, show (15 : Nat) = 2 ^ 4 - 1 from rfl, Nat.and_two_pow_sub_one_eq_mod]
    unfold t3
    omega

def onesn (n x : Nat) : Nat := (List.range n).countP (fun j => x.testBit j)
theorem onesn_byte (n e y : Nat) (he : e < 256) : onesn (8 + n) (e + 256 * y) = onesn 8 e + onesn n y := by
  unfold onesn
  rw [countP_add, Nat.add_comm e]
  congr 1
  · refine countP_cong 8 fun j hj => ?_
    rw [show 256 * y = 2 ^ 8 * y from rfl, Nat.testBit_two_pow_mul_add y (show e < 2 ^ 8 from he), if_pos hj]
  · refine countP_cong n fun j hj => ?_
    rw [show 256 * y = 2 ^ 8 * y from rfl, Nat.testBit_two_pow_mul_add y (show e < 2 ^ 8 from he), if_neg (by omega)]
    congr 1
    omega

def pop (x1 : Nat) : Nat :=
  let x2 := x1 + x1 / 256
  let x3 := x2 + x2 / 65536
  (x3 + x3 / 4294967296) % 128

theorem bytes_of (x : Nat) (h : x < 18446744073709551616) : ∃ a b c d e f g i : Nat, a < 256 ∧ b < 256 ∧ c < 256 ∧ d < 256 ∧ e < 256 ∧ f < 256 ∧ g < 256 ∧ i < 256 ∧ x = val [a, b, c, d, e, f, g, i] := by
  refine ⟨x % 256, x / 256 % 256, x / 65536 % 256, x / 16777216 % 256, x / 4294967296 % 256, x / 1099511627776 % 256, x / 281474976710656 % 256, x / 72057594037927936, by omega, by omega, by omega, by omega, by omega, by omega, by omega, by omega, ?_⟩
  simp only [val]
  omega

theorem val_le (m : Nat) (l : List Nat) (h : ∀ e ∈ l, e ≤ m) : val l ≤ rep m l.length := by
  induction l with
  | nil => exact Nat.le_refl _
  | cons e l ih =>
    have he := h e (by simp)
    have h1 := ih (fun x hx => h x (by simp [hx]))
    rw [List.length_cons, val, rep]
    omega
theorem reps : rep 255 8 = 18446744073709551615 ∧ rep 68 8 = 4919131752989213764 ∧ rep 8 8 = 578721382704613384 := by decide +kernel
theorem val_lt {a b c d e f g i : Nat} (ha : a < 256) (hb : b < 256) (hc : c < 256) (hd : d < 256) (he : e < 256) (hf : f < 256) (hg : g < 256) (hi : i < 256) : val [a, b, c, d, e, f, g, i] < 18446744073709551616 := by
  have h := val_le 255 [a, b, c, d, e, f, g, i] (by simp; omega)
  have e1 : rep 255 [a, b, c, d, e, f, g, i].length = 18446744073709551615 := reps.1
  rw [e1] at h
  generalize val [a, b, c, d, e, f, g, i] = x at *
  clear ha hb hc hd he hf hg hi e1
  omega
theorem val_few {a b c d e f g i : Nat} (ha : a ≤ 68) (hb : b ≤ 68) (hc : c ≤ 68) (hd : d ≤ 68) (he : e ≤ 68) (hf : f ≤ 68) (hg : g ≤ 68) (hi : i ≤ 68) : val [a, b, c, d, e, f, g, i] / 16 + val [a, b, c, d, e, f, g, i] < 18446744073709551616 := by
  have h := val_le 68 [a, b, c, d, e, f, g, i] (by simp; omega)
  have e1 : rep 68 [a, b, c, d, e, f, g, i].length = 4919131752989213764 := reps.2.1
  rw [e1] at h
  generalize val [a, b, c, d, e, f, g, i] = x at *
  clear ha hb hc hd he hf hg hi e1
  omega
theorem val_less {a b c d e f g i : Nat} (ha : a ≤ 8) (hb : b ≤ 8) (hc : c ≤ 8) (hd : d ≤ 8) (he : e ≤ 8) (hf : f ≤ 8) (hg : g ≤ 8) (hi : i ≤ 8) : val [a, b, c, d, e, f, g, i] ≤ 578721382704613384 := by
  have h := val_le 8 [a, b, c, d, e, f, g, i] (by simp; omega)
  have e1 : rep 8 [a, b, c, d, e, f, g, i].length = 578721382704613384 := reps.2.2
  rw [e1] at h
  exact h
theorem sum_le {a b c d e f g i : Nat} (ha : a ≤ 8) (hb : b ≤ 8) (hc : c ≤ 8) (hd : d ≤ 8) (he : e ≤ 8) (hf : f ≤ 8) (hg : g ≤ 8) (hi : i ≤ 8) : a + (b + (c + (d + (e + (f + (g + i)))))) ≤ 64 := by omega
theorem split_div (lo y k : Nat) (h : lo < k) : (lo + k * y) / k = y := by
  rw [Nat.add_mul_div_left _ _ (by omega), Nat.div_eq_of_lt h, Nat.zero_add]
theorem x2_is {a b c y1 y2 y3 : Nat} (h1 : y1 = b + 256 * y2) (h2 : y2 = c + 256 * y3) : a + 256 * y1 + y1 = (a + b + 256 * (b + c)) + 65536 * (y2 + y3) := by omega
theorem x3_is {a b c d e f g y2 y3 y4 y5 y6 y7 : Nat} (h2 : y2 = c + 256 * y3) (h3 : y3 = d + 256 * y4) (h4 : y4 = e + 256 * y5) (h5 : y5 = f + 256 * y6) (h6 : y6 = g + 256 * y7) :
    (a + b + 256 * (b + c)) + 65536 * (y2 + y3) + (y2 + y3) = (a + b + c + d + 256 * (b + c + d + e) + 65536 * (c + d + e + f) + 16777216 * (d + e + f + g)) + 4294967296 * (y4 + y5 + y6 + y7) := by omega
theorem x4_is {a b c d e f g i y4 y5 y6 y7 : Nat} (h4 : y4 = e + 256 * y5) (h5 : y5 = f + 256 * y6) (h6 : y6 = g + 256 * y7) (h7 : y7 = i) (hs : a + (b + (c + (d + (e + (f + (g + i)))))) ≤ 64) :
    ((a + b + c + d + 256 * (b + c + d + e) + 65536 * (c + d + e + f) + 16777216 * (d + e + f + g)) + 4294967296 * (y4 + y5 + y6 + y7) + (y4 + y5 + y6 + y7)) % 128 = a + (b + (c + (d + (e + (f + (g + i)))))) := by
  have e1 : ((a + b + c + d + 256 * (b + c + d + e) + 65536 * (c + d + e + f) + 16777216 * (d + e + f + g)) + 4294967296 * (y4 + y5 + y6 + y7) + (y4 + y5 + y6 + y7)) = a + (b + (c + (d + (e + (f + (g + i)))))) + 128 * (2 * (b + c + d + e) + 512 * (c + d + e + f) + 131072 * (d + e + f + g) + 33554432 * (y4 + y5 + y6 + y7) + 2 * (y5 + y6 + y7)) := by omega
  rw [e1, Nat.add_mul_mod_self_left]
  exact Nat.mod_eq_of_lt (by omega)
theorem pop_val {a b c d e f g i : Nat} (ha : a ≤ 8) (hb : b ≤ 8) (hc : c ≤ 8) (hd : d ≤ 8) (he : e ≤ 8) (hf : f ≤ 8) (hg : g ≤ 8) (hi : i ≤ 8) : pop (val [a, b, c, d, e, f, g, i]) = a + (b + (c + (d + (e + (f + (g + i)))))) := by
  have hs := sum_le ha hb hc hd he hf hg hi
  have hv : val [a, b, c, d, e, f, g, i] = a + 256 * (b + 256 * (c + 256 * (d + 256 * (e + 256 * (f + 256 * (g + 256 * i)))))) := by
    simp only [val, Nat.mul_zero, Nat.add_zero]
  have d2 : ∀ y2 y3, ((a + b + 256 * (b + c)) + 65536 * (y2 + y3)) / 65536 = y2 + y3 := fun y2 y3 => split_div _ _ _ (by omega)
  have d3 : ∀ y, ((a + b + c + d + 256 * (b + c + d + e) + 65536 * (c + d + e + f) + 16777216 * (d + e + f + g)) + 4294967296 * y) / 4294967296 = y := fun y => split_div _ _ _ (by omega)
  unfold pop
  rw [hv]
  simp only [split_div a _ 256 (show a < 256 by omega)]
  rw [x2_is (a := a) rfl rfl, d2, x3_is (a := a) (b := b) rfl rfl rfl rfl rfl, d3]
  exact x4_is rfl rfl rfl rfl hs

theorem masks : rep 85 8 = 6148914691236517205 ∧ rep 51 8 = 3689348814741910323 ∧ rep 15 8 = 1085102592571150095 := by decide +kernel

theorem ones_is (x : Nat) (h : x < 18446744073709551616) :
    s1 8 x < 18446744073709551616 ∧ s2 8 (s1 8 x) < 18446744073709551616 ∧ s2 8 (s1 8 x) / 16 + s2 8 (s1 8 x) < 18446744073709551616 ∧ s3 8 (s2 8 (s1 8 x)) ≤ 578721382704613384 ∧ pop (s3 8 (s2 8 (s1 8 x))) = ones x ∧ ones x ≤ 64 := by
  obtain ⟨a, b, c, d, e, f, g, i, ha, hb, hc, hd, he, hf, hg, hi, rfl⟩ := bytes_of x h
  have e1 := s1_val [a, b, c, d, e, f, g, i] (by simp; omega)
  have fa := few a ha; have fb := few b hb; have fc := few c hc; have fd := few d hd
  have fe := few e he; have ff := few f hf; have fg := few g hg; have fi := few i hi
  simp only [List.length_cons, List.length_nil, List.map_cons, List.map_nil, Nat.zero_add] at e1
  have e2 := s2_val [t1 a, t1 b, t1 c, t1 d, t1 e, t1 f, t1 g, t1 i] (by simp; omega)
  simp only [List.length_cons, List.length_nil, List.map_cons, List.map_nil, Nat.zero_add] at e2
  have e3 := s3_val [t2 (t1 a), t2 (t1 b), t2 (t1 c), t2 (t1 d), t2 (t1 e), t2 (t1 f), t2 (t1 g), t2 (t1 i)] (by simp; omega)
  simp only [List.length_cons, List.length_nil, List.map_cons, List.map_nil, Nat.zero_add] at e3
  have eo : ones (val [a, b, c, d, e, f, g, i]) = onesn 8 a + (onesn 8 b + (onesn 8 c + (onesn 8 d + (onesn 8 e + (onesn 8 f + (onesn 8 g + onesn 8 i)))))) := by
    show onesn (8 + (8 + (8 + (8 + (8 + (8 + (8 + (8 + 0)))))))) _ = _
    simp only [val]
    rw [onesn_byte _ _ _ ha, onesn_byte _ _ _ hb, onesn_byte _ _ _ hc, onesn_byte _ _ _ hd, onesn_byte _ _ _ he, onesn_byte _ _ _ hf, onesn_byte _ _ _ hg, onesn_byte _ _ _ hi]
    rfl
  rw [e1, e2, e3, eo]
  unfold onesn
  rw [← fa.2.2.2.2, ← fb.2.2.2.2, ← fc.2.2.2.2, ← fd.2.2.2.2, ← fe.2.2.2.2, ← ff.2.2.2.2, ← fg.2.2.2.2, ← fi.2.2.2.2]
  generalize t3 (t2 (t1 a)) = za at *
  generalize t3 (t2 (t1 b)) = zb at *
  generalize t3 (t2 (t1 c)) = zc at *
  generalize t3 (t2 (t1 d)) = zd at *
  generalize t3 (t2 (t1 e)) = ze at *
  generalize t3 (t2 (t1 f)) = zf at *
  generalize t3 (t2 (t1 g)) = zg at *
  generalize t3 (t2 (t1 i)) = zi at *
  generalize t2 (t1 a) = ya at *
  generalize t2 (t1 b) = yb at *
  generalize t2 (t1 c) = yc at *
  generalize t2 (t1 d) = yd at *
  generalize t2 (t1 e) = ye at *
  generalize t2 (t1 f) = yf at *
  generalize t2 (t1 g) = yg at *
  generalize t2 (t1 i) = yi at *
  replace fa : t1 a < 256 ∧ ya ≤ 68 ∧ ya % 16 ≤ 4 ∧ za ≤ 8 := ⟨fa.1, fa.2.1, fa.2.2.1, fa.2.2.2.1⟩
  replace fb : t1 b < 256 ∧ yb ≤ 68 ∧ yb % 16 ≤ 4 ∧ zb ≤ 8 := ⟨fb.1, fb.2.1, fb.2.2.1, fb.2.2.2.1⟩
  replace fc : t1 c < 256 ∧ yc ≤ 68 ∧ yc % 16 ≤ 4 ∧ zc ≤ 8 := ⟨fc.1, fc.2.1, fc.2.2.1, fc.2.2.2.1⟩
  replace fd : t1 d < 256 ∧ yd ≤ 68 ∧ yd % 16 ≤ 4 ∧ zd ≤ 8 := ⟨fd.1, fd.2.1, fd.2.2.1, fd.2.2.2.1⟩
  replace fe : t1 e < 256 ∧ ye ≤ 68 ∧ ye % 16 ≤ 4 ∧ ze ≤ 8 := ⟨fe.1, fe.2.1, fe.2.2.1, fe.2.2.2.1⟩
  replace ff : t1 f < 256 ∧ yf ≤ 68 ∧ yf % 16 ≤ 4 ∧ zf ≤ 8 := ⟨ff.1, ff.2.1, ff.2.2.1, ff.2.2.2.1⟩
  replace fg : t1 g < 256 ∧ yg ≤ 68 ∧ yg % 16 ≤ 4 ∧ zg ≤ 8 := ⟨fg.1, fg.2.1, fg.2.2.1, fg.2.2.2.1⟩
  replace fi : t1 i < 256 ∧ yi ≤ 68 ∧ yi % 16 ≤ 4 ∧ zi ≤ 8 := ⟨fi.1, fi.2.1, fi.2.2.1, fi.2.2.2.1⟩
  clear e1 e2 e3 eo
  refine ⟨val_lt fa.1 fb.1 fc.1 fd.1 fe.1 ff.1 fg.1 fi.1, val_lt (by omega) (by omega) (by omega) (by omega) (by omega) (by omega) (by omega) (by omega), val_few fa.2.1 fb.2.1 fc.2.1 fd.2.1 fe.2.1 ff.2.1 fg.2.1 fi.2.1, val_less fa.2.2.2 fb.2.2.2 fc.2.2.2 fd.2.2.2 fe.2.2.2 ff.2.2.2 fg.2.2.2 fi.2.2.2, pop_val fa.2.2.2 fb.2.2.2 fc.2.2.2 fd.2.2.2 fe.2.2.2 ff.2.2.2 fg.2.2.2 fi.2.2.2, sum_le fa.2.2.2 fb.2.2.2 fc.2.2.2 fd.2.2.2 fe.2.2.2 ff.2.2.2 fg.2.2.2 fi.2.2.2⟩
end Go.Proofs.YtfclidcfhadohaaDoor.st
