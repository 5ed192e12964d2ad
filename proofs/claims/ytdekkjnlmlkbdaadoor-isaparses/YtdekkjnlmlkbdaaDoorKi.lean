/-
  Plain mathematics: lines that are written are read again, and the other way round.
-/
import Derived.Test.YtdekkjnlmlkbdaaDoorKh
namespace Go.Proofs.YtdekkjnlmlkbdaaDoor.is
open Go.Proofs.YtdekkjnlmlkbdaaDoor.num

/-! a line -/
def body (x : In) (g : Nat) : List UInt8 := sgn (kd x.op.toNat g) ++ Lib.decDigits (fld x g).toNat
theorem sgn_in (k : Nat) : ∀ b ∈ sgn k, b ≠ 32 ∧ b ≠ 10 := by
  by_cases h : k < 6
  · have : ∀ x : Fin 6, ∀ b ∈ sgn x, b ≠ 32 ∧ b ≠ 10 := by decide
    exact this ⟨k, h⟩
  · unfold sgn
    rw [List.getD_eq_getElem?_getD, List.getElem?_eq_none (by simp [sgns]; omega)]
    simp
theorem wrd_in (k : Nat) : ∀ b ∈ wrd k, b ≠ 32 ∧ b ≠ 10 := by
  by_cases h : k < 18
  · have : ∀ x : Fin 18, ∀ b ∈ wrd x, b ≠ 32 ∧ b ≠ 10 := by decide
    exact this ⟨k, h⟩
  · unfold wrd
    rw [List.getD_eq_getElem?_getD, List.getElem?_eq_none (by simp [wrds]; omega)]
    simp
theorem dig_in {b : UInt8} (h : digB b = true) : b ≠ 32 ∧ b ≠ 10 := by
  unfold digB at h
  simp only [Bool.and_eq_true, decide_eq_true_eq] at h
  constructor <;> intro e <;> rw [e] at h <;> simp at h
theorem body_in (x : In) (g : Nat) : ∀ b ∈ body x g, b ≠ 32 ∧ b ≠ 10 := by
  intro b hb
  unfold body at hb
  rcases List.mem_append.1 hb with h | h
  · exact sgn_in _ b h
  · exact dig_in (dec_dig _ b h)
theorem cutG_fields (x : In) (ns : List Nat) : ∀ acc, cutG acc (ns.flatMap (fieldT x)) = acc :: ns.map (body x) := by
  induction ns with
  | nil => intro acc; rfl
  | cons g ns ih =>
    intro acc
    rw [List.flatMap_cons, List.map_cons]
    show cutG acc (32 :: (body x g ++ ns.flatMap (fieldT x))) = _
    rw [cutG, if_pos rfl, cutG_more _ (fun b hb => (body_in x g b hb).1), List.nil_append, ih]
theorem fieldV_body (k m v : Nat) (hm : most k = m) (h : v ≤ m) : fieldV k (sgn k ++ Lib.decDigits v) = some v := by
  unfold fieldV
  rw [List.take_left, if_pos rfl, List.drop_left, hm, numV_dec m v h]
theorem readF_put (x : In) (hok : okI x = true) : ∀ (j f : Nat), f + j = 4 → ∀ (i : In), i.op = x.op → (∀ g, g < 4 → fld i g = if g < f then fld x g else 0) →
    readF (namedK x.op.toNat f) ((named x.op.toNat f).map (body x)) i = some x
  | 0, f, hf, i, h0, hi => by
    obtain rfl : f = 4 := by omega
    rw [namedK_end, named_end]
    show some i = some x
    rw [In.ext4 h0 (fun g hg => by rw [hi g hg, if_pos hg])]
  | j + 1, f, hf, i, h0, hi => by
    have hf4 : f < 4 := by omega
    have hx := okI_fld hok f hf4
    by_cases hk : kd x.op.toNat f = 0
    · rw [namedK_skip hf4 hk, named_skip hf4 hk]
      refine readF_put x hok j (f + 1) (by omega) i h0 (fun g hg => ?_)
      rw [hi g hg]
      by_cases h1 : g < f
      · rw [if_pos h1, if_pos (by omega)]
      · rw [if_neg h1]
        by_cases h2 : g = f
        · subst h2
          rw [if_pos (by omega)]
          rw [hk] at hx
          have : most 0 = 0 := rfl
          omega
        · rw [if_neg (by omega)]
    · rw [namedK_take hf4 hk, named_take hf4 hk, List.map_cons]
      have hv : fieldV (kd x.op.toNat f) (body x f) = some (fld x f).toNat := fieldV_body (kd x.op.toNat f) (most (kd x.op.toNat f)) _ rfl (by omega)
      rw [readF_ok hv]
      refine readF_put x hok j (f + 1) (by omega) _ (by rw [set_op, h0]) (fun g hg4 => ?_)
      rw [fld_set i f g hf4 hg4]
      by_cases h2 : g = f
      · subst h2
        rw [if_pos rfl, if_pos (by omega)]
        omega
      · rw [if_neg h2, hi g hg4]
        by_cases h1 : g < f
        · rw [if_pos h1, if_pos (by omega)]
        · rw [if_neg h1, if_neg (by omega)]
theorem readL_put (x : In) (hok : okI x = true) : readL (lineI x) = some x := by
  have hop := okI_op hok
  have hcut : cutG [] (lineI x) = wrd x.op.toNat :: (named x.op.toNat 0).map (body x) := by
    unfold lineI
    rw [cutG_more _ (fun b hb => (wrd_in _ b hb).1), List.nil_append, cutG_fields]
  have ho := opW_at x.op.toNat (by omega) (by omega)
  rw [readL_at hcut (by rw [ho]; omega), ho]
  exact readF_put x hok 4 0 (by omega) _ (by show (x.op.toNat : Int) = x.op; omega) (fun g hg => by rw [if_neg (by omega)]; rcases (by omega : g = 0 ∨ g = 1 ∨ g = 2 ∨ g = 3) with rfl | rfl | rfl | rfl <;> rfl)
theorem line_in (x : In) : ∀ b ∈ lineI x, b ≠ 10 := by
  intro b hb
  unfold lineI at hb
  rcases List.mem_append.1 hb with h | h
  · exact (wrd_in _ b h).2
  · obtain ⟨g, _, h2⟩ := List.mem_flatMap.1 h
    rcases List.mem_cons.1 h2 with rfl | h3
    · decide
    · exact (body_in x g b h3).2
theorem parG_put : ∀ (l done : List In), (∀ x ∈ l, okI x = true) → done.length + l.length ≤ 4096 → parG [] (textL l) done = (done ++ l, 0, 0)
  | [], done, _, _ => by
    show parG [] [] done = _
    rw [parG, if_pos rfl, List.append_nil]
  | x :: l, done, hok, hl => by
    have e : textL (x :: l) = lineI x ++ (10 :: textL l) := by unfold textL; rw [List.flatMap_cons]; simp
    rw [List.length_cons] at hl
    rw [e, parG_more _ (line_in x), List.nil_append, parG_ok (readL_put x (hok x (by simp))) (by omega), parG_put l (done ++ [x]) (fun y hy => hok y (by simp [hy])) (by rw [List.length_append, List.length_singleton]; omega)]
    simp

/-! the other way round -/
theorem cutG_join : ∀ (l acc w : List UInt8) (ps : List (List UInt8)), cutG acc l = w :: ps → acc ++ l = w ++ ps.flatMap (fun p => 32 :: p)
  | [], acc, w, ps, h => by
    rw [cutG] at h
    simp only [List.cons.injEq] at h
    obtain ⟨rfl, rfl⟩ := h
    simp
  | b :: l, acc, w, ps, h => by
    rw [cutG] at h
    by_cases hb : b = 32
    · rw [if_pos hb] at h
      simp only [List.cons.injEq] at h
      obtain ⟨rfl, h⟩ := h
      cases ps with
      | nil => exact absurd h (cutG_ne _ _)
      | cons p ps =>
        have := cutG_join l [] p ps h
        rw [List.nil_append] at this
        rw [this, hb, List.flatMap_cons]
        simp
    · rw [if_neg hb] at h
      have := cutG_join l (acc ++ [b]) w ps h
      rw [← this]
      simp
theorem numG_le {m : Nat} : ∀ {s : List UInt8} {a v : Nat}, a ≤ m → numG m a s = some v → v ≤ m
  | [], a, v, ha, h => by rw [numG] at h; cases h; exact ha
  | b :: s, a, v, ha, h => by
    rw [numG] at h
    by_cases hd : digB b = true
    · rw [if_pos hd] at h
      by_cases hm : m < 10 * a + (b.toNat - 48)
      · rw [if_pos hm] at h; cases h
      · rw [if_neg hm] at h; exact numG_le (by omega) h
    · rw [if_neg hd] at h; cases h
/-- digits behind a number that is not 0 -/
theorem dec_more {m : Nat} : ∀ {s : List UInt8} {a v : Nat}, 1 ≤ a → numG m a s = some v → Lib.decDigits v = Lib.decDigits a ++ s
  | [], a, v, ha, h => by rw [numG] at h; cases h; simp
  | b :: s, a, v, ha, h => by
    rw [numG] at h
    by_cases hd : digB b = true
    · rw [if_pos hd] at h
      by_cases hm : m < 10 * a + (b.toNat - 48)
      · rw [if_pos hm] at h; cases h
      · rw [if_neg hm] at h
        rw [dec_more (by omega) h]
        unfold digB at hd
        simp only [Bool.and_eq_true, decide_eq_true_eq] at hd
        have e : Lib.decDigits (10 * a + (b.toNat - 48)) = Lib.decDigits a ++ [b] := by
          rw [Lib.decDigits, dif_neg (by omega), show (10 * a + (b.toNat - 48)) / 10 = a from by omega, show (10 * a + (b.toNat - 48)) % 10 = b.toNat - 48 from by omega, show 48 + (b.toNat - 48) = b.toNat from by omega, UInt8.ofNat_toNat]
        rw [e]
        simp
    · rw [if_neg hd] at h; cases h
theorem numV_got {m v : Nat} {s : List UInt8} (h : numV m s = some v) : Lib.decDigits v = s ∧ v ≤ m := by
  unfold numV at h
  by_cases hl : lead s = true
  · rw [if_pos hl] at h; cases h
  · rw [if_neg hl] at h
    refine ⟨?_, numG_le (by omega) h⟩
    have hl2 : lead s = false := by simpa using hl
    unfold lead at hl2
    cases s with
    | nil => simp at hl2
    | cons b s =>
      rw [numG] at h
      by_cases hd : digB b = true
      · rw [if_pos hd] at h
        by_cases hm : m < 10 * 0 + (b.toNat - 48)
        · rw [if_pos hm] at h; cases h
        · rw [if_neg hm] at h
          unfold digB at hd
          simp only [Bool.and_eq_true, decide_eq_true_eq] at hd
          have e1 : Lib.decDigits (10 * 0 + (b.toNat - 48)) = [b] := by
            rw [Lib.decDigits_one (by omega), show 48 + (10 * 0 + (b.toNat - 48)) = b.toNat from by omega, UInt8.ofNat_toNat]
          by_cases h48 : b.toNat = 48
          · have hb : b = 48 := UInt8.toNat_inj.1 h48
            have hs : s = [] := by
              rw [hb] at hl2
              simp at hl2
              cases s with
              | nil => rfl
              | cons c s => simp at hl2
            subst hs
            rw [numG] at h
            cases h
            exact e1
          · rw [dec_more (by omega) h, e1]
            rfl
      · rw [if_neg hd] at h; cases h
theorem fieldV_got {k v : Nat} {p : List UInt8} (h : fieldV k p = some v) : p = sgn k ++ Lib.decDigits v ∧ v ≤ most k := by
  unfold fieldV at h
  by_cases ht : p.take (sgn k).length = sgn k
  · rw [if_pos ht] at h
    obtain ⟨h1, h2⟩ := numV_got h
    exact ⟨by rw [h1]; have e := List.take_append_drop (sgn k).length p; rw [ht] at e; exact e.symm, h2⟩
  · rw [if_neg ht] at h; cases h
theorem readF_got (o : Nat) : ∀ (j f : Nat), f + j = 4 → ∀ (i : In) (ps : List (List UInt8)) (x : In), (∀ g, f ≤ g → g < 4 → fld i g = 0) → readF (namedK o f) ps i = some x →
    x.op = i.op ∧ (∀ g, g < f → g < 4 → fld x g = fld i g) ∧ (∀ g, f ≤ g → g < 4 → 0 ≤ fld x g ∧ fld x g ≤ most (kd o g)) ∧ ps = (named o f).map (fun g => sgn (kd o g) ++ Lib.decDigits (fld x g).toNat)
  | 0, f, hf, i, ps, x, hi, h => by
    obtain rfl : f = 4 := by omega
    rw [namedK_end, readF_nil] at h
    split at h
    · rename_i h0
      cases h
      exact ⟨rfl, fun g _ _ => rfl, fun g h1 h2 => by omega, by rw [named_end, List.length_eq_zero_iff.1 h0]; rfl⟩
    · cases h
  | j + 1, f, hf, i, ps, x, hi, h => by
    have hf4 : f < 4 := by omega
    by_cases hk : kd o f = 0
    · rw [namedK_skip hf4 hk] at h
      obtain ⟨h1, h2, h3, h4⟩ := readF_got o j (f + 1) (by omega) i ps x (fun g hg hg4 => hi g (by omega) hg4) h
      refine ⟨h1, fun g hg hg4 => h2 g (by omega) hg4, fun g hg hg4 => ?_, by rw [named_skip hf4 hk]; exact h4⟩
      by_cases hgf : g = f
      · subst hgf
        rw [h2 g (by omega) hg4, hi g (by omega) hg4]
        exact ⟨by omega, by omega⟩
      · exact h3 g (by omega) hg4
    · rw [namedK_take hf4 hk] at h
      cases ps with
      | nil => rw [readF_short] at h; cases h
      | cons p ps =>
        cases hv : fieldV (kd o f) p with
        | none => rw [readF_bad hv] at h; cases h
        | some n =>
          rw [readF_ok hv] at h
          obtain ⟨hp, hm⟩ := fieldV_got hv
          obtain ⟨h1, h2, h3, h4⟩ := readF_got o j (f + 1) (by omega) (setF i f n) ps x (fun g hg hg4 => by rw [fld_set i f g hf4 hg4, if_neg (by omega)]; exact hi g (by omega) hg4) h
          have hxf : fld x f = n := by rw [h2 f (by omega) hf4, fld_set i f f hf4 hf4, if_pos rfl]
          refine ⟨by rw [h1, set_op], fun g hg hg4 => by rw [h2 g (by omega) hg4, fld_set i f g hf4 hg4, if_neg (by omega)], fun g hg hg4 => ?_, ?_⟩
          · by_cases hgf : g = f
            · subst hgf; rw [hxf]; exact ⟨by omega, by omega⟩
            · exact h3 g (by omega) hg4
          · rw [named_take hf4 hk, List.map_cons, ← h4, hxf, Int.toNat_natCast, ← hp]
theorem readL_got {line : List UInt8} {x : In} (h : readL line = some x) : okI x = true ∧ lineI x = line := by
  cases hc : cutG [] line with
  | nil => exact absurd hc (cutG_ne _ _)
  | cons w ps =>
    by_cases ho : opW w = 0
    · rw [readL_no hc ho] at h; cases h
    · rw [readL_at hc ho] at h
      obtain ⟨h17, hw⟩ := opW_le w
      obtain ⟨h1, _, h3, h4⟩ := readF_got (opW w) 4 0 (by omega) _ ps x (fun g _ hg4 => by rcases (by omega : g = 0 ∨ g = 1 ∨ g = 2 ∨ g = 3) with rfl | rfl | rfl | rfl <;> rfl) h
      simp only at h1
      have e1 : x.op.toNat = opW w := by rw [h1]; simp
      refine ⟨okI_mk (by rw [h1]; omega) (by rw [h1]; omega) (fun g hg4 => by rw [e1]; exact h3 g (by omega) hg4), ?_⟩
      have hj := cutG_join line [] w ps hc
      rw [List.nil_append] at hj
      rw [hj, h4, List.flatMap_map]
      unfold lineI fieldT
      rw [e1, hw (by omega)]
theorem parG_got : ∀ (s acc : List UInt8) (done l : List In), done.length ≤ 4096 → parG acc s done = (l, 0, 0) → ∃ l', l = done ++ l' ∧ l.length ≤ 4096 ∧ (∀ x ∈ l', okI x = true) ∧ acc ++ s = textL l'
  | [], acc, done, l, hd, h => by
    rw [parG] at h
    split at h
    · rename_i ha
      simp only [Prod.mk.injEq, and_true] at h
      exact ⟨[], by rw [h]; simp, by rw [← h]; exact hd, by simp, by rw [ha]; rfl⟩
    · simp at h
  | b :: s, acc, done, l, hd, h => by
    by_cases hb : b = 10
    · subst hb
      cases hr : readL acc with
      | none => rw [parG_bad hr] at h; simp at h
      | some i =>
        by_cases h4 : done.length = 4096
        · rw [parG_many hr h4] at h; simp at h
        · rw [parG_ok hr h4] at h
          obtain ⟨l', h1, h2, h3, h5⟩ := parG_got s [] (done ++ [i]) l (by rw [List.length_append, List.length_singleton]; omega) h
          obtain ⟨h6, h7⟩ := readL_got hr
          rw [List.nil_append] at h5
          refine ⟨i :: l', by rw [h1]; simp, h2, fun y hy => ?_, ?_⟩
          · rcases List.mem_cons.1 hy with rfl | h
            · exact h6
            · exact h3 y h
          · unfold textL at *
            rw [List.flatMap_cons, h7, ← h5]
            simp
    · rw [parG, if_neg hb] at h
      obtain ⟨l', h1, h2, h3, h5⟩ := parG_got s (acc ++ [b]) done l hd h
      exact ⟨l', h1, h2, h3, by rw [← h5]; simp⟩
theorem parG_err : ∀ (s acc : List UInt8) (done l : List In) (e n : Nat), parG acc s done = (l, e, n) → (e = 0 ∧ n = 0) ∨ (e ≠ 0 ∧ l = [] ∧ 1 ≤ n)
  | [], acc, done, l, e, n, h => by
    rw [parG] at h
    split at h
    · simp only [Prod.mk.injEq] at h; omega
    · simp only [Prod.mk.injEq] at h; exact .inr ⟨by omega, h.1.symm, by omega⟩
  | b :: s, acc, done, l, e, n, h => by
    by_cases hb : b = 10
    · subst hb
      cases hr : readL acc with
      | none => rw [parG_bad hr] at h; simp only [Prod.mk.injEq] at h; exact .inr ⟨by omega, h.1.symm, by omega⟩
      | some i =>
        by_cases h4 : done.length = 4096
        · rw [parG_many hr h4] at h; simp only [Prod.mk.injEq] at h; exact .inr ⟨by omega, h.1.symm, by omega⟩
        · rw [parG_ok hr h4] at h; exact parG_err s _ _ l e n h
    · rw [parG, if_neg hb] at h; exact parG_err s _ _ l e n h
theorem parA_err {s : List UInt8} {l : List In} {e n : Nat} (h : parA s = (l, e, n)) (hs : s.length ≤ 262144) : (e = 0 ∧ n = 0) ∨ (e ≠ 0 ∧ l = [] ∧ 1 ≤ n) := by
  unfold parA at h
  rw [if_neg (by omega)] at h
  exact parG_err _ _ _ _ _ _ h
theorem parA_got {s : List UInt8} {l : List In} (h : parA s = (l, 0, 0)) : allE l = 0 ∧ textL l = s := by
  unfold parA at h
  split at h
  · simp at h
  · obtain ⟨l', h1, h2, h3, h4⟩ := parG_got s [] [] l (by simp) h
    rw [List.nil_append] at h1 h4
    subst h1
    exact ⟨allE_mk h2 h3, h4.symm⟩
theorem parA_put (l : List In) (h : allE l = 0) (hl : (textL l).length ≤ 262144) : parA (textL l) = (l, 0, 0) := by
  obtain ⟨h1, h2⟩ := all_ok h
  unfold parA
  rw [if_neg (by omega), parG_put l [] h2 (by simpa using h1)]
  simp
theorem text_le {l : List In} (h : allE l = 0) : (textL l).length ≤ l.length * 53 := by
  obtain ⟨h1, h2⟩ := all_ok h
  unfold textL
  exact flat_le l (fun i => lineI i ++ [10]) 53 fun i hi => by have := lineI_le (h2 i hi); simp; omega
end Go.Proofs.YtdekkjnlmlkbdaaDoor.is
