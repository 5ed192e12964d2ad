/-
  Plain mathematics: what is written is read again, as bytes and as lines, and the other way round.
-/
import Derived.Test.YtdekkjnlmlkbdaaDoorKa
namespace Go.Proofs.YtdekkjnlmlkbdaaDoor.is
open Go.Proofs.YtdekkjnlmlkbdaaDoor.num

theorem fld_set (i : In) (f g : Nat) (hf : f < 4) (hg : g < 4) (v : Int) : fld (setF i f v) g = if g = f then v else fld i g := by
  rcases (by omega : f = 0 ∨ f = 1 ∨ f = 2 ∨ f = 3) with rfl | rfl | rfl | rfl <;>
  rcases (by omega : g = 0 ∨ g = 1 ∨ g = 2 ∨ g = 3) with rfl | rfl | rfl | rfl <;> rfl
theorem set_op (i : In) (f : Nat) (v : Int) : (setF i f v).op = i.op := by unfold setF; split <;> (try split) <;> (try split) <;> rfl
theorem In.ext4 {x y : In} (h0 : x.op = y.op) (h : ∀ g, g < 4 → fld x g = fld y g) : x = y :=
  In.ext h0 (h 0 (by omega)) (h 1 (by omega)) (h 2 (by omega)) (h 3 (by omega))

/-! bytes: what is put is got -/
theorem gets_digs (L : List UInt8) (p n : Nat) (B : List UInt8) (hn : n < 18446744073709551616) (h : L.drop p = digs n ++ B) : gets L p = (n, p + (digs n).length, 0) ∧ L.drop (p + (digs n).length) = B := by
  refine ⟨gets_ok (k := (digs n).length) (by rw [h]; exact rd_digs n B hn), ?_⟩
  rw [← List.drop_drop, h, List.drop_left]

theorem rdF_put (L : List UInt8) (x : In) (hok : okI x = true) (B : List UInt8) : ∀ (j f : Nat), f + j = 4 → ∀ (i : In) (p : Nat), i.op = x.op → (∀ g, g < 4 → fld i g = if g < f then fld x g else 0) →
    L.drop p = (named x.op.toNat f).flatMap (fun g => digs (fld x g).toNat) ++ B → rdF L (fromF x.op.toNat f) i p = (x, p + ((named x.op.toNat f).flatMap (fun g => digs (fld x g).toNat)).length, 0)
  | 0, f, hf, i, p, h0, hi, hL => by
    obtain rfl : f = 4 := by omega
    rw [fromF_end, rdF, named_end]
    rw [In.ext4 h0 (fun g hg => by rw [hi g hg, if_pos hg])]
    rfl
  | j + 1, f, hf, i, p, h0, hi, hL => by
    have hf4 : f < 4 := by omega
    have hx := okI_fld hok f hf4
    have hxs := okI_small hok f hf4
    by_cases hk : kd x.op.toNat f = 0
    · rw [fromF_skip hf4 hk, named_skip hf4 hk] at *
      refine rdF_put L x hok B j (f + 1) (by omega) i p h0 (fun g hg => ?_) hL
      rw [hi g hg]
      by_cases h1 : g < f
      · rw [if_pos h1, if_pos (by omega)]
      · rw [if_neg h1]
        by_cases h2 : g = f
        · subst h2
          rw [if_pos (by omega)]
          rw [hk] at hx
          have : most 0 = 0 := rfl
          omega
        · rw [if_neg (by omega)]
    · rw [named_take hf4 hk, List.flatMap_cons, List.append_assoc] at hL
      obtain ⟨hg, hL2⟩ := gets_digs L p _ _ (by omega) hL
      rw [fromF_take hf4 hk, named_take hf4 hk, rdF_ok hg (by omega), List.flatMap_cons, List.length_append, ← Nat.add_assoc]
      refine rdF_put L x hok B j (f + 1) (by omega) _ _ (by rw [set_op, h0]) (fun g hg4 => ?_) hL2
      rw [fld_set i f g hf4 hg4]
      by_cases h2 : g = f
      · subst h2
        rw [if_pos rfl, if_pos (by omega)]
        omega
      · rw [if_neg h2, hi g hg4]
        by_cases h1 : g < f
        · rw [if_pos h1, if_pos (by omega)]
        · rw [if_neg h1, if_neg (by omega)]

theorem rdI_put (L : List UInt8) (x : In) (hok : okI x = true) (B : List UInt8) (p : Nat) (hL : L.drop p = putI x ++ B) : rdI L p = (x, p + (putI x).length, 0) ∧ L.drop (p + (putI x).length) = B := by
  have hop := okI_op hok
  refine ⟨?_, by rw [← List.drop_drop, hL, List.drop_left]⟩
  unfold putI at hL
  rw [List.append_assoc] at hL
  obtain ⟨hg, hL2⟩ := gets_digs L p _ _ (by omega) hL
  rw [rdI_ok hg (by omega)]
  have := rdF_put L x hok B 4 0 (by omega) ⟨x.op.toNat, 0, 0, 0, 0⟩ _ (by show (x.op.toNat : Int) = x.op; omega) (fun g hg => by rw [if_neg (by omega)]; rcases (by omega : g = 0 ∨ g = 1 ∨ g = 2 ∨ g = 3) with rfl | rfl | rfl | rfl <;> rfl) hL2
  rw [this]
  unfold putI
  rw [List.length_append, Nat.add_assoc]

theorem rdL_put (L : List UInt8) : ∀ (l : List In) (p : Nat) (acc : List In), (∀ x ∈ l, okI x = true) → p ≤ L.length → L.drop p = l.flatMap putI → rdL L l.length p acc = (acc ++ l, L.length, 0)
  | [], p, acc, _, hp, hL => by
    have h1 : (L.drop p).length = 0 := by rw [hL]; rfl
    rw [List.length_drop] at h1
    rw [List.length_nil, rdL, List.append_nil]
    congr 2
    omega
  | x :: l, p, acc, hok, hp, hL => by
    rw [List.flatMap_cons] at hL
    obtain ⟨h1, h2⟩ := rdI_put L x (hok x (by simp)) _ p hL
    have hlen := congrArg List.length hL
    rw [List.length_drop, List.length_append] at hlen
    rw [List.length_cons, rdL_ok h1, rdL_put L l _ _ (fun y hy => hok y (by simp [hy])) (by omega) h2]
    simp
theorem rdA_put (l : List In) (h : allE l = 0) : rdA (putL l) = (l, 0) := by
  obtain ⟨h1, h2⟩ := all_ok h
  obtain ⟨hg, hL⟩ := gets_digs (putL l) 0 l.length (l.flatMap putI) (by omega) rfl
  rw [Nat.zero_add] at hg hL
  have hle : (digs l.length).length ≤ (putL l).length := by unfold putL; rw [List.length_append]; omega
  have hr := rdL_put (putL l) l _ [] h2 hle hL
  rw [List.nil_append] at hr
  unfold rdA
  rw [hg, if_neg (by simp), if_neg (by show ¬ 4096 < l.length; omega)]
  show (if (rdL (putL l) l.length (digs l.length).length []).2.2 ≠ 0 then _ else _) = _
  rw [hr]
  simp

/-! bytes: what is got, put -/
theorem gets_got {L : List UInt8} {p n to : Nat} (h : gets L p = (n, to, 0)) : L.drop p = digs n ++ L.drop to := by
  unfold gets at h
  by_cases h0 : (rd (L.drop p)).2.2 = 0
  · rw [if_pos h0] at h
    simp only [Prod.mk.injEq] at h
    obtain ⟨rfl, rfl, _⟩ := h
    have e : rd (L.drop p) = ((rd (L.drop p)).1, (rd (L.drop p)).2.1, 0) := by rw [← h0]
    obtain ⟨h1, _⟩ := rd_ok e
    rw [h1, ← List.drop_drop, List.take_append_drop]
  · rw [if_neg h0] at h
    simp only [Prod.mk.injEq] at h
    exact absurd h.2.2 h0
theorem rdF_got (L : List UInt8) (o : Nat) : ∀ (j f : Nat), f + j = 4 → ∀ (i : In) (p : Nat) (x : In) (q : Nat), (∀ g, f ≤ g → g < 4 → fld i g = 0) → rdF L (fromF o f) i p = (x, q, 0) →
    x.op = i.op ∧ (∀ g, g < f → g < 4 → fld x g = fld i g) ∧ (∀ g, f ≤ g → g < 4 → 0 ≤ fld x g ∧ fld x g ≤ most (kd o g)) ∧ L.drop p = (named o f).flatMap (fun g => digs (fld x g).toNat) ++ L.drop q
  | 0, f, hf, i, p, x, q, hi, h => by
    obtain rfl : f = 4 := by omega
    rw [fromF_end, rdF] at h
    simp only [Prod.mk.injEq] at h
    obtain ⟨rfl, rfl, _⟩ := h
    exact ⟨rfl, fun g _ _ => rfl, fun g h1 h2 => by omega, by rw [named_end]; rfl⟩
  | j + 1, f, hf, i, p, x, q, hi, h => by
    have hf4 : f < 4 := by omega
    by_cases hk : kd o f = 0
    · rw [fromF_skip hf4 hk] at h
      obtain ⟨h1, h2, h3, h4⟩ := rdF_got L o j (f + 1) (by omega) i p x q (fun g hg hg4 => hi g (by omega) hg4) h
      refine ⟨h1, fun g hg hg4 => h2 g (by omega) hg4, fun g hg hg4 => ?_, by rw [named_skip hf4 hk]; exact h4⟩
      by_cases hgf : g = f
      · subst hgf
        rw [h2 g (by omega) hg4, hi g (by omega) hg4]
        exact ⟨by omega, by omega⟩
      · exact h3 g (by omega) hg4
    · obtain ⟨n, to, e, hg⟩ : ∃ n to e, gets L p = (n, to, e) := ⟨_, _, _, rfl⟩
      rw [fromF_take hf4 hk] at h
      by_cases he : e = 0
      · subst he
        by_cases hm : most (kd o f) < n
        · rw [rdF_far hg hm] at h; simp at h
        · rw [rdF_ok hg hm] at h
          obtain ⟨h1, h2, h3, h4⟩ := rdF_got L o j (f + 1) (by omega) (setF i f n) to x q (fun g hg hg4 => by rw [fld_set i f g hf4 hg4, if_neg (by omega)]; exact hi g (by omega) hg4) h
          have hxf : fld x f = n := by rw [h2 f (by omega) hf4, fld_set i f f hf4 hf4, if_pos rfl]
          refine ⟨by rw [h1, set_op], fun g hg hg4 => by rw [h2 g (by omega) hg4, fld_set i f g hf4 hg4, if_neg (by omega)], fun g hg hg4 => ?_, ?_⟩
          · by_cases hgf : g = f
            · subst hgf; rw [hxf]; exact ⟨by omega, by omega⟩
            · exact h3 g (by omega) hg4
          · rw [named_take hf4 hk, List.flatMap_cons, hxf, Int.toNat_natCast, List.append_assoc, ← h4]
            exact gets_got hg
      · rw [rdF_bad hg he] at h
        simp at h
        exact absurd h.2.2 he
theorem okI_mk {x : In} (h1 : 1 ≤ x.op) (h2 : x.op ≤ 17) (h : ∀ g, g < 4 → 0 ≤ fld x g ∧ fld x g ≤ most (kd x.op.toNat g)) : okI x = true :=
  okI_of (by simp [okOp]; omega) fun f hf => by have := h f hf; simp [okF]; omega
theorem rdI_got {L : List UInt8} {p : Nat} {x : In} {q : Nat} (h : rdI L p = (x, q, 0)) : okI x = true ∧ L.drop p = putI x ++ L.drop q := by
  obtain ⟨n, to, e, hg⟩ : ∃ n to e, gets L p = (n, to, e) := ⟨_, _, _, rfl⟩
  by_cases he : e = 0
  · subst he
    by_cases hn : n < 1 ∨ 17 < n
    · rw [rdI_far hg hn] at h; simp at h
    · rw [rdI_ok hg hn] at h
      obtain ⟨h1, _, h3, h4⟩ := rdF_got L n 4 0 (by omega) _ to x q (fun g _ hg4 => by rcases (by omega : g = 0 ∨ g = 1 ∨ g = 2 ∨ g = 3) with rfl | rfl | rfl | rfl <;> rfl) h
      simp only at h1
      have e1 : x.op.toNat = n := by rw [h1]; simp
      refine ⟨okI_mk (by rw [h1]; omega) (by rw [h1]; omega) (fun g hg4 => by rw [e1]; exact h3 g (by omega) hg4), ?_⟩
      unfold putI
      rw [e1, List.append_assoc, ← h4]
      exact gets_got hg
  · rw [rdI_bad hg he] at h
    simp at h
    exact absurd h.2.2 he
theorem rdL_got (L : List UInt8) : ∀ (n p : Nat) (acc l : List In) (q : Nat), rdL L n p acc = (l, q, 0) → ∃ l', l = acc ++ l' ∧ l'.length = n ∧ (∀ x ∈ l', okI x = true) ∧ L.drop p = l'.flatMap putI ++ L.drop q
  | 0, p, acc, l, q, h => by
    rw [rdL] at h
    simp only [Prod.mk.injEq] at h
    obtain ⟨rfl, rfl, _⟩ := h
    exact ⟨[], by simp, rfl, by simp, rfl⟩
  | n + 1, p, acc, l, q, h => by
    obtain ⟨x, to, e, hi⟩ : ∃ i to e, rdI L p = (i, to, e) := ⟨_, _, _, rfl⟩
    by_cases he : e = 0
    · subst he
      rw [rdL_ok hi] at h
      obtain ⟨l', h1, h2, h3, h4⟩ := rdL_got L n to (acc ++ [x]) l q h
      obtain ⟨h5, h6⟩ := rdI_got hi
      refine ⟨x :: l', by rw [h1]; simp, by simp [h2], fun y hy => ?_, by rw [List.flatMap_cons, List.append_assoc, ← h4, h6]⟩
      rcases List.mem_cons.1 hy with rfl | h
      · exact h5
      · exact h3 y h
    · rw [rdL_bad hi he] at h
      simp at h
      exact absurd h.2.2 he
theorem allE_mk {l : List In} (h1 : l.length ≤ 4096) (h2 : ∀ x ∈ l, okI x = true) : allE l = 0 := by
  unfold allE
  rw [if_neg (by omega), if_pos (List.all_eq_true.2 h2)]
theorem rdA_got {L : List UInt8} {l : List In} (h : rdA L = (l, 0)) : allE l = 0 ∧ putL l = L := by
  obtain ⟨n, to, e, hg⟩ : ∃ n to e, gets L 0 = (n, to, e) := ⟨_, _, _, rfl⟩
  unfold rdA at h
  rw [hg] at h
  by_cases he : e = 0
  · subst he
    rw [if_neg (by simp)] at h
    by_cases hn : 4096 < n
    · rw [if_pos hn] at h; simp at h
    · rw [if_neg hn] at h
      simp only at h
      obtain ⟨l2, q, e2, hr⟩ : ∃ a b c, rdL L n to [] = (a, b, c) := ⟨_, _, _, rfl⟩
      rw [hr] at h
      by_cases he2 : e2 = 0
      · subst he2
        rw [if_neg (by simp)] at h
        by_cases hq : q = L.length
        · rw [if_neg (by simpa using hq)] at h
          simp only [Prod.mk.injEq, and_true] at h
          subst h
          obtain ⟨l', h1, h2, h3, h4⟩ := rdL_got L n to [] l2 q hr
          rw [List.nil_append] at h1
          subst h1
          refine ⟨allE_mk (by omega) h3, ?_⟩
          unfold putL
          have h5 := gets_got hg
          rw [h4, List.drop_zero, List.drop_eq_nil_of_le (show L.length ≤ q by omega), List.append_nil] at h5
          rw [h2, ← h5]
        · rw [if_pos (by simpa using hq)] at h; simp at h
      · rw [if_pos he2] at h; simp at h; exact absurd h.2 he2
  · rw [if_pos he] at h; simp at h; exact absurd h.2 he
theorem rdA_err {L : List UInt8} {l : List In} {e : Nat} (h : rdA L = (l, e)) (he : e ≠ 0) : l = [] := by
  unfold rdA at h
  split at h
  · simp only [Prod.mk.injEq] at h; exact h.1.symm
  · split at h
    · simp only [Prod.mk.injEq] at h; exact h.1.symm
    · split at h
      · simp only [Prod.mk.injEq] at h; exact h.1.symm
      · split at h
        · simp only [Prod.mk.injEq] at h; exact h.1.symm
        · simp only [Prod.mk.injEq] at h; exact absurd h.2.symm he
end Go.Proofs.YtdekkjnlmlkbdaaDoor.is
