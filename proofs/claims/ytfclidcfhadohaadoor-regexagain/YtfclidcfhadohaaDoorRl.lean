/-
  Contracts over this program: parts of a class, a class, one byte of a set (regex.reader's part, class, single).
-/
import Derived.Test.YtfclidcfhadohaaDoorRk2
namespace Go.Proofs.YtfclidcfhadohaaDoor.st
open Go.Sort Go.ChangeShapes Go.WideShapes Go.ChangeAt Go.RowKit
set_option linter.unusedVariables false

/-- a kind that stands there, and is read; or none -/
theorem kind_any (u : ByteArray) (p : Nat) (hp : p ≤ u.size) (hu : u.size ≤ 9223372036854775807) :
    (∃ q p', p + 1 ≤ p' ∧ p' ≤ u.size ∧ kind (suf u p) = some (q, suf u p') ∧ Fits q ∧ KindIs u p q true p') ∨ (kind (suf u p) = none ∧ KindIs u p none4 false p) := by
  cases hs : sees [92] (suf u p) with
  | false =>
    refine .inr ⟨?_, kind_no u p hp hu hs⟩
    by_cases hin : p < u.size
    · rw [suf_in u p hin] at hs ⊢
      have hne : ¬ u[p].toNat = 92 := by simpa [sees] using hs
      cases suf u (p + 1) with
      | nil => rfl
      | cons c l => simp [kind, hne]
    · rw [suf_out u p (by omega)]; rfl
  | true =>
    have hin := sees_lt hs
    by_cases hend : p + 1 < u.size
    · have e92 : u[p].toNat = 92 := by rw [suf_in u p hin] at hs; simpa [sees] using hs
      have hk := kindOf_any u[p + 1].toNat
      have hkind : kind (suf u p) = (kindOf u[p + 1].toNat).map fun q => (q, suf u (p + 2)) := by
        rw [suf_in u p hin, suf_in u (p + 1) hend]
        simp [kind, e92]
      cases ho : kindOf u[p + 1].toNat with
      | none =>
        rw [ho] at hk
        exact .inr ⟨by rw [hkind, ho]; rfl, kind_none u p hu hs (p + 1) rfl hend none4 hk⟩
      | some q =>
        rw [ho] at hk
        refine .inl ⟨q, p + 2, by omega, by omega, by rw [hkind, ho]; rfl, ?_, kind_yes u p hu hs (p + 1) rfl hend q hk⟩
        revert ho
        unfold kindOf
        repeat' split
        all_goals (intro ho; first | (simp only [Option.some.injEq] at ho; rw [← ho]; first | exact fits_digit | exact fits_word | exact fits_blank | exact fits_nt _) | cases ho)
    · refine .inr ⟨?_, kind_end u p hp hu hs (by omega)⟩
      rw [suf_in u p hin, suf_out u (p + 1) (by omega)]; rfl

set_option maxHeartbeats 2000000 in
set_option maxRecDepth 100000 in
theorem part_any (u : ByteArray) (p : Nat) (hp : p ≤ u.size) (hu : u.size ≤ 9223372036854775807) :
    Spec (p + 1) (part (suf u p)) u (fun q p' => Fits q ∧ OkQ 96 u p q p') (fun e q => BadV 96 [] u p e q) := by
  unfold part
  rcases kind_any u p hp hu with ⟨q, p', h1, h2, h3, hf, h71⟩ | ⟨h3, h71⟩
  · rw [h3]
    refine .inl ⟨q, p', h1, h2, rfl, hf, ?_⟩
    clear h3
    intro g op w h
    have r0 := fun o => h.later (below_alloc w o)
    have z0 := sp.blk_new w none4
    go_enter Tryd.func96, Tryd.ntmps96
    go_wp2_with (go_at_call 92; refine (h71 _ _ _ (r0 _)).mono ?_; rintro e w1 ⟨rfl, r1, t1⟩; have z1 := (Blk.keep z0 t1 h.ne.symm).later (below_alloc w1 (.cells #[.int .u64 q.a, .int .u64 q.b, .int .u64 q.c, .int .u64 q.d] 25)); obtain ⟨c0, c1, c2, c3, f0, f1, f2, f3⟩ := sp8 z1)
    refine sp.ret25 Tryd.results96 w.heap.size q rfl (sp.set4 z1 q) rfl ?_
    exact ⟨rfl, (r1.later (below_alloc _ _)).other (touch_set4 _ _ q) h.ne, touch_over (touch_alloc (touch_trans (touch_alloc (touch_refl _ _) _) t1) _) (touch_set4 _ _ q) (Nat.le_refl _)⟩
  rw [h3]
  simp only
  clear h3
  have hpo := point_any ⟨#[92, 93, 45]⟩ u p hp hu
  rw [show codes ⟨#[92, 93, 45]⟩ = outside from rfl] at hpo
  rcases hpo with ⟨a, p1, k1, k2, k3, ha, h73⟩ | ⟨e, q, k2, k3, h73⟩
  case inr =>
    refine .inr ⟨e, q, k2, by rw [k3]; rfl, ?_⟩
    clear k3
    intro g op w h
    have r0 := fun o => h.later (below_alloc w o)
    go_enter Tryd.func96, Tryd.ntmps96
    go_wp2_with (first | (go_at_call 92; refine (h71 _ _ _ (r0 _)).mono ?_; rintro e w1 ⟨rfl, r1, t1⟩) | (go_at_call 94; refine (h73 _ _ _ (r1.later (below_alloc _ _))).mono ?_; rintro e w2 ⟨rfl, t2⟩))
    exact ⟨rfl, rfl, touch_trans (touch_alloc (touch_trans (touch_alloc (touch_refl _ _) _) t1) _) t2⟩
  rw [k3]
  simp only [R.then]
  clear k3
  cases hs : sees [45] (suf u p1) with
  | false =>
    simp only [Bool.false_eq_true, if_false]
    have h36 := skips_no ⟨#[45]⟩ u p1 k2 hu hs
    have h72 := lone_any a ha _ rfl
    refine .inl ⟨rng a a, p1, k1, k2, rfl, fits_rng _ _, ?_⟩
    clear hs
    generalize rng a a = q at *
    intro g op w h
    have r0 := fun o => h.later (below_alloc w o)
    have z0 := sp.blk_new w none4
    go_enter Tryd.func96, Tryd.ntmps96
    go_wp2_with (first | (go_at_call 92; refine (h71 _ _ _ (r0 _)).mono ?_; rintro e w1 ⟨rfl, r1, t1⟩) | (go_at_call 94; refine (h73 _ _ _ (r1.later (below_alloc _ _))).mono ?_; rintro e w2 ⟨rfl, r2, t2⟩) | (go_at_call 65; refine (h36 _ _ _ r2).mono ?_; rintro e w3 ⟨rfl, r3, t3⟩) | (go_at_call 93; refine (h72 _).mono ?_; rintro e w4 ⟨rfl, b4⟩; have z1 := (Blk.keep (Blk.keep ((Blk.keep z0 t1 h.ne.symm).later (below_alloc w1 _)) t2 h.ne.symm) t3 h.ne.symm).later b4; obtain ⟨c0, c1, c2, c3, f0, f1, f2, f3⟩ := sp8 z1))
    refine sp.ret25 Tryd.results96 w.heap.size q rfl (sp.set4 z1 q) rfl ?_
    exact ⟨rfl, (r3.later b4).other (touch_set4 _ _ q) h.ne, touch_over (touch_trans (touch_trans (touch_trans (touch_alloc (touch_trans (touch_alloc (touch_refl _ _) _) t1) _) t2) t3) (touch_below _ b4)) (touch_set4 _ _ q) (Nat.le_refl _)⟩
  | true =>
    have hin := sees_lt hs
    simp only [if_true]
    rw [suf_tail u p1 hin]
    have h36 := skips_yes ⟨#[45]⟩ u p1 hu hs
    clear hs
    have hpo := point_any ⟨#[92, 93, 45]⟩ u (p1 + 1) hin hu
    rw [show codes ⟨#[92, 93, 45]⟩ = outside from rfl] at hpo
    rcases hpo with ⟨b, p2, m1, m2, m3, hb, g73⟩ | ⟨e, q, m2, m3, g73⟩
    case inr =>
      refine .inr ⟨e, q, m2, by rw [m3], ?_⟩
      clear m3
      intro g op w h
      have r0 := fun o => h.later (below_alloc w o)
      go_enter Tryd.func96, Tryd.ntmps96
      go_wp2_with (first | (go_at_call 92; refine (h71 _ _ _ (r0 _)).mono ?_; rintro e w1 ⟨rfl, r1, t1⟩) | (go_at_call 94; refine (h73 _ _ _ (r1.later (below_alloc _ _))).mono ?_; rintro e w2 ⟨rfl, r2, t2⟩) | (go_at_call 65; refine (h36 _ _ _ r2).mono ?_; rintro e w3 ⟨rfl, r3, t3⟩; have c31 := r3.c1) | (go_at_call 94; refine (g73 _ _ _ r3).mono ?_; rintro e w4 ⟨rfl, t4⟩))
      exact ⟨rfl, rfl, touch_trans (touch_trans (touch_trans (touch_alloc (touch_trans (touch_alloc (touch_refl _ _) _) t1) _) t2) t3) t4⟩
    rw [m3]
    simp only
    clear m3
    by_cases hlt : b < a
    · rw [if_pos hlt]
      refine .inr ⟨60, p1 + 1, hin, rfl, ?_⟩
      have h29 := wrong_any (p1 + 1)
      intro g op w h
      have r0 := fun o => h.later (below_alloc w o)
      go_enter Tryd.func96, Tryd.ntmps96
      go_wp2_with (first | (go_at_call 92; refine (h71 _ _ _ (r0 _)).mono ?_; rintro e w1 ⟨rfl, r1, t1⟩) | (go_at_call 94; refine (h73 _ _ _ (r1.later (below_alloc _ _))).mono ?_; rintro e w2 ⟨rfl, r2, t2⟩) | (go_at_call 65; refine (h36 _ _ _ r2).mono ?_; rintro e w3 ⟨rfl, r3, t3⟩; have c31 := r3.c1) | (go_at_call 94; refine (g73 _ _ _ r3).mono ?_; rintro e w4 ⟨rfl, r4, t4⟩) | (go_at_call 49; refine (h29 _ _).mono ?_; rintro e w5 ⟨rfl, rfl⟩))
      exact ⟨rfl, rfl, touch_trans (touch_trans (touch_trans (touch_alloc (touch_trans (touch_alloc (touch_refl _ _) _) t1) _) t2) t3) t4⟩
    · rw [if_neg hlt]
      have h80 := sp.range_any a b ha hb _ rfl
      refine .inl ⟨rng a b, p2, by omega, m2, rfl, fits_rng _ _, ?_⟩
      generalize rng a b = q at *
      intro g op w h
      have r0 := fun o => h.later (below_alloc w o)
      have z0 := sp.blk_new w none4
      go_enter Tryd.func96, Tryd.ntmps96
      go_wp2_with (first | (go_at_call 92; refine (h71 _ _ _ (r0 _)).mono ?_; rintro e w1 ⟨rfl, r1, t1⟩) | (go_at_call 94; refine (h73 _ _ _ (r1.later (below_alloc _ _))).mono ?_; rintro e w2 ⟨rfl, r2, t2⟩) | (go_at_call 65; refine (h36 _ _ _ r2).mono ?_; rintro e w3 ⟨rfl, r3, t3⟩; have c31 := r3.c1) | (go_at_call 94; refine (g73 _ _ _ r3).mono ?_; rintro e w4 ⟨rfl, r4, t4⟩) | (go_at_call 99; refine (h80 _).mono ?_; rintro e w5 ⟨rfl, b5⟩; have z1 := (Blk.keep (Blk.keep (Blk.keep ((Blk.keep z0 t1 h.ne.symm).later (below_alloc w1 _)) t2 h.ne.symm) t3 h.ne.symm) t4 h.ne.symm).later b5; obtain ⟨c0, c1, c2, c3, f0, f1, f2, f3⟩ := sp8 z1))
      refine sp.ret25 Tryd.results96 w.heap.size q rfl (sp.set4 z1 q) rfl ?_
      exact ⟨rfl, (r4.later b5).other (touch_set4 _ _ q) h.ne, touch_over (touch_trans (touch_trans (touch_trans (touch_trans (touch_alloc (touch_trans (touch_alloc (touch_refl _ _) _) t1) _) t2) t3) t4) (touch_below _ b5)) (touch_set4 _ _ q) (Nat.le_refl _)⟩
end Go.Proofs.YtfclidcfhadohaaDoor.st
