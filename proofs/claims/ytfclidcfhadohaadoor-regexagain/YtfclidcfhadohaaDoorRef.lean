/-
  Contracts over this program: ranges (set.Range, the document's), the document's Not, Join and Meet.
-/
import Derived.Test.YtfclidcfhadohaaDoorBytes
namespace Go.Proofs.YtfclidcfhadohaaDoor.sp
open Go.Proofs.YtfclidcfhadohaaDoor.st
open Go.ChangeShapes Go.WideShapes Go.ChangeAt Go.RowKit
set_option linter.unusedVariables false

/-- a set that is being made, up to a byte -/
structure Upto (q : Q4) (p : Nat → Bool) (lo i : Nat) : Prop where
  fits : Fits q
  here : ∀ n, n < 256 → has q n = (decide (lo ≤ n) && decide (n < i) && p n)
theorem Upto.start (p : Nat → Bool) (lo : Nat) : Upto none4 p lo lo := ⟨fits_none, fun n _ => by
  rw [has_none]
  by_cases h : lo ≤ n
  · have : decide (n < lo) = false := by simp; omega
    simp [this]
  · simp [h]⟩
theorem Upto.out {q : Q4} {p : Nat → Bool} {lo i : Nat} (h : Upto q p lo i) (hi : p i = false) : Upto q p lo (i + 1) := ⟨h.fits, fun n hn => by
  rw [h.here n hn]
  by_cases e : n = i
  · subst e; simp [hi]
  · have : decide (n < i + 1) = decide (n < i) := by rw [decide_eq_decide]; omega
    rw [this]⟩
theorem Upto.put {q : Q4} {p : Nat → Bool} {lo i : Nat} (h : Upto q p lo i) (hi : p i = true) (hlo : lo ≤ i) : Upto (wth q i) p lo (i + 1) := ⟨fits_wth h.fits i, fun n hn => by
  rw [has_wth q i n hn, h.here n hn]
  by_cases e : n = i
  · subst e; simp [hi, hlo]
  · have : decide (n < i + 1) = decide (n < i) := by rw [decide_eq_decide]; omega
    rw [this]; simp [e]⟩
theorem Upto.done {q : Q4} {p : Nat → Bool} {lo i : Nat} (h : Upto q p lo i) (r : Q4) (hr : r = suchThat (fun n => decide (lo ≤ n) && decide (n < i) && p n)) : r = q := by
  rw [hr]
  exact ext (fits_such _) h.fits fun n hn => by rw [has_such _ n hn, h.here n hn]

def RangeIs (lo hi : Nat) (r : Q4) : Prop := ∀ w, Calls Tryd.prog 99 #[.int .u8 lo, .int .u8 hi] w fun e w' => e = .returned (.agg #[.int .u64 r.a, .int .u64 r.b, .int .u64 r.c, .int .u64 r.d]) ∧ Below w.heap.size w w'



set_option maxHeartbeats 1000000 in
set_option maxRecDepth 100000 in
theorem range_any (lo hi : Nat) (hlo : lo < 256) (hhi : hi < 256) (r : Q4) (hr : r = rng lo hi) : RangeIs lo hi r := by
  intro w
  have HR : Hid (r = rng lo hi) := hr
  clear hr
  go_enter Tryd.func99, Tryd.ntmps99
  go_wp2
  go_loopw [6] (fun x wr => ∃ (i : Nat) (q : Q4), x = .int .i64 i ∧ lo ≤ i ∧ (i ≤ hi + 1 ∨ i = lo) ∧ Blk wr (w.heap.size + 1) q ∧ Blk wr w.heap.size none4 ∧ Below w.heap.size w wr ∧ Hid (Upto q (fun _ => true) lo i)) (fun x _ => 257 - (intOf x).toNat)
  case atStart => exact ⟨lo, none4, rfl, by omega, by omega, heap_alloc2_new w _ _, heap_alloc2_old w _ _, ((Below.refl _ _).alloc (Nat.le_refl _) _).alloc (by simp) _, Upto.start _ _⟩
  case round =>
    obtain ⟨i, q, rfl, hli, hih, b1, b0, hB, HU⟩ := hrel
    by_cases hin : i ≤ hi
    · have hp := put_any q HU.out.fits i (by omega) _ rfl
      have HN : Hid (Upto (wth q i) (fun _ => true) lo (i + 1)) := HU.out.put rfl hli
      generalize wth q i = q2 at *
      clear HU hih
      go_wp2_with (go_at_call 68; refine (hp _ _ b1).mono ?_; rintro e w1 ⟨rfl, b2, t2⟩)
      go_roundw
      case rel => exact ⟨i + 1, q2, by go_num, by omega, .inl (by omega), b2, b0.other t2 (by omega), hB.grown t2 hB.size (by intro k hk; simp at hk; omega), HN⟩
      case measure => simp [intOf]; omega
    · have HE : Hid (r = q) := HU.out.done r (by
        rw [HR.out]
        unfold rng
        congr 1
        funext n
        by_cases h1 : lo ≤ n
        · have : decide (n ≤ hi) = decide (n < i) := by rw [decide_eq_decide]; omega
          simp [this, h1]
        · simp [h1])
      have c0 := b1.c0
      have c1 := b1.c1
      have c2 := b1.c2
      have c3 := b1.c3
      have d0 := b0.c0
      have d1 := b0.c1
      have d2 := b0.c2
      have d3 := b0.c3
      have f0 := b0.fz 0
      have f1 := b0.fz 1
      have f2 := b0.fz 2
      have f3 := b0.fz 3
      clear HU HR hih
      go_wp2
      refine ret25 Tryd.results99 w.heap.size q rfl (set4 b0 q) rfl ?_
      exact ⟨by rw [HE.out], Below.set4 hB (Nat.le_refl _) q⟩

def RNotIs (q s : Q4) : Prop := ∀ w, Calls Tryd.prog 44 #[.agg #[.int .u64 q.a, .int .u64 q.b, .int .u64 q.c, .int .u64 q.d]] w fun e w' => e = .returned (.agg #[.int .u64 s.a, .int .u64 s.b, .int .u64 s.c, .int .u64 s.d]) ∧ Below w.heap.size w w'

theorem heap3_mid (w : World) (A B C : Obj) : (((w.alloc A).alloc B).alloc C).heap[w.heap.size + 1]? = some B := by
  rw [Lib.alloc_old _ _ _ (by simp)]
  exact heap_alloc2_new w A B
theorem heap3_old (w : World) (A B C : Obj) : (((w.alloc A).alloc B).alloc C).heap[w.heap.size]? = some A := by
  rw [Lib.alloc_old _ _ _ (by simp; omega)]
  exact heap_alloc2_old w A B

set_option maxHeartbeats 1000000 in
set_option maxRecDepth 100000 in
theorem rnot_any (a r : Q4) (ha : Fits a) (hr : r = nt a) : RNotIs a r := by
  intro w
  have HR : Hid (r = nt a) := hr
  clear hr
  go_enter Tryd.func44, Tryd.ntmps44
  go_wp2
  go_loopw [4] (fun x wr => ∃ (i : Nat) (q : Q4), x = .int .i64 i ∧ i ≤ 256 ∧ Blk wr (w.heap.size + 1 + 1) q ∧ Blk wr (w.heap.size + 1) none4 ∧ Blk wr w.heap.size a ∧ Below w.heap.size w wr ∧ Hid (Upto q (fun n => !has a n) 0 i)) (fun x _ => 256 - (intOf x).toNat)
  case atStart => exact ⟨0, none4, rfl, by omega, heap3 w _ _ _, heap3_mid w _ _ _, heap3_old w _ _ _, (((Below.refl _ _).alloc (Nat.le_refl _) _).alloc (by simp) _).alloc (by simp; omega) _, Upto.start _ _⟩
  case round =>
    obtain ⟨i, q, rfl, hi', b1, b0, ba, hB, HU⟩ := hrel
    have c0 := b1.c0
    have c1 := b1.c1
    have c2 := b1.c2
    have c3 := b1.c3
    by_cases hin : i < 256
    · have x0 := ba.c0
      have x1 := ba.c1
      have x2 := ba.c2
      have x3 := ba.c3
      by_cases hh : has a i = true
      · have h16 := rhas_any a ha i hin true hh.symm
        have HN : Hid (Upto q (fun n => !has a n) 0 (i + 1)) := HU.out.out (by simp [hh])
        clear HU hh
        go_wp2_with (go_at_call 58; refine (h16 _).mono ?_; rintro e w1 ⟨rfl, b2⟩)
        go_roundw
        case rel => exact ⟨i + 1, q, by go_num, by omega, b1.later b2, b0.later b2, ba.later b2, chain hB b2, HN⟩
        case measure => simp [intOf]; omega
      · have hf : has a i = false := by simpa using hh
        have h16 := rhas_any a ha i hin false hf.symm
        have hp := with_any q HU.out.fits i (by omega) _ rfl
        have HN : Hid (Upto (wth q i) (fun n => !has a n) 0 (i + 1)) := HU.out.put (by simp [hf]) (by omega)
        generalize wth q i = q2 at *
        clear HU hh hf
        go_wp2_with (first | (go_at_call 58; refine (h16 _).mono ?_; rintro e w0 ⟨rfl, b2⟩; have k0 := b1.later b2; have y0 := k0.c0; have y1 := k0.c1; have y2 := k0.c2; have y3 := k0.c3) | (go_at_call 61; refine (hp _).mono ?_; rintro e w1 ⟨rfl, b3⟩; have k1 := k0.later b3; have g0 := k1.c0; have g1 := k1.c1; have g2 := k1.c2; have g3 := k1.c3; have f0 := k1.fz 0; have f1 := k1.fz 1; have f2 := k1.fz 2; have f3 := k1.fz 3))
        go_roundw
        case rel => exact ⟨i + 1, q2, by go_num, by omega, set4 k1 q2, set4_other ((b0.later b2).later b3) (by omega) q2, set4_other ((ba.later b2).later b3) (by omega) q2, Below.set4 (chain (chain hB b2) b3) (by omega) q2, HN⟩
        case measure => simp [intOf]; omega
    · have HE : Hid (r = q) := by
        show _ = _
        rw [HR.out]
        refine ext (fits_nt _) HU.out.fits fun n hn => ?_
        rw [has_nt ha n hn, HU.out.here n hn]
        have : decide (n < i) = true := by simp; omega
        simp [this]
      have d0 := b0.c0
      have d1 := b0.c1
      have d2 := b0.c2
      have d3 := b0.c3
      have f0 := b0.fz 0
      have f1 := b0.fz 1
      have f2 := b0.fz 2
      have f3 := b0.fz 3
      clear HU HR
      go_wp2
      refine ret25 Tryd.results44 (w.heap.size + 1) q rfl (set4 b0 q) rfl ?_
      exact ⟨by rw [HE.out], Below.set4 hB (by omega) q⟩

end Go.Proofs.YtfclidcfhadohaaDoor.sp
