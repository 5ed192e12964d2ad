/-
  Contracts over this program: the set of a text's bytes and of a range (set.Of, set.Range, and the document's).
-/
import Derived.Test.YtfclidcfhadohaaDoorPut
import Derived.Deep.RegionWith
import Derived.Deep.RegionLaw
import Derived.Deep.RegionHeld3
namespace Go.Proofs.YtfclidcfhadohaaDoor.sp
open Go.Proofs.YtfclidcfhadohaaDoor.st
open Go.ChangeShapes Go.WideShapes Go.ChangeAt Go.RowKit
set_option linter.unusedVariables false

theorem set4 {w : World} {g : Nat} {q0 : Q4} (h : Blk w g q0) (q : Q4) : Blk ((((w.setCell ⟨g, 0, none⟩ (.int .u64 q.a)).setCell ⟨g, 1, none⟩ (.int .u64 q.b)).setCell ⟨g, 2, none⟩ (.int .u64 q.c)).setCell ⟨g, 3, none⟩ (.int .u64 q.d)) g q :=
  set_heap _ g _ _ 3 _ (set_heap _ g _ _ 2 _ (set_heap _ g _ _ 1 _ (set_heap w g _ _ 0 _ h)))
theorem Below.set4 {n : Nat} {w w' : World} (h : Below n w w') {g : Nat} (hg : n ≤ g) (q : Q4) : Below n w ((((w'.setCell ⟨g, 0, none⟩ (.int .u64 q.a)).setCell ⟨g, 1, none⟩ (.int .u64 q.b)).setCell ⟨g, 2, none⟩ (.int .u64 q.c)).setCell ⟨g, 3, none⟩ (.int .u64 q.d)) :=
  (((h.setCell (p := ⟨g, 0, none⟩) hg _).setCell (p := ⟨g, 1, none⟩) hg _).setCell (p := ⟨g, 2, none⟩) hg _).setCell (p := ⟨g, 3, none⟩) hg _
theorem set4_other {w : World} {g h : Nat} {q0 : Q4} (b : Blk w g q0) (hne : g ≠ h) (q : Q4) : Blk ((((w.setCell ⟨h, 0, none⟩ (.int .u64 q.a)).setCell ⟨h, 1, none⟩ (.int .u64 q.b)).setCell ⟨h, 2, none⟩ (.int .u64 q.c)).setCell ⟨h, 3, none⟩ (.int .u64 q.d)) g q0 := by
  unfold Blk
  rw [Below.heap_setCell _ _ _ _ hne, Below.heap_setCell _ _ _ _ hne, Below.heap_setCell _ _ _ _ hne, Below.heap_setCell _ _ _ _ hne]
  exact b
theorem Blk.other {w w' : World} {g h : Nat} {q : Q4} (b : Blk w g q) (t : w.grownBy w' (some h)) (hne : g ≠ h) : Blk w' g q := by
  unfold Blk
  rw [t.block g b.lt (fun e => hne (Option.some.inj e))]
  exact b

def OfIs (s : ByteArray) (r : Q4) : Prop := ∀ w, Calls Tryd.prog 53 #[.string s] w fun e w' => e = .returned (.agg #[.int .u64 r.a, .int .u64 r.b, .int .u64 r.c, .int .u64 r.d]) ∧ Below w.heap.size w w'
def ROfIs (s : ByteArray) (r : Q4) : Prop := ∀ w, Calls Tryd.prog 45 #[.string s] w fun e w' => e = .returned (.agg #[.int .u64 r.a, .int .u64 r.b, .int .u64 r.c, .int .u64 r.d]) ∧ Below w.heap.size w w'

set_option maxHeartbeats 1000000 in
set_option maxRecDepth 100000 in
theorem of_any (s : ByteArray) (hs : s.size ≤ 1125899906842624) (r : Q4) (hr : r = ofl (codes s)) : OfIs s r := by
  intro w
  have HR : Hid (r = ofl (codes s)) := hr
  clear hr
  go_enter Tryd.func53, Tryd.ntmps53
  go_wp2
  go_loopw [7] (fun x wr => ∃ (i : Nat) (q : Q4), x = .int .i64 i ∧ i ≤ s.size ∧ Blk wr (w.heap.size + 1) q ∧ Blk wr w.heap.size none4 ∧ Below w.heap.size w wr ∧ Fits q ∧ Hid (q = ofl ((codes s).take i))) (fun x _ => s.size - (intOf x).toNat)
  case atStart => exact ⟨0, none4, rfl, by omega, heap_alloc2_new w _ _, heap_alloc2_old w _ _, ((Below.refl _ _).alloc (Nat.le_refl _) _).alloc (by simp) _, fits_none, rfl⟩
  case round =>
    obtain ⟨i, q, rfl, hi, b1, b0, hB, hf, HQ⟩ := hrel
    by_cases hin : i < s.size
    · have hp := put_any q hf s[i].toNat (s[i].toNat_lt) _ rfl
      have hf2 := fits_wth hf s[i].toNat
      have HN : Hid (wth q s[i].toNat = ofl ((codes s).take (i + 1))) := by show _ = _; rw [codes_take s i hin, ofl_snoc, ← HQ.out]
      generalize wth q s[i].toNat = q2 at *
      clear HQ
      go_wp2_with (go_at_call 68; refine (hp _ _ b1).mono ?_; rintro e w1 ⟨rfl, b2, t2⟩)
      go_roundw
      case rel => exact ⟨i + 1, q2, by go_num, by omega, b2, b0.other t2 (by omega), hB.grown t2 hB.size (by intro k hk; simp at hk; omega), hf2, HN⟩
      case measure => simp [intOf]; omega
    · have HE : Hid (r = q) := by show _ = _; rw [HQ.out, HR.out, List.take_of_length_le (by rw [codes_length]; omega)]
      have c0 := b1.c0
      have c1 := b1.c1
      have c2 := b1.c2
      have c3 := b1.c3
      have d0 := b0.c0
      have d1 := b0.c1
      have d2 := b0.c2
      have d3 := b0.c3
      have f0 := b0.fz 0
      have f1 := b0.fz 1
      have f2 := b0.fz 2
      have f3 := b0.fz 3
      clear HQ HR
      go_wp2
      refine ret25 Tryd.results53 w.heap.size q rfl (set4 b0 q) rfl ?_
      exact ⟨by rw [HE.out], Below.set4 hB (Nat.le_refl _) q⟩

set_option maxHeartbeats 1000000 in
set_option maxRecDepth 100000 in
theorem rof_any (s : ByteArray) (hs : s.size ≤ 1125899906842624) (r : Q4) (hr : r = ofl (codes s)) : ROfIs s r := by
  intro w
  have HR : Hid (r = ofl (codes s)) := hr
  clear hr
  go_enter Tryd.func45, Tryd.ntmps45
  go_wp2
  go_loopw [4] (fun x wr => ∃ (i : Nat) (q : Q4), x = .int .i64 i ∧ i ≤ s.size ∧ Blk wr (w.heap.size + 1) q ∧ Blk wr w.heap.size none4 ∧ Below w.heap.size w wr ∧ Fits q ∧ Hid (q = ofl ((codes s).take i))) (fun x _ => s.size - (intOf x).toNat)
  case atStart => exact ⟨0, none4, rfl, by omega, heap_alloc2_new w _ _, heap_alloc2_old w _ _, ((Below.refl _ _).alloc (Nat.le_refl _) _).alloc (by simp) _, fits_none, rfl⟩
  case round =>
    obtain ⟨i, q, rfl, hi, b1, b0, hB, hf, HQ⟩ := hrel
    by_cases hin : i < s.size
    · have hp := with_any q hf s[i].toNat (s[i].toNat_lt) _ rfl
      have hf2 := fits_wth hf s[i].toNat
      have HN : Hid (wth q s[i].toNat = ofl ((codes s).take (i + 1))) := by show _ = _; rw [codes_take s i hin, ofl_snoc, ← HQ.out]
      generalize wth q s[i].toNat = q2 at *
      have c0 := b1.c0
      have c1 := b1.c1
      have c2 := b1.c2
      have c3 := b1.c3
      clear HQ
      go_wp2
      go_region_with (go_at_call 61; refine (hp _).mono ?_; rintro e w1 ⟨rfl, b2⟩; have k1 : Blk w1 (w.heap.size + 1) q := Blk.later (w := wr.drew) b1 b2; have g0 := k1.c0; have g1 := k1.c1; have g2 := k1.c2; have g3 := k1.c3; have f0 := k1.fz 0; have f1 := k1.fz 1; have f2 := k1.fz 2; have f3 := k1.fz 3)
      all_goals go_wp2
      all_goals exact ⟨⟨i + 1, q2, by go_num, by omega, set4 k1 q2, set4_other (Blk.later (w := wr.drew) b0 b2) (by omega) q2, Below.set4 ((Below.drew hB).trans (Below.mono b2 (Below.drew hB).size)) (by omega) q2, hf2, HN⟩, by simp [intOf]; omega⟩
    · have HE : Hid (r = q) := by show _ = _; rw [HQ.out, HR.out, List.take_of_length_le (by rw [codes_length]; omega)]
      have c0 := b1.c0
      have c1 := b1.c1
      have c2 := b1.c2
      have c3 := b1.c3
      have d0 := b0.c0
      have d1 := b0.c1
      have d2 := b0.c2
      have d3 := b0.c3
      have f0 := b0.fz 0
      have f1 := b0.fz 1
      have f2 := b0.fz 2
      have f3 := b0.fz 3
      clear HQ HR
      go_wp2
      refine ret25 Tryd.results45 w.heap.size q rfl (set4 b0 q) rfl ?_
      exact ⟨by rw [HE.out], Below.set4 hB (Nat.le_refl _) q⟩
end Go.Proofs.YtfclidcfhadohaaDoor.sp
