/-
  Contracts over this program: sections are put, or refused (pack.Put, and the document's).
-/
import Derived.Test.YtjnjjbacfodacaaSeal
namespace Go.Proofs.Ytjnjjbacfodacaa.pk
open Go.ChangeShapes Go.WideShapes Go.ChangeAt Go.RowKit
set_option linter.unusedVariables false

def PutsIs (l : List Sec) (t : ByteArray) (e : Nat) : Prop := ∀ v w, Secs w v l → Calls Try.prog 10 #[v] w fun r w' => r = .returned (.tuple #[.string t, .int .i64 e]) ∧ Below w.heap.size w w'
def RPutsIs (l : List Sec) (t : ByteArray) (e : Nat) : Prop := ∀ v w, Secs w v l → Calls Try.prog 11 #[v] w fun r w' => r = .returned (.tuple #[.string t, .int .i64 e]) ∧ Below w.heap.size w w'

theorem chain {w w1 w2 : World} (h1 : Below w.heap.size w w1) (h2 : Below w1.heap.size w1 w2) : Below w.heap.size w w2 := h1.trans (h2.mono h1.size)

theorem puts_many (l : List Sec) (h : 64 < l.length) : PutsIs l ⟨#[]⟩ 2 := by
  intro v w hv
  obtain ⟨a, cap, rfl, hl63, hc⟩ := hv.form
  clear hv hc
  go_enter Try.func10, Try.ntmps10
  go_wp2
  go_ret2
  exact ⟨rfl, Below.refl _ _⟩
theorem puts_heavy (l : List Sec) (h : l.length ≤ 64) (hv18 : HeavyIs l true) : PutsIs l ⟨#[]⟩ 2 := by
  intro v w hv
  have h18 := hv18 v w hv
  obtain ⟨a, cap, rfl, hl63, hc⟩ := hv.form
  clear hv hc hv18
  go_enter Try.func10, Try.ntmps10
  go_wp2_with (go_at_call 18; refine h18.mono ?_; rintro e w1 ⟨rfl, b1⟩)
  go_ret2
  exact ⟨rfl, b1⟩
theorem puts_falls (l : List Sec) (h : l.length ≤ 64) (hv18 : HeavyIs l false) (hv19 : RiseIs l false) : PutsIs l ⟨#[]⟩ 1 := by
  intro v w hv
  have h18 := hv18 v w hv
  obtain ⟨a, cap, rfl, hl63, hc⟩ := hv.form
  clear hc hv18
  go_enter Try.func10, Try.ntmps10
  go_wp2_with (first | (go_at_call 18; refine h18.mono ?_; rintro e w1 ⟨rfl, b1⟩; have hv1 := hv.below b1) | (go_at_call 19; refine (hv19 _ _ hv1).mono ?_; rintro e w2 ⟨rfl, b2⟩))
  go_ret2
  exact ⟨rfl, chain b1 b2⟩
theorem puts_ok (l : List Sec) (h : l.length ≤ 64) (hv18 : HeavyIs l false) (hv19 : RiseIs l true) (t : ByteArray) (hv20 : SealedIs l t) : PutsIs l t 0 := by
  intro v w hv
  have h18 := hv18 v w hv
  obtain ⟨a, cap, rfl, hl63, hc⟩ := hv.form
  clear hc hv18
  go_enter Try.func10, Try.ntmps10
  go_wp2_with (first | (go_at_call 18; refine h18.mono ?_; rintro e w1 ⟨rfl, b1⟩; have hv1 := hv.below b1) | (go_at_call 19; refine (hv19 _ _ hv1).mono ?_; rintro e w2 ⟨rfl, b2⟩; have hv2 := hv1.below b2) | (go_at_call 20; refine (hv20 _ _ hv2).mono ?_; rintro e w3 ⟨rfl, b3⟩))
  go_ret2
  exact ⟨rfl, chain (chain b1 b2) b3⟩

theorem puts_any (l : List Sec) (hl : ∀ x ∈ l, Fits x) (t : ByteArray) (e : Nat) (h : putP l = (t, e)) : PutsIs l t e := by
  unfold putP at h
  by_cases h64 : 64 < l.length
  · rw [if_pos (.inl h64)] at h
    simp only [Prod.mk.injEq] at h
    obtain ⟨rfl, rfl⟩ := h
    exact puts_many l h64
  · by_cases ht : 8388608 < total l
    · rw [if_pos (.inr ht)] at h
      simp only [Prod.mk.injEq] at h
      obtain ⟨rfl, rfl⟩ := h
      exact puts_heavy l (by omega) (heavy_any l true (by simp [ht]) hl)
    · rw [if_neg (by omega)] at h
      have h18 := heavy_any l false (by simp; omega) hl
      by_cases hr : rises none l = false
      · rw [if_pos hr] at h
        simp only [Prod.mk.injEq] at h
        obtain ⟨rfl, rfl⟩ := h
        exact puts_falls l (by omega) h18 (rise_any l false hr.symm)
      · rw [if_neg hr] at h
        simp only [Prod.mk.injEq] at h
        obtain ⟨rfl, rfl⟩ := h
        exact puts_ok l (by omega) h18 (rise_any l true (by cases h : rises none l <;> simp_all)) _ (sealed_any l hl (by omega) (by omega) _ (packed_list l))

set_option maxHeartbeats 2000000 in
set_option maxRecDepth 100000 in
theorem rputs_many (l : List Sec) (h : 64 < l.length) : RPutsIs l ⟨#[]⟩ 2 := by
  intro v w hv
  obtain ⟨a, cap, rfl, hl63, hc⟩ := hv.form
  clear hv
  go_enter Try.func11, Try.ntmps11
  go_wp2
  go_loopw [4, 12] (fun u x wr => ∃ (i : Nat) (t : Int), u = .int .i64 t ∧ x = .int .i64 i ∧ i ≤ l.length ∧ Below w.heap.size w wr) (fun _ x _ => l.length - (intOf x).toNat)
  case atStart => exact ⟨0, 0, rfl, rfl, by omega, Below.refl _ _⟩
  case round =>
    obtain ⟨i, t, rfl, rfl, hi, hB⟩ := hrel
    by_cases hend : i < l.length
    · obtain ⟨b, off, rfl, hcap, hlt, hc1, hc2⟩ := hc i hend
      rw [← hB.cell (p := ⟨b, off + i * 2, none⟩) hlt] at hc1
      rw [← hB.cell (p := ⟨b, off + i * 2 + 1, none⟩) hlt] at hc2
      generalize nth l i = x at *
      clear hc
      go_wp2
      go_roundw
      case rel => exact ⟨i + 1, wrap64 (t + x.body.size), rfl, by go_num, by omega, hB.alloc hB.size _⟩
      case measure => simp [intOf]; omega
    · clear hc
      go_wp2
      go_ret2
      exact ⟨rfl, hB⟩
end Go.Proofs.Ytjnjjbacfodacaa.pk
