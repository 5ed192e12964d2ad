/-
  Contracts over this program: so many sections read (the reader's again), and a text read as a pack (pack.Get).
-/
import Derived.Test.YtjnjjbacfodacaaSect
namespace Go.Proofs.Ytjnjjbacfodacaa.pk
open Go.ChangeShapes Go.WideShapes Go.ChangeAt Go.RowKit
set_option linter.unusedVariables false

/-- one section, whatever it is -/
theorem section_any (B g : Nat) (u : ByteArray) (p : Nat) (acc : List Sec) (hs : u.size ≤ 140737488351232) (hp : p ≤ u.size) (hlen : acc.length ≤ 1000000) :
    ∃ (p' e' : Nat) (y : Sec), SectionIs B g u p acc p' e' y ∧ e' ≤ 100 ∧ ((e' = 0 ∧ p' ≤ u.size ∧ Fits y ∧ ∀ m, jn acc (rdS u (m + 1) (lastKind acc) p) = jn (acc ++ [y]) (rdS u m (lastKind (acc ++ [y])) p')) ∨ (e' ≠ 0 ∧ ∀ m, jn acc (rdS u (m + 1) (lastKind acc) p) = ([], 0, e'))) := by
  obtain ⟨n, q, e, hg⟩ : ∃ n q e, num.gets u.data.toList p = (n, q, e) := ⟨_, _, _, rfl⟩
  have hb := num.gets_bounds hg (by rw [num.size_list]; exact hp)
  rw [num.size_list] at hb
  have hget := num.get_in u p (by omega) hp n q e hg
  have h33 := above_any acc n _ rfl
  by_cases h0 : e = 0
  · subst h0
    have hq : q ≤ u.size := by rcases hb.2 with h1 | h1 <;> omega
    have h42 := number_any g u p n q 0 q 0 hget (goOn_ok g u p q)
    by_cases hov : over (lastKind acc) n = true
    · rw [hov] at h33
      obtain ⟨t, r, f, ht⟩ : ∃ t r f, getT u q = (t, r, f) := ⟨_, _, _, rfl⟩
      have hT := text_both u q hs hq t r f ht
      by_cases hf : f = 0
      · subst hf
        have h44 := body_any g u q t r 0 r 0 hT.1 (goOn_ok g u q r)
        rcases hT.2.2 with ⟨_, t1, t2, t3, t4⟩ | ⟨h4, _⟩
        · refine ⟨r, 0, ⟨n, t⟩, section_above B g u p acc n q 0 t r 0 hlen h42 h33 h44, by omega, .inl ⟨rfl, t2, ⟨hb.1, by show t.size ≤ _; omega⟩, fun m => ?_⟩⟩
          rw [jn_ok hg hov ht, last_append]
        · omega
      · have h44 := body_any g u q t r f q f hT.1 (goOn_err g u q r f hf)
        refine ⟨q, f, ⟨n, t⟩, section_above B g u p acc n q 0 t q f hlen h42 h33 h44, ?_, .inr ⟨hf, fun m => jn_text hg hov ht hf⟩⟩
        rcases hT.2.2 with h | ⟨h, _⟩ <;> omega
    · have hov : over (lastKind acc) n = false := by simpa using hov
      rw [hov] at h33
      exact ⟨q, 21, ⟨n, ⟨#[]⟩⟩, section_not B g u p acc n q 0 ⟨#[]⟩ q 21 21 hlen h42 h33 (fail_first g u q 21) (body_later g u q 21 (by omega)), by omega, .inr ⟨by omega, fun m => jn_kind hg hov⟩⟩
  · have h42 := number_any g u p n q e p e hget (goOn_err g u p q e h0)
    have he : e ≤ 100 := by rcases hb.2 with h | h <;> omega
    by_cases hov : over (lastKind acc) n = true
    · rw [hov] at h33
      exact ⟨p, e, ⟨n, ⟨#[]⟩⟩, section_above B g u p acc n p e ⟨#[]⟩ p e hlen h42 h33 (body_later g u p e h0), he, .inr ⟨h0, fun m => jn_num hg h0⟩⟩
    · have hov : over (lastKind acc) n = false := by simpa using hov
      rw [hov] at h33
      exact ⟨p, e, ⟨n, ⟨#[]⟩⟩, section_not B g u p acc n p e ⟨#[]⟩ p e e hlen h42 h33 (fail_later g u p e 21 h0) (body_later g u p e h0), he, .inr ⟨h0, fun m => jn_num hg h0⟩⟩

/-- nothing is read behind an error -/
theorem again_later (g : Nat) (u : ByteArray) (p e n : Nat) (v : Value) (he : e ≠ 0) (hn : n < 18446744073709551616) (w : World) (h : Blk w g u p e v) :
    Calls Try.prog 27 #[.pointer (some ⟨g, 0, none⟩), .int .u64 n, .func (.func 29) #[.pointer (some ⟨g, 0, none⟩)] #[]] w fun r w' => r = .returned (.tuple #[]) ∧ w' = w := by
  have c2 := h.c2
  have hne : ((e : Int) != 0) = true := by rw [bne_iff_ne]; omega
  by_cases h0 : n = 0
  · subst h0
    go_enter Try.func27, Try.ntmps27
    go_wp2
    go_loopw [7] (fun x wr => x = .int .u64 0 ∧ wr = w) (fun _ _ => 0)
    case atStart => exact ⟨rfl, rfl⟩
    case round =>
      obtain ⟨rfl, rfl⟩ := hrel
      go_wp2
      go_end0
      exact ⟨rfl, rfl⟩
  · have hpos : 0 < n := by omega
    go_enter Try.func27, Try.ntmps27
    go_wp2
    go_loopw [7] (fun x wr => x = .int .u64 0 ∧ wr = w) (fun _ _ => 0)
    case atStart => exact ⟨rfl, rfl⟩
    case round =>
      obtain ⟨rfl, rfl⟩ := hrel
      go_wp2
      refine bodyPost_ret (results_none rfl _ _ _) rfl ?_
      exact ⟨rfl, rfl⟩

/-- the reader's state: either all that was read, or an error -/
def State (B g : Nat) (u : ByteArray) (m : Nat) (R : List Sec × Nat × Nat) (w0 w : World) : Prop := ∃ (p e : Nat) (v : Value) (acc : List Sec), Blk w g u p e v ∧ Own B w v acc ∧ Below B w0 w ∧ acc.length ≤ 65 ∧ ((e = 0 ∧ p ≤ u.size ∧ (∀ x ∈ acc, Fits x) ∧ acc.length + m ≤ 64 ∧ jn acc (rdS u m (lastKind acc) p) = R) ∨ (e ≠ 0 ∧ e ≤ 100 ∧ R = ([], 0, e)))

set_option maxHeartbeats 2000000 in
set_option maxRecDepth 100000 in
theorem again_any (B g : Nat) (u : ByteArray) (n : Nat) (R : List Sec × Nat × Nat) (hn : n ≤ 64) (hs : u.size ≤ 140737488351232) (hBg : B ≤ g) (w0 w : World) (h : State B g u n R w0 w) :
    Calls Try.prog 27 #[.pointer (some ⟨g, 0, none⟩), .int .u64 n, .func (.func 29) #[.pointer (some ⟨g, 0, none⟩)] #[]] w fun r w' => r = .returned (.tuple #[]) ∧ (State B g u 0 R w0 w') := by
  go_enter Try.func27, Try.ntmps27
  go_wp2
  go_loopw [7] (fun x wr => ∃ i : Nat, x = .int .u64 i ∧ i ≤ n ∧ Hid (State B g u (n - i) R w0 wr)) (fun x _ => n - (intOf x).toNat)
  case atStart => exact ⟨0, rfl, by omega, h⟩
  case round =>
    obtain ⟨i, rfl, hi, HS⟩ := hrel
    obtain ⟨p, e, v, acc, hb, hown, hB, ha65, hor⟩ := HS.out
    have c2 := hb.c2
    by_cases hend : i < n
    · by_cases h0 : e = 0
      · subst h0
        rcases hor with ⟨_, hp, hfit, hac, hR⟩ | ⟨h1, _⟩
        · obtain ⟨p', e', y, hsec, he', hcase⟩ := section_any B g u p acc hs hp (by omega)
          have hcall := hsec _ _ hb hown hBg
          have HN : Hid (∀ w', (∃ v', Blk w' g u p' e' v' ∧ Own B w' v' (acc ++ [y]) ∧ Below B wr w') → State B g u (n - (i + 1)) R w0 w') := by
            rintro w' ⟨v', b', o', l'⟩
            refine ⟨p', e', v', acc ++ [y], b', o', hB.trans l', by simp; omega, ?_⟩
            have em : n - i = (n - (i + 1)) + 1 := by omega
            rw [em] at hR
            rcases hcase with ⟨h1, h2, h3, h4⟩ | ⟨h1, h2⟩
            · refine .inl ⟨h1, h2, ?_, by simp; omega, by rw [← hR, h4]⟩
              intro x hx
              rcases List.mem_append.1 hx with hx | hx
              · exact hfit x hx
              · simp at hx; subst hx; exact h3
            · exact .inr ⟨h1, he', by rw [← hR, h2]⟩
          clear hsec hcase hR hfit hown HS
          go_wp2_with (go_at_call 29; refine hcall.mono ?_; rintro r w1 ⟨rfl, hx⟩)
          go_roundw
          case rel => exact ⟨i + 1, by go_num, by omega, HN.out _ hx⟩
          case measure => simp [intOf]; omega
        · exact absurd rfl h1
      · have hne : ((e : Int) != 0) = true := by rw [bne_iff_ne]; omega
        have HE : Hid (State B g u 0 R w0 wr) := by
          rcases hor with ⟨h1, _⟩ | h1
          · exact absurd h1 h0
          · exact ⟨p, e, v, acc, hb, hown, hB, ha65, .inr h1⟩
        clear hor HS
        go_wp2
        refine bodyPost_ret (results_none rfl _ _ _) rfl ?_
        exact ⟨rfl, HE.out⟩
    · have HE : Hid (State B g u 0 R w0 wr) := by
        have e1 : n - i = 0 := by omega
        have := HS.out
        rw [e1] at this
        exact this
      clear hor HS
      go_wp2
      go_end0
      exact ⟨rfl, HE.out⟩
end Go.Proofs.Ytjnjjbacfodacaa.pk
