/-
  Plain: the machine of no rules: one state, each byte itself; and over this program: what Then answers, as one contract.
-/
import Derived.Test.YtlmodfeiphffcaaKSp
import Derived.Test.YtlmodfeiphffcaaM19
import Derived.Test.YtlmodfeiphffcaaM17
namespace Go.Proofs.Ytlmodfeiphffcaa.tn
open Go.ChangeShapes Go.WideShapes Go.ChangeAt Go.RowKit
open tr
open ru (Ru Rus)
set_option linter.unusedVariables false

theorem app_nil : ∀ (n : Nat) (s : List UInt8), s.length ≤ n → ru.app [] n s = s
  | 0, s, h => by have : s = [] := List.length_eq_zero_iff.1 (by omega); subst this; rfl
  | n + 1, [], _ => rfl
  | n + 1, b :: s, h => by
    have e : ru.app [] (n + 1) (b :: s) = b :: ru.app [] n s := rfl
    rw [e, app_nil n s (by simpa using h)]
theorem ap_nil (s : List UInt8) : ru.ap [] s = s := app_nil _ s (Nat.le_refl _)
theorem good_nil : ru.Good [] := by decide
section
variable {d : ms.Kq}
theorem sts_nil (h : ms.Pl [] d d.sts.length) : d.sts = [⟨#[]⟩] := by
  have hall : ∀ s ∈ d.sts, s = ⟨#[]⟩ := fun s hs => by
    rcases h.ins s hs with e | e
    · exact ru.ba_ext e
    · cases e
  have hnd := h.nd
  have hf := h.first
  match hd : d.sts with
  | [] => rw [hd] at hf; simp at hf
  | [x] => rw [hd] at hall; rw [hall x (by simp)]
  | x :: y :: r =>
    rw [hd] at hall hnd
    have h1 := hall x (by simp)
    have h2 := hall y (by simp)
    rw [h1, h2] at hnd
    simp at hnd
theorem nx_nil (h : ms.Pl [] d d.sts.length) {s : Nat} (r : Rch (ms.mcOf d) s) : s = 0 := by
  have hl : d.sts.length = 1 := by rw [sts_nil h]; rfl
  induction r with
  | zero => rfl
  | step r hb ih =>
    rename_i s b
    subst ih
    obtain ⟨s', h1, h2⟩ := h.byte h.first (UInt8.ofNat b)
    rw [show (UInt8.ofNat b).toNat = b from by simp; omega] at h1
    have := (List.getElem?_eq_some_iff.1 h1).1
    omega
theorem outp_nil (h : ms.Pl [] d d.sts.length) (c : UInt8) : outp (ms.mcOf d) 0 c = [c] := by
  obtain ⟨s', h1, h2⟩ := h.byte h.first c
  have h3 : ru.rw.stp [] [] c = ([c], []) := ru.rw.stp_none good_nil rfl rfl
  have h4 : ru.rw.stp [] (⟨#[]⟩ : ByteArray).data.toList c = ([c], []) := h3
  rw [h4] at h2
  exact (congrArg Prod.fst h2).symm
theorem el_nil (h : ms.Pl [] d d.sts.length) : el (ms.mcOf d) 0 = 0 := by
  obtain ⟨s, x0, x1, k, t, e1, e2, e3, e4, _, e6, e7⟩ := h.rows 0 (by rw [sts_nil h]; simp)
  have es : s = ⟨#[]⟩ := by
    have := h.first
    rw [e1] at this
    exact Option.some.inj this
  unfold el
  rw [ms.mcOf_en e4, ms.mcOf_tx e6]
  have e8 : ru.ap [] s.data.toList = t.data.toList := e7
  rw [es, ap_nil] at e8
  rw [← list_len, ← e8]
  rfl
theorem byte_nil (h : ms.Pl [] d d.sts.length) {b : Nat} (hb : b < 256) : ol (ms.mcOf d) 0 b = 1 ∧ fbyte (ms.mcOf d) 0 b = b := by
  have h1 := outp_nil h (UInt8.ofNat b)
  unfold outp at h1
  have hbn : (UInt8.ofNat b).toNat = b := by simp; omega
  rw [hbn] at h1
  unfold ol fbyte
  by_cases hp : pt (ms.mcOf d) 0 b % 2 = 1
  · rw [if_pos hp] at h1
    have h2 : (tx (ms.mcOf d) (pt (ms.mcOf d) 0 b / 2)).data.toList = [] := by
      have := congrArg List.length h1
      rw [List.length_append, List.length_singleton] at this
      exact List.length_eq_zero_iff.1 (by omega)
    have h3 : (tx (ms.mcOf d) (pt (ms.mcOf d) 0 b / 2)).size = 0 := by rw [← list_len, h2]; rfl
    exact ⟨by omega, by rw [if_pos hp]⟩
  · rw [if_neg hp, List.append_nil] at h1
    have h3 : (tx (ms.mcOf d) (pt (ms.mcOf d) 0 b / 2)).size = 1 := by rw [← list_len, h1]; rfl
    refine ⟨by omega, ?_⟩
    rw [if_neg hp, h1]
    exact hbn
theorem one_nil (h : ms.Pl [] d d.sts.length) : One (ms.mcOf d) := fun s r => by
  obtain rfl := nx_nil h r
  exact ⟨⟨el_nil h, fun b hb => (byte_nil h hb).1⟩, rfl⟩
theorem fb_nil (h : ms.Pl [] d d.sts.length) {b : Nat} (hb : b < 256) : (fb (ms.mcOf d) 0).getD b 0 = b := by
  unfold fb tb
  simp [List.getD, hb, (byte_nil h hb).2]
end
/-- what Then answers -/
def ThOut (a b : Mc) (w : World) (e : Ending) (w' : World) : Prop := ∃ (c : Mc) (p : Mp) (x : Nat), e = .returned (.tuple #[.agg (mv c p), .int .i64 (x : Int)]) ∧ MAt (In w') w' c p ∧ (x = 0 → Right c ∧ ∀ s, tr.total c 0 s = tr.total b 0 (tr.total a 0 s)) ∧ (x = 0 ∨ x = 80 ∨ x = 120) ∧ (x = 120 ↔ ¬ (right a = true ∧ right b = true)) ∧ Below w.heap.size w w'
theorem nil_at (w : World) : MAt (In w) w ⟨[], [], [], []⟩ ⟨none, 0, none, 0, none, 0, none, 0⟩ :=
  ⟨⟨Nat.le_refl _, Nat.zero_le _, fun i h => by simp at h⟩, ⟨Nat.le_refl _, Nat.zero_le _, fun i h => by simp at h⟩, ⟨Nat.le_refl _, Nat.zero_le _, fun i h => by simp at h⟩, ⟨Nat.le_refl _, Nat.zero_le _, fun i h => by simp at h⟩⟩
theorem then_any {a b : Mc} {pa pb : Mp} {w : World} (hMa : MAt (In w) w a pa) (hMb : MAt (In w) w b pb) : Calls Try.prog 18 #[.agg (mv a pa), .agg (mv b pb)] w (ThOut a b w) := by
  by_cases hr : right a = true ∧ right b = true
  · refine (mk.then_good (right_iff.1 hr.1) (right_iff.1 hr.2) hMa hMb).mono ?_
    rintro e w' (⟨d, p, rfl, hm, hpl, h1, h2, h3, b1⟩ | ⟨d, i, rfl, _, _, _, b1⟩)
    · exact ⟨mk.mcOf d, p, 0, rfl, hm.carry (fun _ _ => rfl) (fun g hg => hg.2), fun _ => ⟨hpl.right h1 h2 h3, hpl.total h3⟩, .inl rfl, ⟨fun h => by omega, fun h => absurd hr h⟩, b1⟩
    · exact ⟨_, _, 80, rfl, nil_at w', fun h => by omega, .inr (.inl rfl), ⟨fun h => by omega, fun h => absurd hr h⟩, b1⟩
  · refine (mk.then_bad hMa hMb _ rfl ?_).mono ?_
    · cases ha : right a with
      | false => exact .inl rfl
      | true => exact .inr (Bool.eq_false_iff.2 fun hb => hr ⟨ha, hb⟩)
    · rintro e w' ⟨rfl, b1⟩
      exact ⟨_, _, 120, rfl, nil_at w', fun h => by omega, .inr (.inr rfl), ⟨fun _ => hr, fun _ => rfl⟩, b1⟩
end Go.Proofs.Ytlmodfeiphffcaa.tn
