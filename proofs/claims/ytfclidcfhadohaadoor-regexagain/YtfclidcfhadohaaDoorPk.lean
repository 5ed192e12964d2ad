/-
  Contracts over this program: how often (regex.timesText).
-/
import Derived.Test.YtfclidcfhadohaaDoorPj
namespace Go.Proofs.YtfclidcfhadohaaDoor.rp
open Go.Proofs.YtfclidcfhadohaaDoor.st
open Go.ChangeShapes Go.WideShapes Go.ChangeAt Go.RowKit
set_option linter.unusedVariables false

def TimesIs (mn mx : Int) (r : L8) : Prop := ∀ w, Calls Tryd.prog 25 #[.int .i64 mn, .int .i64 mx] w fun e w' => e = .returned (.string (bs r)) ∧ w' = w
theorem beqn {a b : Int} (h : ¬ a = b) : (a == b) = false := by rw [beq_eq_false_iff_ne]; exact h
set_option maxHeartbeats 1000000 in
set_option maxRecDepth 100000 in
theorem tm1  : TimesIs (0) (-1) (timesT (0) (-1)) := by
  intro w
  have hr : timesT (0) (-1) = [42] := by rfl
  rw [hr]
  clear hr
  have hI := itoa_any (0) (by omega) (by omega)
  have hl := dec_len (0) (by omega)
  have hs := bs_size (dec (0))
  have hc : bs ([42]) = ⟨#[42]⟩ := rfl
  rw [hc]
  unfold ItoaIs at hI
  generalize dec (0) = p at *
  generalize bs p = t1 at *
  have z1 : ¬ 9223372036854775807 < 1 + p.length := by omega
  have z2 : ¬ 9223372036854775807 < 1 + p.length + 2 := by omega
  have z3 : ¬ 9223372036854775807 < 1 + p.length + 1 := by omega
  go_enter Tryd.func25, Tryd.ntmps25
  go_wp2_with ((go_at_call 30; (with_reducible refine (hI _).mono ?_); rintro e w1 ⟨rfl, hw⟩; obtain rfl := hw.symm))
  go_ret
  exact ⟨rfl, rfl⟩
set_option maxHeartbeats 1000000 in
set_option maxRecDepth 100000 in
theorem tm2  : TimesIs (1) (-1) (timesT (1) (-1)) := by
  intro w
  have hr : timesT (1) (-1) = [43] := by rfl
  rw [hr]
  clear hr
  have hI := itoa_any (1) (by omega) (by omega)
  have hl := dec_len (1) (by omega)
  have hs := bs_size (dec (1))
  have hc : bs ([43]) = ⟨#[43]⟩ := rfl
  rw [hc]
  unfold ItoaIs at hI
  generalize dec (1) = p at *
  generalize bs p = t1 at *
  have z1 : ¬ 9223372036854775807 < 1 + p.length := by omega
  have z2 : ¬ 9223372036854775807 < 1 + p.length + 2 := by omega
  have z3 : ¬ 9223372036854775807 < 1 + p.length + 1 := by omega
  go_enter Tryd.func25, Tryd.ntmps25
  go_wp2_with ((go_at_call 30; (with_reducible refine (hI _).mono ?_); rintro e w1 ⟨rfl, hw⟩; obtain rfl := hw.symm))
  go_ret
  exact ⟨rfl, rfl⟩
set_option maxHeartbeats 1000000 in
set_option maxRecDepth 100000 in
theorem tm3  : TimesIs (0) (1) (timesT (0) (1)) := by
  intro w
  have hr : timesT (0) (1) = [63] := by rfl
  rw [hr]
  clear hr
  have hI := itoa_any (0) (by omega) (by omega)
  have hl := dec_len (0) (by omega)
  have hs := bs_size (dec (0))
  have hc : bs ([63]) = ⟨#[63]⟩ := rfl
  rw [hc]
  unfold ItoaIs at hI
  generalize dec (0) = p at *
  generalize bs p = t1 at *
  have z1 : ¬ 9223372036854775807 < 1 + p.length := by omega
  have z2 : ¬ 9223372036854775807 < 1 + p.length + 2 := by omega
  have z3 : ¬ 9223372036854775807 < 1 + p.length + 1 := by omega
  go_enter Tryd.func25, Tryd.ntmps25
  go_wp2_with ((go_at_call 30; (with_reducible refine (hI _).mono ?_); rintro e w1 ⟨rfl, hw⟩; obtain rfl := hw.symm))
  go_ret
  exact ⟨rfl, rfl⟩
set_option maxHeartbeats 1000000 in
set_option maxRecDepth 100000 in
theorem tm4 (mn : Int) (h0 : 0 ≤ mn) (h20 : mn ≤ 20) (n0 : ¬ mn = 0) (n1 : ¬ mn = 1) : TimesIs (mn) (-1) (timesT (mn) (-1)) := by
  intro w
  have hr : timesT (mn) (-1) = [123] ++ dec mn ++ [44, 125] := by unfold timesT; rw [if_neg (by omega), if_neg (by omega), if_neg (by omega), if_pos rfl]; rfl
  rw [hr]
  clear hr
  have hI := itoa_any (mn) (by omega) (by omega)
  have hl := dec_len (mn) (by omega)
  have hs := bs_size (dec (mn))
  have f0 := beqn n0
  have f1 := beqn n1
  have EE : Hid ((⟨#[123]⟩ : ByteArray) ++ bs (dec (mn)) ++ ⟨#[44, 125]⟩ = bs ([123] ++ dec mn ++ [44, 125])) := by
    show _ = _
    rw [← bs_append, ← bs_append]; rfl
  rw [← EE.out]
  clear EE
  unfold ItoaIs at hI
  generalize dec (mn) = p at *
  generalize bs p = t1 at *
  have z1 : ¬ 9223372036854775807 < 1 + p.length := by omega
  have z2 : ¬ 9223372036854775807 < 1 + p.length + 2 := by omega
  have z3 : ¬ 9223372036854775807 < 1 + p.length + 1 := by omega
  go_enter Tryd.func25, Tryd.ntmps25
  go_wp2_with ((go_at_call 30; (with_reducible refine (hI _).mono ?_); rintro e w1 ⟨rfl, hw⟩; obtain rfl := hw.symm))
  go_ret
  exact ⟨rfl, rfl⟩
set_option maxHeartbeats 1000000 in
set_option maxRecDepth 100000 in
theorem tm5a  : TimesIs (0) (0) (timesT (0) (0)) := by
  intro w
  have hr : timesT (0) (0) = [123] ++ dec 0 ++ [125] := by rfl
  rw [hr]
  clear hr
  have hI := itoa_any (0) (by omega) (by omega)
  have hl := dec_len (0) (by omega)
  have hs := bs_size (dec (0))
  have EE : Hid ((⟨#[123]⟩ : ByteArray) ++ bs (dec (0)) ++ ⟨#[125]⟩ = bs ([123] ++ dec 0 ++ [125])) := by
    show _ = _
    rw [← bs_append, ← bs_append]; rfl
  rw [← EE.out]
  clear EE
  unfold ItoaIs at hI
  generalize dec (0) = p at *
  generalize bs p = t1 at *
  have z1 : ¬ 9223372036854775807 < 1 + p.length := by omega
  have z2 : ¬ 9223372036854775807 < 1 + p.length + 2 := by omega
  have z3 : ¬ 9223372036854775807 < 1 + p.length + 1 := by omega
  go_enter Tryd.func25, Tryd.ntmps25
  go_wp2_with ((go_at_call 30; (with_reducible refine (hI _).mono ?_); rintro e w1 ⟨rfl, hw⟩; obtain rfl := hw.symm))
  go_ret
  exact ⟨rfl, rfl⟩
set_option maxHeartbeats 1000000 in
set_option maxRecDepth 100000 in
theorem tm5b  : TimesIs (1) (1) (timesT (1) (1)) := by
  intro w
  have hr : timesT (1) (1) = [123] ++ dec 1 ++ [125] := by rfl
  rw [hr]
  clear hr
  have hI := itoa_any (1) (by omega) (by omega)
  have hl := dec_len (1) (by omega)
  have hs := bs_size (dec (1))
  have EE : Hid ((⟨#[123]⟩ : ByteArray) ++ bs (dec (1)) ++ ⟨#[125]⟩ = bs ([123] ++ dec 1 ++ [125])) := by
    show _ = _
    rw [← bs_append, ← bs_append]; rfl
  rw [← EE.out]
  clear EE
  unfold ItoaIs at hI
  generalize dec (1) = p at *
  generalize bs p = t1 at *
  have z1 : ¬ 9223372036854775807 < 1 + p.length := by omega
  have z2 : ¬ 9223372036854775807 < 1 + p.length + 2 := by omega
  have z3 : ¬ 9223372036854775807 < 1 + p.length + 1 := by omega
  go_enter Tryd.func25, Tryd.ntmps25
  go_wp2_with ((go_at_call 30; (with_reducible refine (hI _).mono ?_); rintro e w1 ⟨rfl, hw⟩; obtain rfl := hw.symm))
  go_ret
  exact ⟨rfl, rfl⟩
set_option maxHeartbeats 1000000 in
set_option maxRecDepth 100000 in
theorem tm5c (mn : Int) (h0 : 0 ≤ mn) (h20 : mn ≤ 20) (n0 : ¬ mn = 0) (n1 : ¬ mn = 1) : TimesIs (mn) (mn) (timesT (mn) (mn)) := by
  intro w
  have hr : timesT (mn) (mn) = [123] ++ dec mn ++ [125] := by unfold timesT; rw [if_neg (by omega), if_neg (by omega), if_neg (by omega), if_neg (by omega), if_pos rfl]; rfl
  rw [hr]
  clear hr
  have hI := itoa_any (mn) (by omega) (by omega)
  have hl := dec_len (mn) (by omega)
  have hs := bs_size (dec (mn))
  have f0 := beqn n0
  have f1 := beqn n1
  have f2 : (mn == -1) = false := beqn (by omega)
  have EE : Hid ((⟨#[123]⟩ : ByteArray) ++ bs (dec (mn)) ++ ⟨#[125]⟩ = bs ([123] ++ dec mn ++ [125])) := by
    show _ = _
    rw [← bs_append, ← bs_append]; rfl
  rw [← EE.out]
  clear EE
  unfold ItoaIs at hI
  generalize dec (mn) = p at *
  generalize bs p = t1 at *
  have z1 : ¬ 9223372036854775807 < 1 + p.length := by omega
  have z2 : ¬ 9223372036854775807 < 1 + p.length + 2 := by omega
  have z3 : ¬ 9223372036854775807 < 1 + p.length + 1 := by omega
  go_enter Tryd.func25, Tryd.ntmps25
  go_wp2_with ((go_at_call 30; (with_reducible refine (hI _).mono ?_); rintro e w1 ⟨rfl, hw⟩; obtain rfl := hw.symm))
  go_ret
  exact ⟨rfl, rfl⟩
set_option maxHeartbeats 1000000 in
set_option maxRecDepth 100000 in
theorem tm6a (mx : Int) (h0 : 0 ≤ mx) (h20 : mx ≤ 20) (n0 : ¬ mx = 0) (n1 : ¬ mx = 1) : TimesIs (0) (mx) (timesT (0) (mx)) := by
  intro w
  have hr : timesT (0) (mx) = [123] ++ dec 0 ++ [44] ++ dec mx ++ [125] := by unfold timesT; rw [if_neg (by omega), if_neg (by omega), if_neg (by omega), if_neg (by omega), if_neg (by omega)]; simp
  rw [hr]
  clear hr
  have hI := itoa_any (0) (by omega) (by omega)
  have hl := dec_len (0) (by omega)
  have hs := bs_size (dec (0))
  have hJ := itoa_any (mx) (by omega) (by omega)
  have hl2 := dec_len (mx) (by omega)
  have hs2 := bs_size (dec (mx))
  have f0 := beqn n0
  have f1 := beqn n1
  have f2 : (mx == -1) = false := beqn (by omega)
  have EE : Hid ((⟨#[123]⟩ : ByteArray) ++ bs (dec (0)) ++ ⟨#[44]⟩ ++ bs (dec (mx)) ++ ⟨#[125]⟩ = bs ([123] ++ dec 0 ++ [44] ++ dec mx ++ [125])) := by
    show _ = _
    rw [← bs_append, ← bs_append, ← bs_append, ← bs_append]; rfl
  rw [← EE.out]
  clear EE
  unfold ItoaIs at hI
  unfold ItoaIs at hJ
  generalize dec (0) = p at *
  generalize dec (mx) = p2 at *
  generalize bs p2 = t2 at *
  generalize bs p = t1 at *
  have z1 : ¬ 9223372036854775807 < 1 + p.length := by omega
  have z2 : ¬ 9223372036854775807 < 1 + p.length + 2 := by omega
  have z3 : ¬ 9223372036854775807 < 1 + p.length + 1 := by omega
  have z4 : ¬ 9223372036854775807 < 1 + p.length + 1 + p2.length := by omega
  have z5 : ¬ 9223372036854775807 < 1 + p.length + 1 + p2.length + 1 := by omega
  go_enter Tryd.func25, Tryd.ntmps25
  go_wp2_with (first | (go_at_call 30; (with_reducible refine (hI _).mono ?_); rintro e w1 ⟨rfl, hw⟩; obtain rfl := hw.symm) | (go_at_call 30; (with_reducible refine (hJ _).mono ?_); rintro e w2 ⟨rfl, hw2⟩; obtain rfl := hw2.symm))
  go_ret
  exact ⟨rfl, rfl⟩
set_option maxHeartbeats 1000000 in
set_option maxRecDepth 100000 in
theorem tm6b (mx : Int) (h0 : 0 ≤ mx) (h20 : mx ≤ 20) (n1 : ¬ mx = 1) : TimesIs (1) (mx) (timesT (1) (mx)) := by
  intro w
  have hr : timesT (1) (mx) = [123] ++ dec 1 ++ [44] ++ dec mx ++ [125] := by unfold timesT; rw [if_neg (by omega), if_neg (by omega), if_neg (by omega), if_neg (by omega), if_neg (by omega)]; simp
  rw [hr]
  clear hr
  have hI := itoa_any (1) (by omega) (by omega)
  have hl := dec_len (1) (by omega)
  have hs := bs_size (dec (1))
  have hJ := itoa_any (mx) (by omega) (by omega)
  have hl2 := dec_len (mx) (by omega)
  have hs2 := bs_size (dec (mx))
  have f1 := beqn n1
  have f2 : (mx == -1) = false := beqn (by omega)
  have EE : Hid ((⟨#[123]⟩ : ByteArray) ++ bs (dec (1)) ++ ⟨#[44]⟩ ++ bs (dec (mx)) ++ ⟨#[125]⟩ = bs ([123] ++ dec 1 ++ [44] ++ dec mx ++ [125])) := by
    show _ = _
    rw [← bs_append, ← bs_append, ← bs_append, ← bs_append]; rfl
  rw [← EE.out]
  clear EE
  unfold ItoaIs at hI
  unfold ItoaIs at hJ
  generalize dec (1) = p at *
  generalize dec (mx) = p2 at *
  generalize bs p2 = t2 at *
  generalize bs p = t1 at *
  have z1 : ¬ 9223372036854775807 < 1 + p.length := by omega
  have z2 : ¬ 9223372036854775807 < 1 + p.length + 2 := by omega
  have z3 : ¬ 9223372036854775807 < 1 + p.length + 1 := by omega
  have z4 : ¬ 9223372036854775807 < 1 + p.length + 1 + p2.length := by omega
  have z5 : ¬ 9223372036854775807 < 1 + p.length + 1 + p2.length + 1 := by omega
  go_enter Tryd.func25, Tryd.ntmps25
  go_wp2_with (first | (go_at_call 30; (with_reducible refine (hI _).mono ?_); rintro e w1 ⟨rfl, hw⟩; obtain rfl := hw.symm) | (go_at_call 30; (with_reducible refine (hJ _).mono ?_); rintro e w2 ⟨rfl, hw2⟩; obtain rfl := hw2.symm))
  go_ret
  exact ⟨rfl, rfl⟩
set_option maxHeartbeats 1000000 in
set_option maxRecDepth 100000 in
theorem tm6c (mn : Int) (g0 : 0 ≤ mn) (g20 : mn ≤ 20) (m0 : ¬ mn = 0) (m1 : ¬ mn = 1) (mx : Int) (h0 : 0 ≤ mx) (h20 : mx ≤ 20) (nm : ¬ mx = mn) : TimesIs (mn) (mx) (timesT (mn) (mx)) := by
  intro w
  have hr : timesT (mn) (mx) = [123] ++ dec mn ++ [44] ++ dec mx ++ [125] := by unfold timesT; rw [if_neg (by omega), if_neg (by omega), if_neg (by omega), if_neg (by omega), if_neg (by omega)]; simp
  rw [hr]
  clear hr
  have hI := itoa_any (mn) (by omega) (by omega)
  have hl := dec_len (mn) (by omega)
  have hs := bs_size (dec (mn))
  have hJ := itoa_any (mx) (by omega) (by omega)
  have hl2 := dec_len (mx) (by omega)
  have hs2 := bs_size (dec (mx))
  have f0 := beqn m0
  have f1 := beqn m1
  have f3 := beqn nm
  have f2 : (mx == -1) = false := beqn (by omega)
  have EE : Hid ((⟨#[123]⟩ : ByteArray) ++ bs (dec (mn)) ++ ⟨#[44]⟩ ++ bs (dec (mx)) ++ ⟨#[125]⟩ = bs ([123] ++ dec mn ++ [44] ++ dec mx ++ [125])) := by
    show _ = _
    rw [← bs_append, ← bs_append, ← bs_append, ← bs_append]; rfl
  rw [← EE.out]
  clear EE
  unfold ItoaIs at hI
  unfold ItoaIs at hJ
  generalize dec (mn) = p at *
  generalize dec (mx) = p2 at *
  generalize bs p2 = t2 at *
  generalize bs p = t1 at *
  have z1 : ¬ 9223372036854775807 < 1 + p.length := by omega
  have z2 : ¬ 9223372036854775807 < 1 + p.length + 2 := by omega
  have z3 : ¬ 9223372036854775807 < 1 + p.length + 1 := by omega
  have z4 : ¬ 9223372036854775807 < 1 + p.length + 1 + p2.length := by omega
  have z5 : ¬ 9223372036854775807 < 1 + p.length + 1 + p2.length + 1 := by omega
  go_enter Tryd.func25, Tryd.ntmps25
  go_wp2_with (first | (go_at_call 30; (with_reducible refine (hI _).mono ?_); rintro e w1 ⟨rfl, hw⟩; obtain rfl := hw.symm) | (go_at_call 30; (with_reducible refine (hJ _).mono ?_); rintro e w2 ⟨rfl, hw2⟩; obtain rfl := hw2.symm))
  go_ret
  exact ⟨rfl, rfl⟩
theorem times_any (mn mx : Int) (h : timesOk mn mx = true) (r : L8) (hr : r = timesT mn mx) : TimesIs mn mx r := by
  subst hr
  obtain ⟨a0, a20, b0, b20⟩ := times_bounds h
  by_cases x : mx = -1
  · subst x
    by_cases n0 : mn = 0
    · subst n0; exact tm1
    · by_cases n1 : mn = 1
      · subst n1; exact tm2
      · exact tm4 mn a0 a20 n0 n1
  · by_cases hm : mx = mn
    · subst hm
      by_cases n0 : mx = 0
      · subst n0; exact tm5a
      · by_cases n1 : mx = 1
        · subst n1; exact tm5b
        · exact tm5c mx a0 a20 n0 n1
    · by_cases n0 : mn = 0
      · subst n0
        by_cases n1 : mx = 1
        · subst n1; exact tm3
        · exact tm6a mx (by omega) b20 hm n1
      · by_cases n1 : mn = 1
        · subst n1
          exact tm6b mx (by omega) b20 hm
        · exact tm6c mn a0 a20 n0 n1 mx (by omega) b20 hm
end Go.Proofs.YtfclidcfhadohaaDoor.rp
