/-
  Contracts over this program: rule.Right, rule.newFinder.
-/
import Derived.Test.YthmecbonjkcnmaaKUd
import Derived.Laws.ResultCell
import Derived.Laws.Tables
namespace Go.Proofs.Ythmecbonjkcnmaa.ru
open Go.ChangeShapes Go.WideShapes Go.ChangeAt Go.RowKit Go.Maps
set_option linter.unusedVariables false

theorem anyBad_no {l : List Ru} (h : anyBad l = false) : ∀ r ∈ l, bad r = false := fun r hr => by
  have := List.any_eq_false.1 h r hr
  simpa using this
theorem rightE_long {l : List Ru} (h : 64 < l.length) : rightE l = 2 := by unfold rightE; rw [if_pos h]
theorem rightE_bad {l : List Ru} (h : l.length ≤ 64) (hb : anyBad l = true) : rightE l = 110 := by
  unfold rightE
  rw [if_neg (by omega), if_neg]
  intro hg
  obtain ⟨r, hr, hbr⟩ := List.any_eq_true.1 hb
  rw [hg.2.1 r hr] at hbr
  cases hbr
theorem rightE_twice {l : List Ru} (h : l.length ≤ 64) (ho : ¬ Once l) : rightE l = 110 := by
  unfold rightE
  rw [if_neg (by omega), if_neg (fun hg => ho hg.2.2)]

def RightIs (l : List Ru) (x : Nat) : Prop := ∀ v w, Rus w v l → Calls Try.prog 44 #[v] w fun e w' => e = .returned (.int .i64 (x : Int)) ∧ Below w.heap.size w w'
theorem Rus.form {w : World} {v : Value} {l : List Ru} (h : Rus w v l) : ∃ a cap, v = .slice a l.length cap ∧ (l.length ≤ cap ∨ l.length = 0) ∧ (cap ≤ 9223372036854775807 ∨ l.length = 0) := by
  rcases h with ⟨rfl, a, cap, rfl⟩ | ⟨b, off, cap, rfl, hl, hm, _⟩
  · exact ⟨_, _, rfl, .inr rfl, .inr rfl⟩
  · exact ⟨_, _, rfl, .inl hl, .inl hm⟩
theorem Rus.small {w : World} {v : Value} {l : List Ru} (h : Rus w v l) : l.length ≤ 9223372036854775807 := by
  obtain ⟨a, cap, _, h1, h2⟩ := h.form
  omega

set_option maxHeartbeats 2000000 in
set_option maxRecDepth 100000 in
theorem right_any (l : List Ru) (x : Nat) (hx : x = rightE l) : RightIs l x := by
  intro v w hv
  have hsm := hv.small
  obtain ⟨a, cap, rfl, _, _⟩ := hv.form
  by_cases h1 : 64 < l.length
  · obtain rfl : x = 2 := by rw [hx, rightE_long h1]
    clear hx hv
    go_enter Try.func44, Try.ntmps44
    go_wp2
    go_ret
    exact ⟨rfl, Below.refl _ _⟩
  · have h1' : l.length ≤ 64 := by omega
    have c18 := anyBad_is l _ rfl _ w hv
    cases hb : anyBad l
    · rw [hb] at c18
      have hnb := anyBad_no hb
      have c20 := by_any l h1' (fun r hr => by have := bad_no.1 (hnb r hr); omega)
      have HX := (show Hid (∀ D, MapOf l D → x = if Maps.size D < l.length then 110 else 0) from fun D hD => by
        rw [hx]
        by_cases ho : Once l
        · rw [rightE_ok ⟨h1', hnb, ho⟩, if_neg (by have := hD.once.2 ho; omega)]
        · rw [rightE_twice h1' ho, if_pos (by have := hD.le; have : Maps.size D ≠ l.length := fun e => ho (hD.once.1 e); omega)])
      clear hx
      go_enter Try.func44, Try.ntmps44
      go_wp2_with (first | (go_at_call 50; refine c18.mono ?_; rintro e w1 ⟨rfl, b1⟩; have c20' := c20 _ w1 (hv.below b1)) | (go_at_call 52; refine c20'.mono ?_; rintro e w2 ⟨B, D, rfl, hB, hown, hM, b2⟩; have HM := (show Hid (MapOf l D) from hM); clear hM) | (at_len; refine wpList_len_own _ rfl _ 81 rfl 9 3 Try.underlying81 _ B l.length D rfl hown ?_))
      · rename_i hlt
        go_ret
        refine ⟨?_, chain b1 b2⟩
        rw [HX.out D HM.out, if_pos (by omega)]
        rfl
      · rename_i hlt
        go_ret
        refine ⟨?_, chain b1 b2⟩
        rw [HX.out D HM.out, if_neg (by omega)]
        rfl
    · rw [hb] at c18
      obtain rfl : x = 110 := by rw [hx, rightE_bad h1' hb]
      clear hx
      go_enter Try.func44, Try.ntmps44
      go_wp2_with (go_at_call 50; refine c18.mono ?_; rintro e w1 ⟨rfl, b1⟩)
      go_ret
      exact ⟨rfl, b1⟩

end Go.Proofs.Ythmecbonjkcnmaa.ru
