/-
  The law IsaGets: any bytes are read as just those instructions, or refused, as the document says.
-/
import Derived.Test.YtdekkjnlmlkbdaaDoorGg
namespace Go.Proofs.YtdekkjnlmlkbdaaDoor.is
open Go.Proofs.YtdekkjnlmlkbdaaDoor.num
open Go.ChangeShapes Go.WideShapes Go.ChangeAt Go.RowKit
set_option linter.unusedVariables false

set_option maxHeartbeats 2000000 in
set_option maxRecDepth 100000 in
theorem gets_law (s : ByteArray) (hs : s.size ≤ maxLen) (w : World) (hT : Tabs w) : Calls Tryd.prog 5 #[.string s] w fun e w' => e = .returned (.bool true) ∧ Below w.heap.size w w' := by
  clear hs
  by_cases hl : 20000 < s.size
  · go_enter Tryd.func5, Tryd.ntmps5
    go_wp2
    go_ret
    exact ⟨rfl, Below.refl _ _⟩
  · obtain ⟨L, e, hr⟩ : ∃ L e, rdA s.data.toList = (L, e) := ⟨_, _, rfl⟩
    have h1 := geta_any s (by omega) L e hr
    have h2 := rgeta_any s (by omega) L e hr
    have h3 : ∀ (va vb : Value) (W : World), InsAt W va L → InsAt W vb L → Calls Tryd.prog 17 #[va, vb] W fun x w' => x = .returned (.bool true) ∧ Below W.heap.size W w' := fun va vb W ha hb => by
      have := like_any L L va vb W ha hb
      rwa [likeB_self] at this
    clear hr
    unfold GetAIs at h1
    unfold RGetAIs at h2
    go_enter Tryd.func5, Tryd.ntmps5
    go_wp2_with (first | (go_at_call 15; refine (h1 _ hT).mono ?_; rintro x w1 ⟨va, rfl, ia, b1⟩) | (go_at_call 16; refine (h2 _).mono ?_; rintro x w2 ⟨vb, rfl, ib, b2⟩; have ia2 := ia.later b2) | (go_at_call 17; refine (h3 _ _ _ ia2 ib).mono ?_; rintro x w3 ⟨rfl, b3⟩))
    go_ret
    exact ⟨rfl, chain (chain b1 b2) b3⟩
end Go.Proofs.YtdekkjnlmlkbdaaDoor.is
