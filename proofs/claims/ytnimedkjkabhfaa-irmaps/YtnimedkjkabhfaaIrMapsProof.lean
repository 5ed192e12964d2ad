/-
  For every slice of stages and every text the law IrMaps of package fretsawlaw19 returns true (what a configuration's stages tell of a text is what they tell of it when the text's bytes are exchanged first and the map is each byte itself), and the arguments read as before. No condition.
-/
import Derived.Test.YtnimedkjkabhfaaKRm
import Derived.Test.YtnimedkjkabhfaaRows
import Derived.ProofKit
import Derived.ShutString
import Derived.Lib.QuietBelow
namespace Go.Proofs.Ytnimedkjkabhfaa.irMaps
open Go.ChangeShapes Go.WideShapes Go.ChangeAt Go.RowKit
open Go.ChangeMaps (open_string shut_string)
open ir (Sg Sp Sgs)
set_option linter.unusedVariables false

theorem own : ownKnob Try.prog.godebug = none := by kernel_rfl
theorem laidOut : laidOutB Try.prog = true := by kernel_rfl
theorem walk {o : Option Addr} {n cap : Nat} {s : ByteArray} {W : World} (hM : n = 3 → ∃ b off g0 g1 g2 p0 p1 p2, o = some ⟨b, off, none⟩ ∧ 3 ≤ cap ∧ cap ≤ 9223372036854775807 ∧ Sgs W b off g0 g1 g2 p0 p1 p2) (hs : s.size ≤ 140737488351232) : Calls Try.prog 4 #[.slice o n cap, .string s] W fun e w' => e = .returned (.bool true) ∧ Below W.heap.size W w' := by
  by_cases h : n = 3
  · obtain ⟨b, off, g0, g1, g2, p0, p1, p2, rfl, h1, h2, h3⟩ := hM h
    subst h
    cases hr : ir.rightS g0 g1 g2
    · exact ir.maps_no b off cap h1 h2 g0 g1 g2 p0 p1 p2 W h3 hr s hs
    · exact ir.maps_yes b off cap h1 h2 g0 g1 g2 p0 p1 p2 W h3 hr s hs
  · exact ir.maps_short o n cap s W h

set_option maxRecDepth 100000 in
theorem lifted (os : Os) (started : os.Started) (H : Type) (enc : TypeId × Value → H) :
    ReturnsInHanded {} Try.checked os 4 .any (Rows.irMapsSpec.pre6 enc Try.prog Try.f4 Rows.irMapsRow.domain false) (Rows.irMapsSpec.post enc Try.prog Try.f4 false true false false) := by
  refine returnsInHanded_of_change_sized (C := Try.checked) own started (by kernel_rfl) Try.func4
    (ChangeSpec.witness6 (enc := enc) (C := Try.checked) false ⟨#[], #[.slice none 0 0, .string ByteArray.empty], []⟩ 8 (by kernel_rfl) (by kernel_rfl) (by kernel_rfl) (by kernel_rfl)) ?_
  intro W base args ds gs before hval0 hW hcnd hsz0 _
  have hsz : (DataW.weightsEach Try.prog (Try.f4.params.toList ++ Rows.irMapsSpec.plain.varTypes Try.prog) (ds ++ gs)).all (· ≤ reachBytes) = true := hsz0
  have hval : ∀ (j : Nat) t v, Try.f4.params[j]? = some t → args[j]? = some v → Value.okWide Try.prog W .any base t v := hval0
  have hW' := hW
  obtain ⟨p, q, hA0, hV, rfl, hfz, hnd⟩ := hW
  have hA : DataW.TrodAll enc Try.prog W 0 (fun _ => true) true Try.f4.params.toList args.toList ds p := hA0
  rw [Try.params4] at hA hval hsz
  obtain ⟨v0, vs0, d0, ds0, p0, q0, hargs, rfl, rfl, h0, r0⟩ := trodAll_cons hA
  obtain ⟨v1, vs1, d1, ds1, p1, q1, rfl, rfl, rfl, h1, r1⟩ := trodAll_cons r0
  obtain ⟨rfl, rfl, rfl⟩ := trodAll_nil r1
  obtain rfl : args = #[v0, v1] := by cases args; simp_all
  obtain ⟨rfl, rfl⟩ := trodVars_none hV
  have k0 := h0
  have lt0 : ∀ x ∈ p0, x.block < W.heap.size := by obtain ⟨m, hm⟩ := k0; exact DataW.trod_lt m _ _ _ hm
  obtain ⟨o0, n0, cap0, rfl, F0⟩ := ir.open22 (hval 0 22 v0 rfl rfl) h0
  obtain ⟨a1, rfl, rfl, rfl, w1⟩ := open_string Try.underlying9 (hval 1 9 v1 rfl rfl) h1
  have F1 : a1.size ≤ 140737488351232 := by
    have := sized_string hsz (j := 1) (t := 9) rfl rfl
    simpa [reachBytes] using this
  clear hA0 hval0
  refine (walk (W := W) F0 F1).mono fun e W' ⟨he, bel⟩ => ?_
  subst he
  exact ⟨_, rfl, _, _, _, [], _, [], hW', trodAll_mk1 (shut_bool Try.underlying4 _), (trodAll_cons_mk (Below.trod laidOut (by kernel_rfl) (of_decide_eq_true (by kernel_rfl)) k0 bel lt0) (trodAll_cons_mk (shut_string Try.underlying9 w1) trodAll_mk0)), rfl, bel.frame _, fun h => by cases h⟩

theorem over : Rows.irMapsRow.holds Try.pinned (OpenSpec.ofChange Rows.irMapsSpec) :=
  OpenClaim.holds_of_wide 4 Try.f4 rfl rfl rfl rfl rfl rfl rfl ⟨rfl, rfl, rfl, rfl, rfl⟩ rfl rfl rfl rfl rfl (by kernel_rfl) Try.func4 (by kernel_rfl)
    (of_decide_eq_true (by kernel_rfl)) (by unfold Func.isWrapper; first | (rw [if_pos (by decide +kernel)]; kernel_rfl) | (rw [if_neg (by decide +kernel)]; exact ⟨rfl, rfl⟩))
    (fun os started H enc _ => lifted os started H enc)

theorem proved : Rows.IrMapsSaid :=
  over
#print axioms proved
end Go.Proofs.Ytnimedkjkabhfaa.irMaps
