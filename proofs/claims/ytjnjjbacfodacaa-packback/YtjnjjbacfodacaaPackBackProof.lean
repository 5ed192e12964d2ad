/-
  For every list of sections the law PackBack of package fretsawlaw04 returns true (what is put is got again), and the argument reads as before. No condition.
-/
import Derived.Test.YtjnjjbacfodacaaRows
import Derived.Test.YtjnjjbacfodacaaPut
import Derived.Test.YtjnjjbacfodacaaGet
import Derived.Test.YtjnjjbacfodacaaArg
import Derived.SizedLaws
import Derived.WalkKit
import Derived.ProofKit
import Derived.OpenShut
import Derived.ShutString
import Derived.ChangeOld
import Derived.Below
namespace Go.Proofs.Ytjnjjbacfodacaa.packBack
open Go.ChangeShapes Go.WideShapes Go.ChangeAt Go.RowKit
open Go.ChangeMaps (open_string shut_string)
set_option linter.unusedVariables false

theorem own : ownKnob Try.prog.godebug = none := by kernel_rfl
theorem laidOut : laidOutB Try.prog = true := by kernel_rfl

theorem put_cases (l : List pk.Sec) (hl : ∀ x ∈ l, pk.Fits x) : (∃ e : Nat, e ≠ 0 ∧ pk.PutsIs l ⟨#[]⟩ e) ∨ ∃ t : ByteArray, pk.PutsIs l t 0 ∧ t.size ≤ 10000000 ∧ pk.GetsIs t l 0 := by
  by_cases h : 64 < l.length ∨ 8388608 < pk.total l
  · exact .inl ⟨2, by omega, pk.puts_any l hl _ _ (by unfold pk.putP; rw [if_pos h])⟩
  · by_cases hr : pk.rises none l = false
    · exact .inl ⟨1, by omega, pk.puts_any l hl _ _ (by unfold pk.putP; rw [if_neg h, if_pos hr])⟩
    · have hr2 : pk.rises none l = true := by simpa using hr
      have hz := pk.packed_size l
      have hsl := pk.secs_length l hl
      have hdl := num.digs_length l.length (by omega)
      have hcl : (pk.core l).length = 5 + ((num.digs l.length).length + (pk.secs l).length) := by
        unfold pk.core
        rw [List.length_append, List.length_append]
        rfl
      exact .inr ⟨pk.packed l, pk.puts_any l hl _ _ (by unfold pk.putP; rw [if_neg h, if_neg hr]), by omega, pk.gets_any _ (by omega) _ _ (pk.back l hl (by omega) (by omega) hr2)⟩

set_option maxHeartbeats 1000000 in
set_option maxRecDepth 100000 in
theorem walk (l : List pk.Sec) (hl : ∀ x ∈ l, pk.Fits x) (v : Value) (w : World) (hS : pk.Secs w v l) :
    Calls Try.prog 6 #[v] w fun e w' => e = .returned (.bool true) ∧ Below w.heap.size w w' := by
  have p9 := pk.size_any l _ rfl
  generalize pk.tw 0 l = z at p9
  by_cases h1 : 100000 < z
  · go_enter Try.func6, Try.ntmps6
    go_wp2_with (go_at_call 9; refine (p9 _ _ hS).mono ?_; rintro e w1 ⟨rfl, b1⟩)
    go_ret
    exact ⟨rfl, b1⟩
  · rcases put_cases l hl with ⟨e, he, p10⟩ | ⟨t, p10, hts, p12⟩
    · have hne : ((e : Int) != 0) = true := by rw [bne_iff_ne]; omega
      go_enter Try.func6, Try.ntmps6
      go_wp2_with (first | (go_at_call 9; refine (p9 _ _ hS).mono ?_; rintro e w1 ⟨rfl, b1⟩; have hS1 := hS.below b1) | (go_at_call 10; refine (p10 _ _ hS1).mono ?_; rintro e w2 ⟨rfl, b2⟩))
      go_ret
      exact ⟨rfl, pk.chain b1 b2⟩
    · have p14 := pk.like_any l
      go_enter Try.func6, Try.ntmps6
      go_wp2_with (first | (go_at_call 9; refine (p9 _ _ hS).mono ?_; rintro e w1 ⟨rfl, b1⟩; have hS1 := hS.below b1) | (go_at_call 10; refine (p10 _ _ hS1).mono ?_; rintro e w2 ⟨rfl, b2⟩; have hS2 := hS1.below b2) | (go_at_call 12; refine (p12 _).mono ?_; rintro e w3 ⟨m, rfl, m3, b3⟩; have hS3 := hS2.below b3) | (go_at_call 14; refine (p14 _ _ _ hS3 m3).mono ?_; rintro e w4 ⟨rfl, b4⟩))
      go_ret
      exact ⟨rfl, pk.chain (pk.chain (pk.chain b1 b2) b3) b4⟩


set_option maxRecDepth 100000 in
theorem lifted (os : Os) (started : os.Started) (H : Type) (enc : TypeId × Value → H) :
    ReturnsInHanded {} Try.checked os 6 .any (Rows.packBackSpec.pre6 enc Try.prog Try.f6 Rows.packBackRow.domain false) (Rows.packBackSpec.post enc Try.prog Try.f6 false true false false) := by
  refine returnsInHanded_of_change_sized (C := Try.checked) own started (by kernel_rfl) Try.func6
    (ChangeSpec.witness6 (enc := enc) (C := Try.checked) false ⟨#[], #[.slice none 0 0], []⟩ 8 (by kernel_rfl) (by kernel_rfl) (by kernel_rfl) (by kernel_rfl)) ?_
  intro W base args ds gs before hval0 hW hcnd hsz0 _
  have hsz : (DataW.weightsEach Try.prog (Try.f6.params.toList ++ Rows.packBackSpec.plain.varTypes Try.prog) (ds ++ gs)).all (· ≤ reachBytes) = true := hsz0
  have hval : ∀ (j : Nat) t v, Try.f6.params[j]? = some t → args[j]? = some v → Value.okWide Try.prog W .any base t v := hval0
  have hW' := hW
  obtain ⟨p, q, hA0, hV, rfl, hfz, hnd⟩ := hW
  have hA : DataW.TrodAll enc Try.prog W 0 (fun _ => true) true Try.f6.params.toList args.toList ds p := hA0
  rw [Try.params6] at hA hval hsz
  obtain ⟨v0, vs0, d0, ds0, p0, q0, hargs, rfl, rfl, h0, r0⟩ := trodAll_cons hA
  obtain ⟨rfl, rfl, rfl⟩ := trodAll_nil r0
  obtain rfl : args = #[v0] := by cases args; simp_all
  obtain ⟨rfl, rfl⟩ := trodVars_none hV
  obtain ⟨a0, len0, cap0, rfl⟩ := okWide_slice Try.underlying22 (hval 0 22 v0 rfl rfl)
  have k0 := h0
  have lt0 : ∀ x ∈ p0, x.block < W.heap.size := by obtain ⟨m, hm⟩ := k0; exact DataW.trod_lt m _ _ _ hm
  have hsz1 : (d0.weights Try.prog 22).all (· ≤ reachBytes) = true := List.all_eq_true.2 fun z hz => List.all_eq_true.1 hsz z (DataW.weights_mem_each (j := 0) (t := 22) (d := d0) rfl rfl z hz)
  obtain ⟨l, hS, hl⟩ := pk.secs_of h0 hsz1
  clear hA0 hval0
  refine (walk l hl _ W hS).mono fun e W' ⟨he, bel⟩ => ?_
  subst he
  exact ⟨_, rfl, _, _, _, [], _, [], hW', trodAll_mk1 (shut_bool Try.underlying4 _), (trodAll_cons_mk (Below.trod laidOut (by kernel_rfl) (of_decide_eq_true (by kernel_rfl)) k0 bel lt0) trodAll_mk0), rfl, bel.frame _, fun h => by cases h⟩

theorem over : Rows.packBackRow.holds Try.pinned (OpenSpec.ofChange Rows.packBackSpec) :=
  OpenClaim.holds_of_wide 6 Try.f6 rfl rfl rfl rfl rfl rfl rfl ⟨rfl, rfl, rfl, rfl, rfl⟩ rfl rfl rfl rfl rfl (by kernel_rfl) Try.func6 (by kernel_rfl)
    (of_decide_eq_true (by kernel_rfl)) (by unfold Func.isWrapper; first | (rw [if_pos (by decide +kernel)]; kernel_rfl) | (rw [if_neg (by decide +kernel)]; exact ⟨rfl, rfl⟩))
    (fun os started H enc _ => lifted os started H enc)

theorem proved : Rows.PackBackSaid :=
  over
#print axioms proved
end Go.Proofs.Ytjnjjbacfodacaa.packBack
