/-
  For every list of sections, every place and every pattern the law PackTorn of package fretsawlaw04 returns true (a pack of which bits within 32 are turned is refused), and the arguments read as before. No condition.
-/
import Derived.Test.YtjnjjbacfodacaaRows
import Derived.Test.YtjnjjbacfodacaaRPut
import Derived.Test.YtjnjjbacfodacaaGet
import Derived.Test.YtjnjjbacfodacaaAlive
import Derived.Test.YtjnjjbacfodacaaArg
import Derived.SizedLaws
import Derived.WalkKit
import Derived.ProofKit
import Derived.OpenShut
import Derived.ShutString
import Derived.ChangeOld
import Derived.Below
namespace Go.Proofs.Ytjnjjbacfodacaa.packTorn
open Go.ChangeShapes Go.WideShapes Go.ChangeAt Go.RowKit
open Go.ChangeMaps (open_string shut_string)
set_option linter.unusedVariables false

theorem own : ownKnob Try.prog.godebug = none := by kernel_rfl
theorem laidOut : laidOutB Try.prog = true := by kernel_rfl

theorem from_nat (a : Int) (h1 : -9223372036854775808 ≤ a) (h2 : a < 9223372036854775808) : (∃ q : Nat, a = (q : Int) ∧ q < 9223372036854775808) ∨ (a < 0 ∧ ∃ q : Nat, -(a + 1) = (q : Int) ∧ q < 9223372036854775808) := by
  by_cases h : 0 ≤ a
  · obtain ⟨q, rfl⟩ := Int.eq_ofNat_of_zero_le h
    exact .inl ⟨q, rfl, by omega⟩
  · obtain ⟨q, hq⟩ := Int.eq_ofNat_of_zero_le (show 0 ≤ -(a + 1) by omega)
    exact .inr ⟨by omega, q, hq, by omega⟩

/-- what the walk needs of a list that is put, and of its pack with bits turned -/
theorem parts (l : List pk.Sec) (hl : ∀ x ∈ l, pk.Fits x) (p : Nat) (hp : p < 4294967296) : (∃ e : Nat, e ≠ 0 ∧ pk.PutsIs l ⟨#[]⟩ e) ∨ ∃ A : ByteArray, l.length ≤ 64 ∧ pk.PutsIs l A 0 ∧ 0 < A.size ∧ (pk.total l ≤ 20000 → A.size ≤ 30000 ∧
    ∀ q : Nat, q < 9223372036854775808 → ∃ (f e : Nat) (t : ByteArray) (ls : List pk.Sec), (q : Int) % (8 * (A.size : Int)) = (f : Int) ∧ crc.TurnedIs A f p t ∧ pk.GetsIs t ls e ∧ (¬ t = A → e = 41 ∨ e = 40)) := by
  by_cases h : 64 < l.length ∨ 8388608 < pk.total l
  · exact .inl ⟨2, by omega, pk.puts_any l hl _ _ (by unfold pk.putP; rw [if_pos h])⟩
  · by_cases hr : pk.rises none l = false
    · exact .inl ⟨1, by omega, pk.puts_any l hl _ _ (by unfold pk.putP; rw [if_neg h, if_pos hr])⟩
    · have hz := pk.packed_size l
      have hsl := pk.secs_length l hl
      have hdl := num.digs_length l.length (by omega)
      have hcl : (pk.core l).length = 5 + ((num.digs l.length).length + (pk.secs l).length) := by
        unfold pk.core
        rw [List.length_append, List.length_append]
        rfl
      refine .inr ⟨pk.packed l, by omega, pk.puts_any l hl _ _ (by unfold pk.putP; rw [if_neg h, if_neg hr]), by omega, fun ht => ⟨by omega, fun q hq => ?_⟩⟩
      have hf : q % (8 * (pk.packed l).size) < 8 * (pk.packed l).size := Nat.mod_lt _ (by omega)
      obtain ⟨t, h1, h2, h3⟩ := crc.turned_is (pk.packed l) (q % (8 * (pk.packed l).size)) p (by omega) (by omega) hp
      refine ⟨_, (pk.getP t).2, t, (pk.getP t).1, crc.rem_nat q _, h1, pk.gets_any t (by omega) _ _ rfl, fun hne => ?_⟩
      exact pk.torn l t _ p hp (Nat.le_of_lt hf) h2 h3 hne

set_option maxHeartbeats 2000000 in
set_option maxRecDepth 100000 in
theorem walk_one (v : Value) (l : List pk.Sec) (A : ByteArray) (hA0 : 0 < A.size) (hA3 : A.size ≤ 30000) (z : Nat) (hz : z ≤ 20000) (p9 : pk.SizeIs l (z : Int)) (p10 : pk.PutsIs l A 0) (a1 : Int) (q : Nat) (hq : (a1 = (q : Int)) ∨ (a1 < 0 ∧ -9223372036854775808 ≤ a1 ∧ -(a1 + 1) = (q : Int))) (hql : q < 9223372036854775808) (p f e : Nat) (t : ByteArray) (ls : List pk.Sec)
    (hrem : (q : Int) % (8 * (A.size : Int)) = (f : Int)) (p17 : crc.TurnedIs A f p t) (p12 : pk.GetsIs t ls e) (hne : ¬ t = A → e = 41 ∨ e = 40) (w : World) (hS : pk.Secs w v l) :
    Calls Try.prog 8 #[v, .int .i64 a1, .int .u32 p] w fun e w' => e = .returned (.bool true) ∧ Below w.heap.size w w' := by
  have p16 := crc.alive_any
  have hAn : (A.toList == []) = false := by
    rw [beq_eq_false_iff_ne]
    intro h
    rw [ByteArray.toList_eq] at h
    have := num.size_list A
    rw [h] at this
    simp at this
    omega
  have hor : (t.toList == A.toList) = true ∨ ((t.toList == A.toList) = false ∧ ((e : Int) == 41) = true) ∨ ((t.toList == A.toList) = false ∧ ((e : Int) == 41) = false ∧ ((e : Int) == 40) = true) := by
    by_cases h : t = A
    · subst h; exact .inl (by simp)
    · rcases hne h with rfl | rfl
      · exact .inr (.inl ⟨crc.unlike h, by simp⟩)
      · exact .inr (.inr ⟨crc.unlike h, by simp, by simp⟩)
  clear hne
  rcases hq with rfl | ⟨hneg, hmin, hq⟩
  · have hd2 : decide ((q : Int) < 0) = false := by simp
    rcases hor with h1 | ⟨h1, h2⟩ | ⟨h1, h2, h3⟩
    all_goals go_enter Try.func8, Try.ntmps8
    all_goals go_wp2_with (first | (go_at_call 16; refine (p16 _).mono ?_; rintro e w0 ⟨rfl, b0⟩; have hS0 := hS.below b0) | (go_at_call 9; refine (p9 _ _ hS0).mono ?_; rintro e w1 ⟨rfl, b1⟩; have hS1 := hS0.below b1) | (go_at_call 10; refine (p10 _ _ hS1).mono ?_; rintro e w2 ⟨rfl, b2⟩) | (go_at_call 17; refine (p17 _).mono ?_; rintro e w3 ⟨rfl, b3⟩) | (go_at_call 12; refine (p12 _).mono ?_; rintro e w4 ⟨m, rfl, m4, b4⟩))
    all_goals go_ret
    all_goals exact ⟨by simp_all, pk.chain (pk.chain (pk.chain (pk.chain b0 b1) b2) b3) b4⟩
  · rcases hor with h1 | ⟨h1, h2⟩ | ⟨h1, h2, h3⟩
    all_goals go_enter Try.func8, Try.ntmps8
    all_goals go_wp2_with (first | (go_at_call 16; refine (p16 _).mono ?_; rintro e w0 ⟨rfl, b0⟩; have hS0 := hS.below b0) | (go_at_call 9; refine (p9 _ _ hS0).mono ?_; rintro e w1 ⟨rfl, b1⟩; have hS1 := hS0.below b1) | (go_at_call 10; refine (p10 _ _ hS1).mono ?_; rintro e w2 ⟨rfl, b2⟩) | (go_at_call 17; refine (p17 _).mono ?_; rintro e w3 ⟨rfl, b3⟩) | (go_at_call 12; refine (p12 _).mono ?_; rintro e w4 ⟨m, rfl, m4, b4⟩))
    all_goals go_ret
    all_goals exact ⟨by simp_all, pk.chain (pk.chain (pk.chain (pk.chain b0 b1) b2) b3) b4⟩

set_option maxHeartbeats 1000000 in
set_option maxRecDepth 100000 in
theorem walk_long (v : Value) (l : List pk.Sec) (z : Int) (hz : 20000 < z) (p9 : pk.SizeIs l z) (a1 : Int) (p : Nat) (w : World) (hS : pk.Secs w v l) :
    Calls Try.prog 8 #[v, .int .i64 a1, .int .u32 p] w fun e w' => e = .returned (.bool true) ∧ Below w.heap.size w w' := by
  have p16 := crc.alive_any
  go_enter Try.func8, Try.ntmps8
  go_wp2_with (first | (go_at_call 16; refine (p16 _).mono ?_; rintro e w0 ⟨rfl, b0⟩; have hS0 := hS.below b0) | (go_at_call 9; refine (p9 _ _ hS0).mono ?_; rintro e w1 ⟨rfl, b1⟩))
  go_ret
  exact ⟨rfl, pk.chain b0 b1⟩
set_option maxHeartbeats 1000000 in
set_option maxRecDepth 100000 in
theorem walk_err (v : Value) (l : List pk.Sec) (z : Int) (hz : ¬ 20000 < z) (p9 : pk.SizeIs l z) (e : Nat) (he : e ≠ 0) (p10 : pk.PutsIs l ⟨#[]⟩ e) (a1 : Int) (p : Nat) (w : World) (hS : pk.Secs w v l) :
    Calls Try.prog 8 #[v, .int .i64 a1, .int .u32 p] w fun e w' => e = .returned (.bool true) ∧ Below w.heap.size w w' := by
  have p16 := crc.alive_any
  have hne : ((e : Int) != 0) = true := by rw [bne_iff_ne]; omega
  go_enter Try.func8, Try.ntmps8
  go_wp2_with (first | (go_at_call 16; refine (p16 _).mono ?_; rintro e w0 ⟨rfl, b0⟩; have hS0 := hS.below b0) | (go_at_call 9; refine (p9 _ _ hS0).mono ?_; rintro e w1 ⟨rfl, b1⟩; have hS1 := hS0.below b1) | (go_at_call 10; refine (p10 _ _ hS1).mono ?_; rintro e w2 ⟨rfl, b2⟩))
  go_ret
  exact ⟨rfl, pk.chain (pk.chain b0 b1) b2⟩

theorem walk (l : List pk.Sec) (hl : ∀ x ∈ l, pk.Fits x) (v : Value) (a1 a2 : Int) (w1 : (Lit.int .i64 a1).wf = true) (w2 : (Lit.int .u32 a2).wf = true) (w : World) (hS : pk.Secs w v l) :
    Calls Try.prog 8 #[v, .int .i64 a1, .int .u32 a2] w fun e w' => e = .returned (.bool true) ∧ Below w.heap.size w w' := by
  obtain ⟨h1, h1'⟩ := crc.i64_range w1
  obtain ⟨h2, h2'⟩ := crc.u32_range w2
  obtain ⟨p, rfl⟩ := Int.eq_ofNat_of_zero_le h2
  rcases parts l hl p (by omega) with ⟨e, he, p10⟩ | ⟨A, h64, p10, hA0, key⟩
  · by_cases hz : 20000 < pk.tw 0 l
    · exact walk_long v l _ hz (pk.size_any l _ rfl) a1 p w hS
    · exact walk_err v l _ hz (pk.size_any l _ rfl) e he p10 a1 p w hS
  · have hts := pk.total_small l hl
    have p9 := pk.size_small l _ rfl (by omega)
    by_cases hz : 20000 < pk.total l
    · exact walk_long v l _ (by omega) p9 a1 p w hS
    · obtain ⟨hA3, key⟩ := key (by omega)
      rcases from_nat a1 h1 h1' with ⟨q, hq, hql⟩ | ⟨hneg, q, hq, hql⟩
      · obtain ⟨f, e, t, ls, k1, k2, k3, k4⟩ := key q hql
        exact walk_one v l A hA0 hA3 _ (by omega) p9 p10 a1 q (.inl hq) hql p f e t ls k1 k2 k3 k4 w hS
      · obtain ⟨f, e, t, ls, k1, k2, k3, k4⟩ := key q hql
        exact walk_one v l A hA0 hA3 _ (by omega) p9 p10 a1 q (.inr ⟨hneg, h1, hq⟩) hql p f e t ls k1 k2 k3 k4 w hS


set_option maxRecDepth 100000 in
theorem lifted (os : Os) (started : os.Started) (H : Type) (enc : TypeId × Value → H) :
    ReturnsInHanded {} Try.checked os 8 .any (Rows.packTornSpec.pre6 enc Try.prog Try.f8 Rows.packTornRow.domain false) (Rows.packTornSpec.post enc Try.prog Try.f8 false true false false) := by
  refine returnsInHanded_of_change_sized (C := Try.checked) own started (by kernel_rfl) Try.func8
    (ChangeSpec.witness6 (enc := enc) (C := Try.checked) false ⟨#[], #[.slice none 0 0, .int .i64 0, .int .u32 0], []⟩ 8 (by kernel_rfl) (by kernel_rfl) (by kernel_rfl) (by kernel_rfl)) ?_
  intro W base args ds gs before hval0 hW hcnd hsz0 _
  have hsz : (DataW.weightsEach Try.prog (Try.f8.params.toList ++ Rows.packTornSpec.plain.varTypes Try.prog) (ds ++ gs)).all (· ≤ reachBytes) = true := hsz0
  have hval : ∀ (j : Nat) t v, Try.f8.params[j]? = some t → args[j]? = some v → Value.okWide Try.prog W .any base t v := hval0
  have hW' := hW
  obtain ⟨p, q, hA0, hV, rfl, hfz, hnd⟩ := hW
  have hA : DataW.TrodAll enc Try.prog W 0 (fun _ => true) true Try.f8.params.toList args.toList ds p := hA0
  rw [Try.params8] at hA hval hsz
  obtain ⟨v0, vs0, d0, ds0, p0, q0, hargs, rfl, rfl, h0, r0⟩ := trodAll_cons hA
  obtain ⟨v1, vs1, d1, ds1, p1, q1, rfl, rfl, rfl, h1, r1⟩ := trodAll_cons r0
  obtain ⟨v2, vs2, d2, ds2, p2, q2, rfl, rfl, rfl, h2, r2⟩ := trodAll_cons r1
  obtain ⟨rfl, rfl, rfl⟩ := trodAll_nil r2
  obtain rfl : args = #[v0, v1, v2] := by cases args; simp_all
  obtain ⟨rfl, rfl⟩ := trodVars_none hV
  obtain ⟨a0, len0, cap0, rfl⟩ := okWide_slice Try.underlying22 (hval 0 22 v0 rfl rfl)
  have k0 := h0
  have lt0 : ∀ x ∈ p0, x.block < W.heap.size := by obtain ⟨m, hm⟩ := k0; exact DataW.trod_lt m _ _ _ hm
  have hsz1 : (d0.weights Try.prog 22).all (· ≤ reachBytes) = true := List.all_eq_true.2 fun z hz => List.all_eq_true.1 hsz z (DataW.weights_mem_each (j := 0) (t := 22) (d := d0) rfl rfl z hz)
  obtain ⟨l, hS, hl⟩ := pk.secs_of h0 hsz1
  obtain ⟨a1, rfl, rfl, rfl, w1⟩ := open_int Try.underlying3 (hval 1 3 v1 rfl rfl) h1
  obtain ⟨a2, rfl, rfl, rfl, w2⟩ := open_int Try.underlying34 (hval 2 34 v2 rfl rfl) h2
  clear hA0 hval0
  refine (walk l hl _ a1 a2 w1 w2 W hS).mono fun e W' ⟨he, bel⟩ => ?_
  subst he
  exact ⟨_, rfl, _, _, _, [], _, [], hW', trodAll_mk1 (shut_bool Try.underlying4 _), (trodAll_cons_mk (Below.trod laidOut (by kernel_rfl) (of_decide_eq_true (by kernel_rfl)) k0 bel lt0) (trodAll_cons_mk (shut_int Try.underlying3 w1) (trodAll_cons_mk (shut_int Try.underlying34 w2) trodAll_mk0))), rfl, bel.frame _, fun h => by cases h⟩

theorem over : Rows.packTornRow.holds Try.pinned (OpenSpec.ofChange Rows.packTornSpec) :=
  OpenClaim.holds_of_wide 8 Try.f8 rfl rfl rfl rfl rfl rfl rfl ⟨rfl, rfl, rfl, rfl, rfl⟩ rfl rfl rfl rfl rfl (by kernel_rfl) Try.func8 (by kernel_rfl)
    (of_decide_eq_true (by kernel_rfl)) (by unfold Func.isWrapper; first | (rw [if_pos (by decide +kernel)]; kernel_rfl) | (rw [if_neg (by decide +kernel)]; exact ⟨rfl, rfl⟩))
    (fun os started H enc _ => lifted os started H enc)

theorem proved : Rows.PackTornSaid :=
  over
#print axioms proved
end Go.Proofs.Ytjnjjbacfodacaa.packTorn
