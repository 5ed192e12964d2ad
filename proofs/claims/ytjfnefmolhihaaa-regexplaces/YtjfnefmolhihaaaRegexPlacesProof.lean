/-
  For every two texts the law RegexPlaces of package fretsawlaw06 returns true (what stands behind the byte that can't stand where it stands changes nothing), and the arguments read as before. No condition.
-/
import Derived.Test.YtjfnefmolhihaaaRows
import Derived.Test.YtjfnefmolhihaaaAl
import Derived.Test.YtjfnefmolhihaaaLc
import Derived.SizedLaws
import Derived.WalkKit
import Derived.ProofKit
import Derived.OpenShut
import Derived.ShutString
namespace Go.Proofs.Ytjfnefmolhihaaa.regexPlaces
open Go.ChangeShapes Go.WideShapes Go.ChangeAt Go.RowKit
open Go.ChangeMaps (open_string shut_string)
set_option linter.unusedVariables false

theorem own : ownKnob Try.prog.godebug = none := by kernel_rfl

set_option maxHeartbeats 4000000 in
set_option maxRecDepth 100000 in
theorem no (s more : ByteArray) (t : st.Tr) (er q : Nat) (c1 : st.ParseIs s t er q) (he : er ≠ 60) (w : World) :
    Calls Try.prog 5 #[.string s, .string more] w fun e w' => e = .returned (.bool true) ∧ RowKit.Below w.heap.size w w' := by
  have f1 : ((er : Int) == 60) = false := by rw [beq_eq_false_iff_ne]; omega
  unfold st.ParseIs at c1
  go_enter Try.func5, Try.ntmps5
  go_wp2_with (first | (go_at_call 11; refine (st.alive_any _).mono ?_; rintro e w0 ⟨rfl, b0⟩) | (go_at_call 6; (with_reducible refine (c1 _).mono ?_); rintro e w1 ⟨v, rfl, i1, b1⟩; obtain ⟨va, vn, vc, rfl⟩ := i1.shape))
  go_ret
  exact ⟨rfl, (st.chain b0 b1).trans ((st.below_alloc _ _).mono (st.chain b0 b1).size)⟩

theorem two {w w0 w1 w2 : World} {o o2 : Obj} (b0 : RowKit.Below w.heap.size w w0) (b1 : RowKit.Below w0.heap.size w0 w1) (b2 : RowKit.Below (w1.alloc o).heap.size (w1.alloc o) w2) : RowKit.Below w.heap.size w (w2.alloc o2) :=
  st.chain (st.chain (st.chain (st.chain b0 b1) (st.below_alloc _ _)) b2) (st.below_alloc _ _)

set_option maxHeartbeats 4000000 in
set_option maxRecDepth 100000 in
theorem short (s more : ByteArray) (t : st.Tr) (q : Nat) (c1 : st.ParseIs s t 60 q) (hq : s.size ≤ q) (w : World) :
    Calls Try.prog 5 #[.string s, .string more] w fun e w' => e = .returned (.bool true) ∧ RowKit.Below w.heap.size w w' := by
  have f1 : decide (s.size ≤ q) = true := by simpa using hq
  unfold st.ParseIs at c1
  go_enter Try.func5, Try.ntmps5
  go_wp2_with (first | (go_at_call 11; refine (st.alive_any _).mono ?_; rintro e w0 ⟨rfl, b0⟩) | (go_at_call 6; (with_reducible refine (c1 _).mono ?_); rintro e w1 ⟨v, rfl, i1, b1⟩; obtain ⟨va, vn, vc, rfl⟩ := i1.shape))
  go_ret
  exact ⟨rfl, st.chain (st.chain b0 b1) (st.below_alloc _ _)⟩

set_option maxHeartbeats 4000000 in
set_option maxRecDepth 100000 in
theorem long (s more u : ByteArray) (t t2 : st.Tr) (q : Nat) (hs : s.size ≤ 140737488351232) (hm : more.size ≤ 140737488351232) (c1 : st.ParseIs s t 60 q) (hq : q < s.size) (hu : s.extract 0 (q + 1) ++ more = u) (c2 : st.ParseIs u t2 2 0) (hl : 512 < u.size) (w : World) :
    Calls Try.prog 5 #[.string s, .string more] w fun e w' => e = .returned (.bool true) ∧ RowKit.Below w.heap.size w w' := by
  have f1 : decide (s.size ≤ q) = false := by simpa using hq
  have f2 : decide (512 < u.size) = true := by simpa using hl
  have hx : ¬ 9223372036854775807 < (s.extract 0 (q + 1)).size + more.size := by rw [ByteArray.size_extract]; omega
  unfold st.ParseIs at c1 c2
  go_enter Try.func5, Try.ntmps5
  go_wp2_with (first | (go_at_call 11; refine (st.alive_any _).mono ?_; rintro e w0 ⟨rfl, b0⟩) | (go_at_call 6; (with_reducible refine (c1 _).mono ?_); rintro e w1 ⟨v, rfl, i1, b1⟩; obtain ⟨va, vn, vc, rfl⟩ := i1.shape) | (go_at_call 6; (with_reducible refine (c2 _).mono ?_); rintro e w2 ⟨v2, rfl, i2, b2⟩; obtain ⟨va2, vn2, vc2, rfl⟩ := i2.shape))
  all_goals go_ret
  all_goals exact ⟨rfl, two b0 b1 b2⟩

set_option maxHeartbeats 4000000 in
set_option maxRecDepth 100000 in
theorem same (s more u : ByteArray) (t t2 : st.Tr) (q er q2 : Nat) (hs : s.size ≤ 140737488351232) (hm : more.size ≤ 140737488351232) (c1 : st.ParseIs s t 60 q) (hq : q < s.size) (hu : s.extract 0 (q + 1) ++ more = u) (c2 : st.ParseIs u t2 60 q) (hl : ¬ 512 < u.size) (w : World) :
    Calls Try.prog 5 #[.string s, .string more] w fun e w' => e = .returned (.bool true) ∧ RowKit.Below w.heap.size w w' := by
  have f1 : decide (s.size ≤ q) = false := by simpa using hq
  have f2 : decide (512 < u.size) = false := by simpa using hl
  have hx : ¬ 9223372036854775807 < (s.extract 0 (q + 1)).size + more.size := by rw [ByteArray.size_extract]; omega
  unfold st.ParseIs at c1 c2
  go_enter Try.func5, Try.ntmps5
  go_wp2_with (first | (go_at_call 11; refine (st.alive_any _).mono ?_; rintro e w0 ⟨rfl, b0⟩) | (go_at_call 6; (with_reducible refine (c1 _).mono ?_); rintro e w1 ⟨v, rfl, i1, b1⟩; obtain ⟨va, vn, vc, rfl⟩ := i1.shape) | (go_at_call 6; (with_reducible refine (c2 _).mono ?_); rintro e w2 ⟨v2, rfl, i2, b2⟩; obtain ⟨va2, vn2, vc2, rfl⟩ := i2.shape))
  all_goals go_ret
  all_goals exact ⟨rfl, two b0 b1 b2⟩

set_option maxHeartbeats 4000000 in
set_option maxRecDepth 100000 in
theorem digit1 (s more u : ByteArray) (t t2 : st.Tr) (q er q2 : Nat) (hs : s.size ≤ 140737488351232) (hm : more.size ≤ 140737488351232) (c1 : st.ParseIs s t 60 q) (hq : q < s.size) (hu : s.extract 0 (q + 1) ++ more = u) (c2 : st.ParseIs u t2 er q2) (hl : ¬ 512 < u.size) (he : er ≠ 60) (hc : 48 ≤ s[q].toNat ∧ s[q].toNat ≤ 57) (w : World) :
    Calls Try.prog 5 #[.string s, .string more] w fun e w' => e = .returned (.bool true) ∧ RowKit.Below w.heap.size w w' := by
  have f1 : decide (s.size ≤ q) = false := by simpa using hq
  have f2 : decide (512 < u.size) = false := by simpa using hl
  have hx : ¬ 9223372036854775807 < (s.extract 0 (q + 1)).size + more.size := by rw [ByteArray.size_extract]; omega
  have e1 : ((er : Int) == 60) = false := by rw [beq_eq_false_iff_ne]; omega
  have g1 : decide (48 ≤ s[q].toNat) = true := by simpa using hc.1
  have g2 : decide (s[q].toNat ≤ 57) = true := by simpa using hc.2
  unfold st.ParseIs at c1 c2
  go_enter Try.func5, Try.ntmps5
  go_wp2_with (first | (go_at_call 11; refine (st.alive_any _).mono ?_; rintro e w0 ⟨rfl, b0⟩) | (go_at_call 6; (with_reducible refine (c1 _).mono ?_); rintro e w1 ⟨v, rfl, i1, b1⟩; obtain ⟨va, vn, vc, rfl⟩ := i1.shape) | (go_at_call 6; (with_reducible refine (c2 _).mono ?_); rintro e w2 ⟨v2, rfl, i2, b2⟩; obtain ⟨va2, vn2, vc2, rfl⟩ := i2.shape))
  all_goals go_ret
  all_goals exact ⟨rfl, two b0 b1 b2⟩

set_option maxHeartbeats 4000000 in
set_option maxRecDepth 100000 in
theorem digit2 (s more u : ByteArray) (t t2 : st.Tr) (q er q2 : Nat) (hs : s.size ≤ 140737488351232) (hm : more.size ≤ 140737488351232) (c1 : st.ParseIs s t 60 q) (hq : q < s.size) (hu : s.extract 0 (q + 1) ++ more = u) (c2 : st.ParseIs u t2 60 q2) (hl : ¬ 512 < u.size) (he : q2 ≠ q) (hc : 48 ≤ s[q].toNat ∧ s[q].toNat ≤ 57) (w : World) :
    Calls Try.prog 5 #[.string s, .string more] w fun e w' => e = .returned (.bool true) ∧ RowKit.Below w.heap.size w w' := by
  have f1 : decide (s.size ≤ q) = false := by simpa using hq
  have f2 : decide (512 < u.size) = false := by simpa using hl
  have hx : ¬ 9223372036854775807 < (s.extract 0 (q + 1)).size + more.size := by rw [ByteArray.size_extract]; omega
  have e1 : ((q2 : Int) == (q : Int)) = false := by rw [beq_eq_false_iff_ne]; omega
  have g1 : decide (48 ≤ s[q].toNat) = true := by simpa using hc.1
  have g2 : decide (s[q].toNat ≤ 57) = true := by simpa using hc.2
  unfold st.ParseIs at c1 c2
  go_enter Try.func5, Try.ntmps5
  go_wp2_with (first | (go_at_call 11; refine (st.alive_any _).mono ?_; rintro e w0 ⟨rfl, b0⟩) | (go_at_call 6; (with_reducible refine (c1 _).mono ?_); rintro e w1 ⟨v, rfl, i1, b1⟩; obtain ⟨va, vn, vc, rfl⟩ := i1.shape) | (go_at_call 6; (with_reducible refine (c2 _).mono ?_); rintro e w2 ⟨v2, rfl, i2, b2⟩; obtain ⟨va2, vn2, vc2, rfl⟩ := i2.shape))
  all_goals go_ret
  all_goals exact ⟨rfl, two b0 b1 b2⟩

set_option maxHeartbeats 4000000 in
set_option maxRecDepth 100000 in
theorem slash1 (s more u : ByteArray) (t t2 : st.Tr) (q er q2 : Nat) (hs : s.size ≤ 140737488351232) (hm : more.size ≤ 140737488351232) (c1 : st.ParseIs s t 60 q) (hq : q < s.size) (hu : s.extract 0 (q + 1) ++ more = u) (c2 : st.ParseIs u t2 er q2) (hl : ¬ 512 < u.size) (he : er ≠ 60) (hc : s[q].toNat = 92) (w : World) :
    Calls Try.prog 5 #[.string s, .string more] w fun e w' => e = .returned (.bool true) ∧ RowKit.Below w.heap.size w w' := by
  have f1 : decide (s.size ≤ q) = false := by simpa using hq
  have f2 : decide (512 < u.size) = false := by simpa using hl
  have hx : ¬ 9223372036854775807 < (s.extract 0 (q + 1)).size + more.size := by rw [ByteArray.size_extract]; omega
  have e1 : ((er : Int) == 60) = false := by rw [beq_eq_false_iff_ne]; omega
  have g1 : decide (48 ≤ s[q].toNat) = true := by simp [hc]
  have g2 : decide (s[q].toNat ≤ 57) = false := by simp [hc]
  have g3 : ((s[q].toNat : Int) == 92) = true := by simp [hc]
  clear hc
  unfold st.ParseIs at c1 c2
  go_enter Try.func5, Try.ntmps5
  go_wp2_with (first | (go_at_call 11; refine (st.alive_any _).mono ?_; rintro e w0 ⟨rfl, b0⟩) | (go_at_call 6; (with_reducible refine (c1 _).mono ?_); rintro e w1 ⟨v, rfl, i1, b1⟩; obtain ⟨va, vn, vc, rfl⟩ := i1.shape) | (go_at_call 6; (with_reducible refine (c2 _).mono ?_); rintro e w2 ⟨v2, rfl, i2, b2⟩; obtain ⟨va2, vn2, vc2, rfl⟩ := i2.shape))
  all_goals go_ret
  all_goals exact ⟨rfl, two b0 b1 b2⟩

set_option maxHeartbeats 4000000 in
set_option maxRecDepth 100000 in
theorem slash2 (s more u : ByteArray) (t t2 : st.Tr) (q er q2 : Nat) (hs : s.size ≤ 140737488351232) (hm : more.size ≤ 140737488351232) (c1 : st.ParseIs s t 60 q) (hq : q < s.size) (hu : s.extract 0 (q + 1) ++ more = u) (c2 : st.ParseIs u t2 60 q2) (hl : ¬ 512 < u.size) (he : q2 ≠ q) (hc : s[q].toNat = 92) (w : World) :
    Calls Try.prog 5 #[.string s, .string more] w fun e w' => e = .returned (.bool true) ∧ RowKit.Below w.heap.size w w' := by
  have f1 : decide (s.size ≤ q) = false := by simpa using hq
  have f2 : decide (512 < u.size) = false := by simpa using hl
  have hx : ¬ 9223372036854775807 < (s.extract 0 (q + 1)).size + more.size := by rw [ByteArray.size_extract]; omega
  have e1 : ((q2 : Int) == (q : Int)) = false := by rw [beq_eq_false_iff_ne]; omega
  have g1 : decide (48 ≤ s[q].toNat) = true := by simp [hc]
  have g2 : decide (s[q].toNat ≤ 57) = false := by simp [hc]
  have g3 : ((s[q].toNat : Int) == 92) = true := by simp [hc]
  clear hc
  unfold st.ParseIs at c1 c2
  go_enter Try.func5, Try.ntmps5
  go_wp2_with (first | (go_at_call 11; refine (st.alive_any _).mono ?_; rintro e w0 ⟨rfl, b0⟩) | (go_at_call 6; (with_reducible refine (c1 _).mono ?_); rintro e w1 ⟨v, rfl, i1, b1⟩; obtain ⟨va, vn, vc, rfl⟩ := i1.shape) | (go_at_call 6; (with_reducible refine (c2 _).mono ?_); rintro e w2 ⟨v2, rfl, i2, b2⟩; obtain ⟨va2, vn2, vc2, rfl⟩ := i2.shape))
  all_goals go_ret
  all_goals exact ⟨rfl, two b0 b1 b2⟩

theorem codes_at (s : ByteArray) (q : Nat) (h : q < s.size) : (st.codes s).getD q 0 = s[q].toNat := by
  have h1 : st.suf s q = s[q].toNat :: st.suf s (q + 1) := st.suf_in s q h
  unfold st.suf at h1
  have h2 := congrArg (fun l => l.head?) h1
  simp only [List.head?_drop, List.head?_cons] at h2
  simp [List.getD, h2]
theorem of_not_plain {c : Nat} (h : ¬ st.plainB c) : (48 ≤ c ∧ c ≤ 57) ∨ c = 92 := by
  unfold st.plainB at h
  by_cases h1 : c ∈ st.digits
  · exact .inl (st.digits_range c h1)
  · exact .inr (Classical.byContradiction fun h2 => h ⟨h1, h2⟩)
theorem walk (s more : ByteArray) (hs : s.size ≤ 140737488351232) (hm : more.size ≤ 140737488351232) (w : World) :
    Calls Try.prog 5 #[.string s, .string more] w fun e w' => e = .returned (.bool true) ∧ RowKit.Below w.heap.size w w' := by
  have c1 := st.parse_any s (by omega)
  have key := @st.parse_place (st.codes s)
  rcases hp : st.parse (st.codes s) with ⟨t, er, q⟩
  rw [hp] at c1 key
  simp only at c1 key
  by_cases he : er = 60
  · subst he
    by_cases hq : q < s.size
    · obtain ⟨u, hu⟩ : ∃ u, s.extract 0 (q + 1) ++ more = u := ⟨_, rfl⟩
      have hus : u.size = q + 1 + more.size := by rw [← hu, ByteArray.size_append, ByteArray.size_extract]; omega
      have hcu : st.codes u = (st.codes s).take (q + 1) ++ st.codes more := by rw [← hu, sp.codes_append, st.codes_extract]
      have c2 := st.parse_any u (by omega)
      by_cases hl : 512 < u.size
      · have h2 := st.parse_long (l := st.codes u) (by rw [st.codes_length]; exact hl)
        rw [h2] at c2
        exact long s more u t _ q hs hm c1 hq hu c2 hl w
      · by_cases hc : st.plainB s[q].toNat
        · have h2 := key rfl (by rw [st.codes_length]; exact hq) (st.codes more) (by rw [codes_at s q hq]; exact hc) (by rw [st.codes_length]; omega)
          rw [← hcu] at h2
          rw [h2] at c2
          exact same s more u t _ q 0 0 hs hm c1 hq hu c2 hl w
        · clear key
          rcases hp2 : st.parse (st.codes u) with ⟨t2, er2, q2⟩
          rw [hp2] at c2
          simp only at c2
          by_cases he2 : er2 = 60
          · subst he2
            by_cases hq2 : q2 = q
            · subst hq2
              exact same s more u t _ q2 0 0 hs hm c1 hq hu c2 hl w
            · rcases of_not_plain hc with h | h
              · exact digit2 s more u t t2 q 0 q2 hs hm c1 hq hu c2 hl hq2 h w
              · exact slash2 s more u t t2 q 0 q2 hs hm c1 hq hu c2 hl hq2 h w
          · rcases of_not_plain hc with h | h
            · exact digit1 s more u t t2 q er2 q2 hs hm c1 hq hu c2 hl he2 h w
            · exact slash1 s more u t t2 q er2 q2 hs hm c1 hq hu c2 hl he2 h w
    · exact short s more t q c1 (by omega) w
  · exact no s more t er q c1 he w

set_option maxRecDepth 100000 in
theorem lifted (os : Os) (started : os.Started) (H : Type) (enc : TypeId × Value → H) :
    ReturnsInHanded {} Try.checked os 5 .any (Rows.regexPlacesSpec.pre6 enc Try.prog Try.f5 Rows.regexPlacesRow.domain false) (Rows.regexPlacesSpec.post enc Try.prog Try.f5 false true false false) := by
  refine returnsInHanded_of_change_sized (C := Try.checked) own started (by kernel_rfl) Try.func5
    (ChangeSpec.witness6 (enc := enc) (C := Try.checked) false ⟨#[], #[.string ByteArray.empty, .string ByteArray.empty], []⟩ 8 (by kernel_rfl) (by kernel_rfl) (by kernel_rfl) (by kernel_rfl)) ?_
  intro W base args ds gs before hval0 hW hcnd hsz0 _
  have hsz : (DataW.weightsEach Try.prog (Try.f5.params.toList ++ Rows.regexPlacesSpec.plain.varTypes Try.prog) (ds ++ gs)).all (· ≤ reachBytes) = true := hsz0
  have hval : ∀ (j : Nat) t v, Try.f5.params[j]? = some t → args[j]? = some v → Value.okWide Try.prog W .any base t v := hval0
  have hW' := hW
  obtain ⟨p, q, hA0, hV, rfl, hfz, hnd⟩ := hW
  have hA : DataW.TrodAll enc Try.prog W 0 (fun _ => true) true Try.f5.params.toList args.toList ds p := hA0
  rw [Try.params5] at hA hval hsz
  obtain ⟨v0, vs0, d0, ds0, p0, q0, hargs, rfl, rfl, h0, r0⟩ := trodAll_cons hA
  obtain ⟨v1, vs1, d1, ds1, p1, q1, rfl, rfl, rfl, h1, r1⟩ := trodAll_cons r0
  obtain ⟨rfl, rfl, rfl⟩ := trodAll_nil r1
  obtain rfl : args = #[v0, v1] := by cases args; simp_all
  obtain ⟨rfl, rfl⟩ := trodVars_none hV
  obtain ⟨a0, rfl, rfl, rfl, w0⟩ := open_string Try.underlying9 (hval 0 9 v0 rfl rfl) h0
  obtain ⟨a1, rfl, rfl, rfl, w1⟩ := open_string Try.underlying9 (hval 1 9 v1 rfl rfl) h1
  clear hA0 hval0
  have z0 : a0.size ≤ 140737488351232 := by
    have := sized_string hsz (j := 0) (t := 9) rfl rfl
    simpa [reachBytes] using this
  have z1 : a1.size ≤ 140737488351232 := by
    have := sized_string hsz (j := 1) (t := 9) rfl rfl
    simpa [reachBytes] using this
  refine (walk a0 a1 z0 z1 W).mono fun e W' ⟨he, bel⟩ => ?_
  subst he
  exact ⟨_, rfl, _, _, _, [], [], [], hW', trodAll_mk1 (shut_bool Try.underlying4 _), (trodAll_cons_mk (shut_string Try.underlying9 w0) (trodAll_cons_mk (shut_string Try.underlying9 w1) trodAll_mk0)), rfl, bel.frame _, fun h => by cases h⟩

theorem over : Rows.regexPlacesRow.holds Try.pinned (OpenSpec.ofChange Rows.regexPlacesSpec) :=
  OpenClaim.holds_of_wide 5 Try.f5 rfl rfl rfl rfl rfl rfl rfl ⟨rfl, rfl, rfl, rfl, rfl⟩ rfl rfl rfl rfl rfl (by kernel_rfl) Try.func5 (by kernel_rfl)
    (of_decide_eq_true (by kernel_rfl)) (by unfold Func.isWrapper; first | (rw [if_pos (by decide +kernel)]; kernel_rfl) | (rw [if_neg (by decide +kernel)]; exact ⟨rfl, rfl⟩))
    (fun os started H enc _ => lifted os started H enc)

theorem proved : Rows.RegexPlacesSaid :=
  over
#print axioms proved
end Go.Proofs.Ytjfnefmolhihaaa.regexPlaces
