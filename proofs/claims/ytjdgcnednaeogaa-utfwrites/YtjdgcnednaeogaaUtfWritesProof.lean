/-
  For every number of kind int the law UtfWrites of package fretsawlaw01 returns true (utf.Put writes what the document says, and that is taken as that character again), and the argument reads as before. No condition.
-/
import Derived.Test.YtjdgcnednaeogaaRows
import Derived.Test.YtjdgcnednaeogaaLooks
import Derived.WalkKit
import Derived.ProofKit
import Derived.OpenShut
import Derived.ShutString
namespace Go.Proofs.Ytjdgcnednaeogaa
open Go.ChangeShapes Go.WideShapes Go.ChangeAt Go.RowKit
namespace utfWrites
open Go.ChangeMaps (open_string shut_string)
set_option linter.unusedVariables false

theorem own : ownKnob Try.prog.godebug = none := by kernel_rfl

end utfWrites
namespace chars
def UPutIs (c : Int) (t : ByteArray) : Prop := ∀ w, Calls Try.prog 17 #[.int .i64 c] w fun e w' => e = .returned (.string t) ∧ w' = w
def ValidIs (t : ByteArray) (b : Bool) : Prop := ∀ w, Calls Try.prog 11 #[.string t] w fun e w' => e = .returned (.bool b) ∧ Below w.heap.size w w'
theorem uput_is (c : Int) (h : isC c = true) (t : ByteArray) (ht : enc c = t.data.toList) : UPutIs c t := fun w => by
  have := put_any c w
  have e : str (put c) = .string t := by
    unfold str put
    rw [if_pos h, ht]
  rwa [e] at this
theorem uput_no (c : Int) (h : isC c = false) : UPutIs c ByteArray.empty := fun w => by
  have := put_any c w
  have e : str (put c) = .string ByteArray.empty := by
    unfold str put
    rw [if_neg (by rw [h]; decide)]
    rfl
  rwa [e] at this
theorem put_no (c : Int) (h : isC c = false) : PutIs c ByteArray.empty := fun w => by
  have := rput_any c w
  have e : str (put c) = .string ByteArray.empty := by
    unfold str put
    rw [if_neg (by rw [h]; decide)]
    rfl
  rwa [e] at this
end chars
namespace utfWrites
theorem walk (a0 : Int) (w0 : (Lit.int .i64 a0).wf = true) (w : World) :
    Calls Try.prog 5 #[.int .i64 a0] w fun e w' => e = .returned (.bool true) ∧ Below w.heap.size w w' := by
  by_cases hc : chars.isC a0 = true
  · obtain ⟨c, rfl⟩ := Int.eq_ofNat_of_zero_le ((chars.isC_iff a0).1 hc).1
    obtain ⟨t, ht⟩ : ∃ t : ByteArray, t.data.toList = chars.enc c := ⟨⟨(chars.enc c).toArray⟩, by simp⟩
    have hl := chars.enc_length c
    have hsz : t.size = (chars.enc c).length := by rw [← ht]; simp
    have p17 := chars.uput_is c hc t ht.symm
    have p18 := chars.put_is c hc t ht.symm
    have hd := chars.dec_enc c hc []
    rw [List.append_nil, Int.toNat_natCast, ← hsz] at hd
    have hg := chars.enc_good c
    rw [← hsz] at hg
    have h9 : chars.NextIs t 0 c t.size true := fun w => by
      have := chars.next_any t 0 w (by omega) (by omega)
      rw [List.drop_zero, ht, hd] at this
      simp only [hg] at this
      exact this
    have hv : chars.ValidIs t true := fun w => by
      have := chars.valid_any t w (by omega)
      rw [ht] at this
      have e : chars.valid (chars.enc c) = true := by
        rw [chars.valid_step _ (chars.enc_ne _), hd, hg, hsz, List.drop_length]
        rfl
      rwa [e] at this
    have hpos : 1 ≤ t.size := by omega
    have hne : (t.toList == []) = false := by
      rw [beq_eq_false_iff_ne, chars.bytes_list, ht]
      exact chars.enc_ne _
    have hem : t.toList.isEmpty = false := by
      rw [chars.bytes_list, ht, List.isEmpty_eq_false_iff]
      exact chars.enc_ne _
    have hle : t.size ≤ 4 := by omega
    clear hd hg hsz hl ht hc
    go_enter Try.func5, Try.ntmps5
    go_wp2_with (first | (go_at_call 17; refine (p17 _).mono ?_; rintro e w1 ⟨rfl, rfl⟩) | (go_at_call 18; refine (p18 _).mono ?_; rintro e w2 ⟨rfl, b2⟩) | (go_at_call 9; refine (h9 _).mono ?_; rintro e w3 ⟨rfl, b3⟩) | (go_at_call 11; refine (hv _).mono ?_; rintro e w4 ⟨rfl, b4⟩))
    go_ret
    exact ⟨rfl, b2.trans ((b3.trans (b4.mono b3.size)).mono b2.size)⟩
  · have hc' : chars.isC a0 = false := by simpa using hc
    have p17 := chars.uput_no a0 hc'
    have p18 := chars.put_no a0 hc'
    have h9 := fun w => chars.next_out ByteArray.empty 0 w (by simp) (by simp)
    clear hc hc'
    go_enter Try.func5, Try.ntmps5
    go_wp2_with (first | (go_at_call 17; refine (p17 _).mono ?_; rintro e w1 ⟨rfl, rfl⟩) | (go_at_call 18; refine (p18 _).mono ?_; rintro e w2 ⟨rfl, b2⟩) | (go_at_call 9; refine (h9 _).mono ?_; rintro e w3 ⟨rfl, rfl⟩))
    go_ret
    exact ⟨rfl, b2⟩

set_option maxRecDepth 100000 in
theorem lifted (os : Os) (started : os.Started) (H : Type) (enc : TypeId × Value → H) :
    ReturnsInHanded {} Try.checked os 5 .any (Rows.utfWritesSpec.pre6 enc Try.prog Try.f5 Rows.utfWritesRow.domain false) (Rows.utfWritesSpec.post enc Try.prog Try.f5 false true false false) := by
  refine returnsInHanded_of_change (C := Try.checked) own started (by kernel_rfl) Try.func5
    (ChangeSpec.witness6 (enc := enc) (C := Try.checked) false ⟨#[], #[.int .i64 0], []⟩ 8 (by kernel_rfl) (by kernel_rfl) (by kernel_rfl) (by kernel_rfl)) ?_
  intro W base args ds gs before hval0 hW hcnd _
  have hval : ∀ (j : Nat) t v, Try.f5.params[j]? = some t → args[j]? = some v → Value.okWide Try.prog W .any base t v := hval0
  have hW' := hW
  obtain ⟨p, q, hA0, hV, rfl, hfz, hnd⟩ := hW
  have hA : DataW.TrodAll enc Try.prog W 0 (fun _ => true) true Try.f5.params.toList args.toList ds p := hA0
  rw [Try.params5] at hA hval
  obtain ⟨v0, vs0, d0, ds0, p0, q0, hargs, rfl, rfl, h0, r0⟩ := trodAll_cons hA
  obtain ⟨rfl, rfl, rfl⟩ := trodAll_nil r0
  obtain rfl : args = #[v0] := by cases args; simp_all
  obtain ⟨rfl, rfl⟩ := trodVars_none hV
  obtain ⟨a0, rfl, rfl, rfl, w0⟩ := open_int Try.underlying3 (hval 0 3 v0 rfl rfl) h0
  clear hA0 hval0
  refine (walk a0 w0 W).mono fun e W' ⟨he, bel⟩ => ?_
  subst he
  exact ⟨_, rfl, _, _, _, [], [], [], hW', trodAll_mk1 (shut_bool Try.underlying4 _), trodAll_cons_mk (shut_int Try.underlying3 w0) trodAll_mk0, rfl, bel.frame _, fun h => by cases h⟩

theorem over : Rows.utfWritesRow.holds Try.pinned (OpenSpec.ofChange Rows.utfWritesSpec) :=
  OpenClaim.holds_of_wide 5 Try.f5 rfl rfl rfl rfl rfl rfl rfl ⟨rfl, rfl, rfl, rfl, rfl⟩ rfl rfl rfl rfl rfl (by kernel_rfl) Try.func5 (by kernel_rfl)
    (of_decide_eq_true (by kernel_rfl)) (by unfold Func.isWrapper; first | (rw [if_pos (by decide +kernel)]; kernel_rfl) | (rw [if_neg (by decide +kernel)]; exact ⟨rfl, rfl⟩))
    (fun os started H enc _ => lifted os started H enc)

theorem proved : Rows.UtfWritesSaid :=
  over
#print axioms proved
end utfWrites
end Go.Proofs.Ytjdgcnednaeogaa
