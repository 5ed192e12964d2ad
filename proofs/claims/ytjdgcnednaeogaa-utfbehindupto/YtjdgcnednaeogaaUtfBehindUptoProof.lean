/-
  For every two texts of together at most 1048574 bytes the law UtfBehind of package fretsawlaw01 returns true (a well-formed text ahead of another one changes nothing of how that is made well-formed), and the arguments read as before. Condition: what is read is of bulk at most 1048576.
-/
import Derived.Test.YtjdgcnednaeogaaRows
import Derived.Test.YtjdgcnednaeogaaFix
import Derived.WalkKit
import Derived.ProofKit
import Derived.OpenShut
import Derived.JoinedCond
namespace Go.Proofs.Ytjdgcnednaeogaa.utfBehindUpto
open Go.ChangeShapes Go.WideShapes Go.ChangeAt Go.RowKit
open Go.ChangeMaps (open_string shut_string)
set_option linter.unusedVariables false

theorem own : ownKnob Try.prog.godebug = none := by kernel_rfl
theorem chain {w w1 w2 : World} (h1 : Below w.heap.size w w1) (h2 : Below w1.heap.size w1 w2) : Below w.heap.size w w2 := h1.trans (h2.mono h1.size)

theorem one_char (t : ByteArray) (h : t.data.toList = [97]) : chars.CountIs t 1 := chars.count_is t (by have := chars.size_list t; rw [h] at this; simp at this; omega) 1 (by rw [h]; decide)
theorem alive_any (w : World) : Calls Try.prog 19 #[] w fun e w' => e = .returned (.bool true) ∧ Below w.heap.size w w' := by
  have h13 := one_char ⟨#[97]⟩ rfl
  go_enter Try.func19, Try.ntmps19
  go_wp2_with fail
  refine (h13 _).mono ?_
  rintro e w1 ⟨rfl, b1⟩
  go_wp2
  go_ret
  exact ⟨rfl, b1⟩

theorem list_append (a b : ByteArray) : (a ++ b).data.toList = a.data.toList ++ b.data.toList := by simp

theorem walk (s r : ByteArray) (w : World) (hs : s.size ≤ 1048576 ∧ r.size ≤ 1048576) :
    Calls Try.prog 7 #[.string s, .string r] w fun e w' => e = .returned (.bool true) ∧ Below w.heap.size w w' := by
  obtain ⟨f, hf⟩ : ∃ f : ByteArray, f.data.toList = chars.fix s.data.toList := ⟨⟨(chars.fix s.data.toList).toArray⟩, by simp⟩
  obtain ⟨g, hg⟩ : ∃ g : ByteArray, g.data.toList = chars.fix r.data.toList := ⟨⟨(chars.fix r.data.toList).toArray⟩, by simp⟩
  have hz := chars.fix_size s f hf
  have hz2 := chars.fix_size r g hg
  have hzfr : (f ++ r).size = f.size + r.size := by simp
  have cf := chars.count_size f.data.toList _ (Nat.le_refl _)
  have cr := chars.count_size r.data.toList _ (Nat.le_refl _)
  rw [chars.size_list] at cf cr
  obtain ⟨m, hm⟩ : ∃ m, chars.count f.data.toList = m := ⟨_, rfl⟩
  obtain ⟨n, hn⟩ : ∃ n, chars.count r.data.toList = n := ⟨_, rfl⟩
  obtain ⟨b, hb⟩ : ∃ b, chars.valid r.data.toList = b := ⟨_, rfl⟩
  have g15 := chars.fix_is s f (by omega) hf
  have g15r := chars.fix_is r g (by omega) hg
  have g15fr := chars.fix_is (f ++ r) (f ++ g) (by omega) (by rw [list_append, list_append, hf, hg, chars.fix_behind])
  have g13f := chars.count_is f (by omega) m hm
  have g13r := chars.count_is r (by omega) n hn
  have g13fr := chars.count_is (f ++ r) (by omega) (m + n) (by rw [list_append, hf, chars.count_behind, ← hf, hm, hn])
  have g11r := chars.valid_is r (by omega) b hb
  have g11fr := chars.valid_is (f ++ r) (by omega) b (by rw [list_append, hf, chars.valid_behind, hb])
  have hfs : f.size ≤ 4194304 := by omega
  have hrs : r.size ≤ 1048576 := hs.2
  have hgs : g.size ≤ 4194304 := by omega
  have hms : m ≤ 4194304 := by omega
  have hns : n ≤ 1048576 := by omega
  clear hf hg hm hn hb hz hz2 hzfr cf cr hs
  cases b
  all_goals
    go_enter Try.func7, Try.ntmps7
    go_wp2_with fail
    refine (alive_any _).mono ?_
    rintro e w0 ⟨rfl, b0⟩
    go_wp2_with fail
    refine (g15 _).mono ?_
    rintro e w1 ⟨rfl, b1⟩
    go_wp2_with fail
    refine (g15fr _).mono ?_
    rintro e w2 ⟨rfl, b2⟩
    go_wp2_with fail
    refine (g15r _).mono ?_
    rintro e w3 ⟨rfl, b3⟩
    go_wp2_with fail
    refine (g13fr _).mono ?_
    rintro e w4 ⟨rfl, b4⟩
    go_wp2_with fail
    refine (g13f _).mono ?_
    rintro e w5 ⟨rfl, b5⟩
    go_wp2_with fail
    refine (g13r _).mono ?_
    rintro e w6 ⟨rfl, b6⟩
    go_wp2_with fail
    refine (g11fr _).mono ?_
    rintro e w7 ⟨rfl, b7⟩
    go_wp2_with fail
    refine (g11r _).mono ?_
    rintro e w8 ⟨rfl, b8⟩
    go_wp2
    go_ret
    exact ⟨rfl, chain (chain (chain (chain (chain (chain (chain (chain b0 b1) b2) b3) b4) b5) b6) b7) b8⟩


theorem short {H : Type} {s0 s1 : ByteArray} (hk : Rows.uptoSmall H [.lit (.string s0.data.toList), .lit (.string s1.data.toList)] = true) : s0.size ≤ 1048576 ∧ s1.size ≤ 1048576 := by
  have h : Rows.uptoBulkAll [DataW.lit (H := H) (.string s0.data.toList), DataW.lit (H := H) (.string s1.data.toList)] ≤ 1048576 := of_decide_eq_true hk
  simp only [Rows.uptoBulkAll, Rows.uptoBulk] at h
  have es0 : s0.data.toList.length = s0.size := chars.size_list s0
  have es1 : s1.data.toList.length = s1.size := chars.size_list s1
  omega

theorem contract (H : Type) (enc : TypeId × Value → H) (W : World) (base : Nat) (args : Array Value) (ds gs : List (DataW H)) (before : List MemPlace)
    (hval : ∀ (j : Nat) t v, Try.f7.params[j]? = some t → args[j]? = some v → Value.okWide Try.prog W .any base t v)
    (hW : DataW.Whole enc Try.prog Try.f7.params.toList Rows.utfBehindSpec.vars false W args.toList ds gs before) (hk : Rows.uptoSmall H (ds ++ gs) = true) :
    Calls Try.prog 7 args W fun e W' => ∃ v, e = .returned v ∧ Rows.utfBehindSpec.post enc Try.prog Try.f7 false true false false W args v W' := by
  have hW' := hW
  obtain ⟨p, q, hA0, hV, rfl, hfz, hnd⟩ := hW
  have hA : DataW.TrodAll enc Try.prog W 0 (fun _ => true) true Try.f7.params.toList args.toList ds p := hA0
  rw [Try.params7] at hA hval
  obtain ⟨v0, vs0, d0, ds0, p0, q0, hargs, rfl, rfl, h0, r0⟩ := trodAll_cons hA
  obtain ⟨v1, vs1, d1, ds1, p1, q1, rfl, rfl, rfl, h1, r1⟩ := trodAll_cons r0
  obtain ⟨rfl, rfl, rfl⟩ := trodAll_nil r1
  obtain rfl : args = #[v0, v1] := by cases args; simp_all
  obtain ⟨rfl, rfl⟩ := trodVars_none hV
  obtain ⟨s0, rfl, rfl, rfl, hm0⟩ := open_string Try.underlying9 (hval 0 9 v0 rfl rfl) h0
  obtain ⟨s1, rfl, rfl, rfl, hm1⟩ := open_string Try.underlying9 (hval 1 9 v1 rfl rfl) h1
  clear hA0
  simp only [List.append_nil] at hk
  refine (walk s0 s1 W (short hk)).mono fun e W' ⟨he, bel⟩ => ?_
  subst he
  exact ⟨_, rfl, _, _, _, [], [], [], hW', trodAll_mk1 (shut_bool Try.underlying4 _), (trodAll_cons_mk (shut_string Try.underlying9 hm0) (trodAll_cons_mk (shut_string Try.underlying9 hm1) trodAll_mk0)), rfl, bel.frame _, fun h => by cases h⟩

set_option maxRecDepth 100000 in
theorem lifted (os : Os) (started : os.Started) (H : Type) (enc : TypeId × Value → H) (F : Stop.Interp) :
    ReturnsInHanded {} Try.checked os 7 .any ((Rows.OpenSpec.upto Rows.utfBehindSpec).pre6 enc Try.prog Try.f7 Rows.utfBehindUptoRow.domain false) (((Rows.OpenSpec.upto Rows.utfBehindSpec).at F).post enc Try.prog Try.f7 false true false false) := by
  refine returnsInHanded_of_cond (C := Try.checked) (s := Rows.OpenSpec.upto Rows.utfBehindSpec) (k := Rows.uptoSmall) rfl own started (by kernel_rfl) Try.func7
    (OpenSpec.witness (enc := enc) (C := Try.checked) (s := Rows.OpenSpec.upto Rows.utfBehindSpec) (k := Rows.uptoSmall) rfl false ⟨#[], #[.string .empty, .string .empty], []⟩ 8 (by kernel_rfl) (by kernel_rfl) (by kernel_rfl)
      (x := ([.lit (.string []), .lit (.string [])], [], [])) (by kernel_rfl) rfl (by kernel_rfl)) ?_
  intro W base args ds gs before hval hW _ hk _
  exact contract H enc W base args ds gs before hval hW hk

theorem proved : Rows.UtfBehindUptoSaid :=
  OpenClaim.holds_of_cond 7 Try.f7 rfl rfl rfl rfl rfl rfl rfl ⟨rfl, rfl, rfl, rfl, rfl⟩ rfl rfl rfl rfl rfl (by kernel_rfl) Try.func7 (by kernel_rfl)
    (of_decide_eq_true (by kernel_rfl)) (by unfold Func.isWrapper; first | (rw [if_pos (by decide +kernel)]; kernel_rfl) | (rw [if_neg (by decide +kernel)]; exact ⟨rfl, rfl⟩))
    (fun os started H enc _ F => lifted os started H enc F)
#print axioms proved
end Go.Proofs.Ytjdgcnednaeogaa.utfBehindUpto
