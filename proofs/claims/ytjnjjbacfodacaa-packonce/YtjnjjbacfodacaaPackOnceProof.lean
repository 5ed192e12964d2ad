/-
  For every text the law PackOnce of package fretsawlaw04 returns true (what is got from any bytes, put again, is the bytes), and the argument reads as before. No condition.
-/
import Derived.Test.YtjnjjbacfodacaaRows
import Derived.Test.YtjnjjbacfodacaaPut
import Derived.Test.YtjnjjbacfodacaaLSeal
import Derived.SizedLaws
import Derived.WalkKit
import Derived.ProofKit
import Derived.OpenShut
import Derived.ShutString
namespace Go.Proofs.Ytjnjjbacfodacaa.packOnce
open Go.ChangeShapes Go.WideShapes Go.ChangeAt Go.RowKit
open Go.ChangeMaps (open_string shut_string)
set_option linter.unusedVariables false

theorem own : ownKnob Try.prog.godebug = none := by kernel_rfl

theorem once_case (x : ByteArray) (hx : x.size ≤ 140737488351232) : (∃ e : Nat, e ≠ 0 ∧ pk.GetsIs x [] e) ∨ ∃ ls, pk.GetsIs x ls 0 ∧ pk.PutsIs ls x 0 := by
  obtain ⟨ls, e, h⟩ : ∃ ls e, pk.getP x = (ls, e) := ⟨_, _, rfl⟩
  have hg := pk.gets_any x hx ls e h
  by_cases h0 : e = 0
  · subst h0
    have ho := pk.once x hx ls h
    exact .inr ⟨ls, hg, pk.puts_any ls ho.2.2.2 x 0 ho.1⟩
  · have := pk.getP_err x ls e h h0
    subst this
    exact .inl ⟨e, h0, hg⟩

/-- the block of the two texts -/
def Two (w : World) (g : Nat) (s t : ByteArray) : Prop := w.heap[g]? = some (.cells #[.string s, .string t] 9 (0, 0))
theorem Two.lt {w : World} {g : Nat} {s t : ByteArray} (h : Two w g s t) : g < w.heap.size := (Array.getElem?_eq_some_iff.1 h).1
theorem Two.later {w w' : World} {g : Nat} {s t : ByteArray} (h : Two w g s t) (b : Below w.heap.size w w') : Two w' g s t := by unfold Two; rw [b.block g h.lt]; exact h
theorem Two.c0 {w : World} {g : Nat} {s t : ByteArray} (h : Two w g s t) : w.cell? ⟨g, 0, none⟩ = some (.string s) := by rw [Lib.cell_of_heap h]; rfl
theorem Two.c1 {w : World} {g : Nat} {s t : ByteArray} (h : Two w g s t) : w.cell? ⟨g, 1, none⟩ = some (.string t) := by rw [Lib.cell_of_heap h]; rfl

set_option maxHeartbeats 2000000 in
set_option maxRecDepth 100000 in
theorem walk (a0 : ByteArray) (w0 : a0.size ≤ 140737488351232) (w : World) :
    Calls Try.prog 7 #[.string a0] w fun e w' => e = .returned (.bool true) ∧ Below w.heap.size w w' := by
  by_cases hbig : 20000 < a0.size
  · go_enter Try.func7, Try.ntmps7
    go_wp2
    go_ret
    exact ⟨rfl, Below.refl _ _⟩
  · obtain ⟨A, hA, p15⟩ := pk.lseal_any a0 w0
    have hz : (A ++ pk.seal4 A).size ≤ 140737488351232 := by
      rw [ByteArray.size_append, pk.seal4_size, hA, ByteArray.size_append]
      show 5 + _ + 4 ≤ _
      omega
    generalize A ++ pk.seal4 A = t at *
    have k0 := once_case a0 w0
    have k1 := once_case t hz
    have hu0 : (a0.toList != a0.toList) = false := by simp
    have hu1 : (t.toList != t.toList) = false := by simp
    clear hA hz
    go_enter Try.func7, Try.ntmps7
    go_wp2_with (go_at_call 15; refine (p15 _).mono ?_; rintro e w1 ⟨rfl, b1⟩)
    go_loopw [17] (fun x wr => (x = .int .i64 0 ∨ x = .int .i64 1 ∨ x = .int .i64 2) ∧ Two wr w1.heap.size a0 t ∧ Below w.heap.size w wr) (fun x _ => 2 - (intOf x).toNat)
    case atStart => exact ⟨.inl rfl, heap_alloc_new w1 _, b1.alloc b1.size _⟩
    case round =>
      obtain ⟨hx, ht, hB⟩ := hrel
      have c0 := ht.c0
      have c1 := ht.c1
      rcases hx with rfl | rfl | rfl
      · rcases k0 with ⟨e, he, p12⟩ | ⟨ls, p12, p10⟩
        · have hne : ((e : Int) != 0) = true := by rw [bne_iff_ne]; omega
          go_wp2_with (go_at_call 12; refine (p12 _).mono ?_; rintro e w2 ⟨m, rfl, m2, b2⟩; obtain ⟨ma, mc, rfl⟩ := m2.nil)
          go_roundw
          case rel => exact ⟨.inr (.inl rfl), ht.later b2, pk.chain hB b2⟩
          case measure => simp [intOf]
        · go_wp2_with (first | (go_at_call 12; refine (p12 _).mono ?_; rintro e w2 ⟨m, rfl, m2, b2⟩) | (go_at_call 10; refine (p10 _ _ m2).mono ?_; rintro e w3 ⟨rfl, b3⟩))
          go_roundw
          case rel => exact ⟨.inr (.inl rfl), (ht.later b2).later b3, pk.chain (pk.chain hB b2) b3⟩
          case measure => simp [intOf]
      · rcases k1 with ⟨e, he, p12⟩ | ⟨ls, p12, p10⟩
        · have hne : ((e : Int) != 0) = true := by rw [bne_iff_ne]; omega
          go_wp2_with (go_at_call 12; refine (p12 _).mono ?_; rintro e w2 ⟨m, rfl, m2, b2⟩; obtain ⟨ma, mc, rfl⟩ := m2.nil)
          go_roundw
          case rel => exact ⟨.inr (.inr rfl), ht.later b2, pk.chain hB b2⟩
          case measure => simp [intOf]
        · go_wp2_with (first | (go_at_call 12; refine (p12 _).mono ?_; rintro e w2 ⟨m, rfl, m2, b2⟩) | (go_at_call 10; refine (p10 _ _ m2).mono ?_; rintro e w3 ⟨rfl, b3⟩))
          go_roundw
          case rel => exact ⟨.inr (.inr rfl), (ht.later b2).later b3, pk.chain (pk.chain hB b2) b3⟩
          case measure => simp [intOf]
      · go_wp2
        go_ret
        exact ⟨rfl, hB⟩


set_option maxRecDepth 100000 in
theorem lifted (os : Os) (started : os.Started) (H : Type) (enc : TypeId × Value → H) :
    ReturnsInHanded {} Try.checked os 7 .any (Rows.packOnceSpec.pre6 enc Try.prog Try.f7 Rows.packOnceRow.domain false) (Rows.packOnceSpec.post enc Try.prog Try.f7 false true false false) := by
  refine returnsInHanded_of_change_sized (C := Try.checked) own started (by kernel_rfl) Try.func7
    (ChangeSpec.witness6 (enc := enc) (C := Try.checked) false ⟨#[], #[.string ByteArray.empty], []⟩ 8 (by kernel_rfl) (by kernel_rfl) (by kernel_rfl) (by kernel_rfl)) ?_
  intro W base args ds gs before hval0 hW hcnd hsz0 _
  have hsz : (DataW.weightsEach Try.prog (Try.f7.params.toList ++ Rows.packOnceSpec.plain.varTypes Try.prog) (ds ++ gs)).all (· ≤ reachBytes) = true := hsz0
  have hval : ∀ (j : Nat) t v, Try.f7.params[j]? = some t → args[j]? = some v → Value.okWide Try.prog W .any base t v := hval0
  have hW' := hW
  obtain ⟨p, q, hA0, hV, rfl, hfz, hnd⟩ := hW
  have hA : DataW.TrodAll enc Try.prog W 0 (fun _ => true) true Try.f7.params.toList args.toList ds p := hA0
  rw [Try.params7] at hA hval hsz
  obtain ⟨v0, vs0, d0, ds0, p0, q0, hargs, rfl, rfl, h0, r0⟩ := trodAll_cons hA
  obtain ⟨rfl, rfl, rfl⟩ := trodAll_nil r0
  obtain rfl : args = #[v0] := by cases args; simp_all
  obtain ⟨rfl, rfl⟩ := trodVars_none hV
  obtain ⟨a0, rfl, rfl, rfl, w0⟩ := open_string Try.underlying9 (hval 0 9 v0 rfl rfl) h0
  clear hA0 hval0
  have z0 : a0.size ≤ 140737488351232 := by
    have := sized_string hsz (j := 0) (t := 9) rfl rfl
    simpa [reachBytes] using this
  refine (walk a0 z0 W).mono fun e W' ⟨he, bel⟩ => ?_
  subst he
  exact ⟨_, rfl, _, _, _, [], [], [], hW', trodAll_mk1 (shut_bool Try.underlying4 _), (trodAll_cons_mk (shut_string Try.underlying9 w0) trodAll_mk0), rfl, bel.frame _, fun h => by cases h⟩

theorem over : Rows.packOnceRow.holds Try.pinned (OpenSpec.ofChange Rows.packOnceSpec) :=
  OpenClaim.holds_of_wide 7 Try.f7 rfl rfl rfl rfl rfl rfl rfl ⟨rfl, rfl, rfl, rfl, rfl⟩ rfl rfl rfl rfl rfl (by kernel_rfl) Try.func7 (by kernel_rfl)
    (of_decide_eq_true (by kernel_rfl)) (by unfold Func.isWrapper; first | (rw [if_pos (by decide +kernel)]; kernel_rfl) | (rw [if_neg (by decide +kernel)]; exact ⟨rfl, rfl⟩))
    (fun os started H enc _ => lifted os started H enc)

theorem proved : Rows.PackOnceSaid :=
  over
#print axioms proved
end Go.Proofs.Ytjnjjbacfodacaa.packOnce
