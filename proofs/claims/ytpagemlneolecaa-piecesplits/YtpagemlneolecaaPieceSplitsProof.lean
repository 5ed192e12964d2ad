/-
  For every dfa and every text the law PieceSplits of package fretsawlaw10 returns true (piece.Split and piece.Texts take a text apart, or refuse it, as the document says), and the arguments read as before. No condition.
-/
import Derived.Test.YtpagemlneolecaaPl
import Derived.Test.YtpagemlneolecaaDl
import Derived.WalkKit
import Derived.ProofKit
import Derived.OpenShut
import Derived.ChangeOld
import Derived.SizedLaws
import Derived.ShutString
import Derived.Below
namespace Go.Proofs.Ytpagemlneolecaa.pieceSplits
open Go.ChangeShapes Go.WideShapes Go.ChangeAt Go.RowKit
open Go.ChangeMaps (open_string shut_string)
open pc
open df (Dfa right DAt DBox In IntsV)
set_option linter.unusedVariables false

theorem own : ownKnob Try.prog.godebug = none := by kernel_rfl
theorem laidOut : laidOutB Try.prog = true := by kernel_rfl

theorem load_if {P : Program} {ops : Array Oper} {rest : List Oper} {o : Oper} {a : Act} {w : World} {Q : Exit → Act → World → Prop} (hw : Region.wanted o (yielded ops a.tmps) = true) (ty : TypeId) (x : Operand) (ho : o.op = .load ty x)
    (g : Nat) (hx : a.eval x = .pointer (some ⟨g, 0, none⟩)) (t : TypeId) (cs : Array Value) (fr : Nat × Nat) (d : TypeDesc) (hg : w.heap[g]? = some (.cells cs t fr))
    (hu : P.underlying ty = some d) (hd : (match d with | .struct _ | .array _ _ => true | _ => false) = true) (hi : (P.info? ty).map (·.size) = some cs.size)
    (h : wpList P ops Q rest (a.put o.dst (.agg cs)) w) : wpList P ops Q (o :: rest) a w :=
  wpList_step fun K hK => by rw [if_pos hw]; exact wp_load_row ty x ho g hx t cs fr d hg hu hd hi (hK _ _ h)
section
variable {d : Dfa} {cs : Array Value} {o ao : Option Addr} {cap acap : Nat} {w : World} {s : ByteArray}
def Ends (cs : Array Value) (s : ByteArray) (w : World) : Prop := Calls Try.prog 3 #[.agg cs, .string s] w fun e w' => e = .returned (.bool true) ∧ Below w.heap.size w w'
set_option maxHeartbeats 2000000 in
set_option maxRecDepth 100000 in
theorem walk_mid (hs : s.size ≤ 140737488351232) (h1 : 3000 < s.size) (h2 : s.size ≤ 262144) : Ends cs s w := by
  unfold Ends
  go_enter Try.func3, Try.ntmps3
  go_wp2_with (fail)
  go_ret
  exact ⟨rfl, df.below_alloc w _⟩
set_option maxHeartbeats 4000000 in
set_option maxRecDepth 100000 in
theorem walk_wrong (hD : DAt (In w) w d cs o cap ao acap) (hs : s.size ≤ 140737488351232) (hr : right d = false) (h1 : s.size ≤ 3000 ∨ 262144 < s.size) : Ends cs s w := by
  unfold Ends
  have hw8 := hD.size
  have b0 := df.dbox_new w cs
  have HB0 := df.below_alloc w (.cells cs 26)
  have D0 := hD.later HB0
  have ec : chk d s = 81 := by unfold chk; rw [if_pos hr]
  have h6 := split_not d s (by omega) (by rw [ec]; decide) cs o ao cap acap _ D0
  have h7 := fun W (h : Below (w.alloc (.cells cs 26)).heap.size (w.alloc (.cells cs 26)) W) => texts_not d s (by omega) (by rw [ec]; decide) cs o ao cap acap W (D0.later h)
  have h8 := fun W (h : Below (w.alloc (.cells cs 26)).heap.size (w.alloc (.cells cs 26)) W) => df.rright_any d _ rfl cs o cap ao acap W (D0.later h)
  rw [ec] at h6
  simp only [ec] at h7
  simp only [hr] at h8
  rcases h1 with h1 | h1
  all_goals
    go_enter Try.func3, Try.ntmps3
    go_wp2_with (first | (refine wpList_load_row rfl 26 (.tmp 2) rfl w.heap.size rfl 26 cs (0, 0) _ b0 Try.underlying26 rfl (df.info26 cs hw8) ?_) | (go_at_call 6; refine h6.mono ?_; rintro e w1 ⟨rfl, k1⟩; have b1 := b0.later k1; have h7 := h7 w1 k1) | (refine wpList_load_row rfl 26 (.tmp 2) rfl w.heap.size rfl 26 cs (0, 0) _ b1 Try.underlying26 rfl (df.info26 cs hw8) ?_) | (go_at_call 7; refine h7.mono ?_; rintro e w2 ⟨rfl, k2⟩; have b2 := b1.later k2; have h8 := h8 w2 (df.chain k1 k2)) | (refine wpList_load_row rfl 26 (.tmp 2) rfl w.heap.size rfl 26 cs (0, 0) _ b2 Try.underlying26 rfl (df.info26 cs hw8) ?_) | (go_at_call 8; refine h8.mono ?_; rintro e w3 ⟨rfl, k3⟩))
    go_ret
    exact ⟨rfl, df.chain HB0 (df.chain k1 (df.chain k2 k3))⟩
set_option maxHeartbeats 4000000 in
set_option maxRecDepth 100000 in
theorem walk_long (hD : DAt (In w) w d cs o cap ao acap) (hs : s.size ≤ 140737488351232) (hr : right d = true) (h1 : 262144 < s.size) : Ends cs s w := by
  unfold Ends
  have hw8 := hD.size
  have b0 := df.dbox_new w cs
  have HB0 := df.below_alloc w (.cells cs 26)
  have D0 := hD.later HB0
  have ec : chk d s = 2 := by unfold chk; rw [if_neg (by rw [hr]; decide), if_pos h1]
  have h6 := split_not d s (by omega) (by rw [ec]; decide) cs o ao cap acap _ D0
  have h7 := fun W (h : Below (w.alloc (.cells cs 26)).heap.size (w.alloc (.cells cs 26)) W) => texts_not d s (by omega) (by rw [ec]; decide) cs o ao cap acap W (D0.later h)
  have h8 := fun W (h : Below (w.alloc (.cells cs 26)).heap.size (w.alloc (.cells cs 26)) W) => df.rright_any d _ rfl cs o cap ao acap W (D0.later h)
  rw [ec] at h6
  simp only [ec] at h7
  simp only [hr] at h8
  go_enter Try.func3, Try.ntmps3
  go_wp2_with (first | (refine wpList_load_row rfl 26 (.tmp 2) rfl w.heap.size rfl 26 cs (0, 0) _ b0 Try.underlying26 rfl (df.info26 cs hw8) ?_) | (go_at_call 6; refine h6.mono ?_; rintro e w1 ⟨rfl, k1⟩; have b1 := b0.later k1; have h7 := h7 w1 k1) | (refine wpList_load_row rfl 26 (.tmp 2) rfl w.heap.size rfl 26 cs (0, 0) _ b1 Try.underlying26 rfl (df.info26 cs hw8) ?_) | (go_at_call 7; refine h7.mono ?_; rintro e w2 ⟨rfl, k2⟩; have b2 := b1.later k2; have h8 := h8 w2 (df.chain k1 k2)) | (refine wpList_load_row rfl 26 (.tmp 2) rfl w.heap.size rfl 26 cs (0, 0) _ b2 Try.underlying26 rfl (df.info26 cs hw8) ?_) | (go_at_call 8; refine h8.mono ?_; rintro e w3 ⟨rfl, k3⟩))
  go_ret
  exact ⟨rfl, df.chain HB0 (df.chain k1 (df.chain k2 k3))⟩
set_option maxHeartbeats 4000000 in
set_option maxRecDepth 100000 in
theorem walk_short (hD : DAt (In w) w d cs o cap ao acap) (hr : right d = true) (h1 : s.size ≤ 3000) : Ends cs s w := by
  unfold Ends
  have hw8 := hD.size
  have b0 := df.dbox_new w cs
  have HB0 := df.below_alloc w (.cells cs 26)
  have D0 := hD.later HB0
  have h6 := split_any d s hr h1 cs o cap ao acap _ D0
  have h7 := fun W (h : Below (w.alloc (.cells cs 26)).heap.size (w.alloc (.cells cs 26)) W) => texts_any d s hr h1 cs o cap ao acap W (D0.later h)
  have h8 := fun W (h : Below (w.alloc (.cells cs 26)).heap.size (w.alloc (.cells cs 26)) W) => df.rright_any d _ rfl cs o cap ao acap W (D0.later h)
  simp only [hr] at h8
  have hlen : (textsL d s).length = (endsL d s).length := by simp [textsL, endsL]
  have hle : (endsL d s).length ≤ 3000 := by unfold endsL; rw [List.length_map]; exact Nat.le_trans (all_len d s s.size 0 (by omega)) h1
  have h10 := fun W (h : Below (w.alloc (.cells cs 26)).heap.size (w.alloc (.cells cs 26)) W) => rsplit_any d s hr (by omega) cs o cap ao acap W (D0.later h)
  have h9 := df.ints_any (endsL d s) (endsL d s) true (by simp)
  generalize endsL d s = l at *
  generalize textsL d s = m at *
  rcases Nat.lt_or_ge 600 s.size with h6h | h6h
  · go_enter Try.func3, Try.ntmps3
    go_wp2_with (first | (refine wpList_load_row rfl 26 (.tmp 2) rfl w.heap.size rfl 26 cs (0, 0) _ b0 Try.underlying26 rfl (df.info26 cs hw8) ?_) | (go_at_call 6; refine h6.mono ?_; rintro e w1 ⟨v, rfl, hv, k1⟩; obtain ⟨vo, vc, rfl, hvr⟩ := hv; have b1 := b0.later k1; have h7 := h7 w1 k1) | (refine wpList_load_row rfl 26 (.tmp 2) rfl w.heap.size rfl 26 cs (0, 0) _ b1 Try.underlying26 rfl (df.info26 cs hw8) ?_) | (go_at_call 7; refine h7.mono ?_; rintro e w2 ⟨v2, rfl, hv2, k2⟩; obtain ⟨vo2, vc2, rfl, hvr2⟩ := hv2; have b2 := b1.later k2; have h8 := h8 w2 (df.chain k1 k2)) | (refine wpList_load_row rfl 26 (.tmp 2) rfl w.heap.size rfl 26 cs (0, 0) _ b2 Try.underlying26 rfl (df.info26 cs hw8) ?_) | (go_at_call 8; refine h8.mono ?_; rintro e w3 ⟨rfl, k3⟩))
    go_ret
    exact ⟨rfl, df.chain HB0 (df.chain k1 (df.chain k2 k3))⟩
  · go_enter Try.func3, Try.ntmps3
    go_wp2_with (first | (refine wpList_load_row rfl 26 (.tmp 2) rfl w.heap.size rfl 26 cs (0, 0) _ b0 Try.underlying26 rfl (df.info26 cs hw8) ?_) | (go_at_call 6; refine h6.mono ?_; rintro e w1 ⟨v, rfl, hv, k1⟩; have hv0 := hv; obtain ⟨vo, vc, rfl, hvr⟩ := hv; have b1 := b0.later k1; have h7 := h7 w1 k1) | (refine wpList_load_row rfl 26 (.tmp 2) rfl w.heap.size rfl 26 cs (0, 0) _ b1 Try.underlying26 rfl (df.info26 cs hw8) ?_) | (go_at_call 7; refine h7.mono ?_; rintro e w2 ⟨v2, rfl, hv2, k2⟩; obtain ⟨vo2, vc2, rfl, hvr2⟩ := hv2; have b2 := b1.later k2; have h8 := h8 w2 (df.chain k1 k2)) | (refine wpList_load_row rfl 26 (.tmp 2) rfl w.heap.size rfl 26 cs (0, 0) _ b2 Try.underlying26 rfl (df.info26 cs hw8) ?_) | (go_at_call 8; refine h8.mono ?_; rintro e w3 ⟨rfl, k3⟩; have b3 := b2.later k3; have h10 := h10 w3 (df.chain k1 (df.chain k2 k3))) | (refine load_if (by simp [Region.wanted, yielded]; omega) 26 (.tmp 2) rfl w.heap.size rfl 26 cs (0, 0) _ b3 Try.underlying26 rfl (df.info26 cs hw8) ?_) | (go_at_call 10; refine h10.mono ?_; rintro e w4 ⟨v4, rfl, hv4, k4⟩; have h9 := h9 _ _ w4 (((hv0.later k2).later k3).later k4) hv4) | (go_at_call 9; refine h9.mono ?_; rintro e w5 ⟨rfl, k5⟩))
    go_ret
    exact ⟨rfl, df.chain HB0 (df.chain k1 (df.chain k2 (df.chain k3 (df.chain k4 k5))))⟩
theorem walk (hD : DAt (In w) w d cs o cap ao acap) (hs : s.size ≤ 140737488351232) (w0 : World) (hw0 : w0 = w := by rfl) : Calls Try.prog 3 #[.agg cs, .string s] w0 fun e w' => e = .returned (.bool true) ∧ Below w0.heap.size w0 w' := by
  subst hw0
  by_cases h1 : 3000 < s.size
  · by_cases h2 : s.size ≤ 262144
    · exact walk_mid hs h1 h2
    · cases hr : right d with
      | false => exact walk_wrong hD hs hr (.inr (by omega))
      | true => exact walk_long hD hs hr (by omega)
  · cases hr : right d with
    | false => exact walk_wrong hD hs hr (.inl (by omega))
    | true => exact walk_short hD hr (by omega)
end

set_option maxRecDepth 100000 in
theorem lifted (os : Os) (started : os.Started) (H : Type) (enc : TypeId × Value → H) :
    ReturnsInHanded {} Try.checked os 3 .any (Rows.pieceSplitsSpec.pre6 enc Try.prog Try.f3 Rows.pieceSplitsRow.domain false) (Rows.pieceSplitsSpec.post enc Try.prog Try.f3 false true false false) := by
  refine returnsInHanded_of_change_sized (C := Try.checked) own started (by kernel_rfl) Try.func3
    (ChangeSpec.witness6 (enc := enc) (C := Try.checked) false ⟨#[], #[.agg ((List.replicate 256 (Value.int .u8 0) ++ [Value.slice none 0 0, Value.slice none 0 0]).toArray), .string ByteArray.empty], []⟩ 8 (by kernel_rfl) (by kernel_rfl) (by kernel_rfl) (by kernel_rfl)) ?_
  intro W base args ds gs before hval0 hW hcnd hsz0 _
  have hsz : (DataW.weightsEach Try.prog (Try.f3.params.toList ++ Rows.pieceSplitsSpec.plain.varTypes Try.prog) (ds ++ gs)).all (· ≤ reachBytes) = true := hsz0
  have hval : ∀ (j : Nat) t v, Try.f3.params[j]? = some t → args[j]? = some v → Value.okWide Try.prog W .any base t v := hval0
  have hW' := hW
  obtain ⟨p, q, hA0, hV, rfl, hfz, hnd⟩ := hW
  have hA : DataW.TrodAll enc Try.prog W 0 (fun _ => true) true Try.f3.params.toList args.toList ds p := hA0
  rw [Try.params3] at hA hval hsz
  obtain ⟨v0, vs0, d0, ds0, p0, q0, hargs, rfl, rfl, h0, r0⟩ := trodAll_cons hA
  obtain ⟨v1, vs1, d1, ds1, p1, q1, rfl, rfl, rfl, h1, r1⟩ := trodAll_cons r0
  obtain ⟨rfl, rfl, rfl⟩ := trodAll_nil r1
  obtain rfl : args = #[v0, v1] := by cases args; simp_all
  obtain ⟨rfl, rfl⟩ := trodVars_none hV
  have k0 := h0
  have lt0 : ∀ x ∈ p0, x.block < W.heap.size := by obtain ⟨m, hm⟩ := k0; exact DataW.trod_lt m _ _ _ hm
  obtain ⟨e0, cs0, o0, cap0, ao0, acap0, rfl, F0⟩ := df.open26 (hval 0 26 v0 rfl rfl) h0
  obtain ⟨a1, rfl, rfl, rfl, w1⟩ := open_string Try.underlying9 (hval 1 9 v1 rfl rfl) h1
  have F1 : a1.size ≤ 140737488351232 := by
    have := sized_string hsz (j := 1) (t := 9) rfl rfl
    simpa [reachBytes] using this
  clear hA0 hval0
  refine (walk F0 F1 W).mono fun e W' ⟨he, bel⟩ => ?_
  subst he
  exact ⟨_, rfl, _, _, _, [], _, [], hW', trodAll_mk1 (shut_bool Try.underlying4 _), (trodAll_cons_mk (Below.trod laidOut (by kernel_rfl) (of_decide_eq_true (by kernel_rfl)) k0 bel lt0) (trodAll_cons_mk (shut_string Try.underlying9 w1) trodAll_mk0)), rfl, bel.frame _, fun h => by cases h⟩

theorem over : Rows.pieceSplitsRow.holds Try.pinned (OpenSpec.ofChange Rows.pieceSplitsSpec) :=
  OpenClaim.holds_of_wide 3 Try.f3 rfl rfl rfl rfl rfl rfl rfl ⟨rfl, rfl, rfl, rfl, rfl⟩ rfl rfl rfl rfl rfl (by kernel_rfl) Try.func3 (by kernel_rfl)
    (of_decide_eq_true (by kernel_rfl)) (by unfold Func.isWrapper; first | (rw [if_pos (by decide +kernel)]; kernel_rfl) | (rw [if_neg (by decide +kernel)]; exact ⟨rfl, rfl⟩))
    (fun os started H enc _ => lifted os started H enc)

theorem proved : Rows.PieceSplitsSaid :=
  over
#print axioms proved
end Go.Proofs.Ytpagemlneolecaa.pieceSplits
