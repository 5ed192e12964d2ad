/-
  For every dfa, every text and every place the law PieceWhole of package fretsawlaw10 returns true (pieces, one behind the other, are the text, and none is empty; what follows behind a piece is taken apart as if it stood alone), and the arguments read as before. No condition.
-/
import Derived.Test.YtpagemlneolecaaWd
import Derived.Test.YtpagemlneolecaaDl
import Derived.Test.YtpagemlneolecaaRg
import Derived.WalkKit
import Derived.ProofKit
import Derived.OpenShut
import Derived.ChangeOld
import Derived.SizedLaws
import Derived.ShutString
import Derived.Below
namespace Go.Proofs.Ytpagemlneolecaa.pieceWhole
open Go.ChangeShapes Go.WideShapes Go.ChangeAt Go.RowKit
open Go.ChangeMaps (open_string shut_string)
open pc
open df (Dfa right DAt DBox In IntsV Row)
set_option linter.unusedVariables false

theorem own : ownKnob Try.prog.godebug = none := by kernel_rfl
theorem laidOut : laidOutB Try.prog = true := by kernel_rfl

theorem total_cat : ∀ l, total l = (cat l).size
  | [] => rfl
  | x :: l => by
    have := total_cat l
    rw [cat, ByteArray.size_append, ← this]
    simp [total]
theorem join_any (l : List ByteArray) (h : (cat l).size ≤ 1000000) (hl : l.length ≤ 1000000) (hn : ∀ x ∈ l, x ≠ ByteArray.empty) : JoinIs l := by
  match l, h, hl, hn with
  | [], _, _, _ => exact join_none
  | [x], _, _, _ => exact join_one x
  | x :: y :: r, h, hl, hn =>
    refine join_many _ (by simp) hl (by rw [total_cat]; exact h) ?_
    have h1 : 1 ≤ x.size := by
      rcases Nat.eq_zero_or_pos x.size with e | e
      · exact (hn x (by simp) (ByteArray.ext (Array.eq_empty_of_size_eq_zero e))).elim
      · exact e
    simp [total]
    omega
theorem strs_drop {w : World} {b off cap : Nat} {l : List ByteArray} (h : Row (In w) w Value.string (some ⟨b, off, none⟩) cap l) (k : Nat) (hk : k < l.length) : StrsV w (.slice (some ⟨b, off + k, none⟩) (l.length - k) (cap - k)) (l.drop k) := by
  have f1 := h.fit
  have f2 := h.top
  refine ⟨some ⟨b, off + k, none⟩, cap - k, by rw [List.length_drop], ⟨by rw [List.length_drop]; omega, by omega, fun i hi => ?_⟩⟩
  rw [List.length_drop] at hi
  obtain ⟨b', off', e, hb, hc⟩ := h.lie (k + i) (by omega)
  cases e
  refine ⟨b, off + k, rfl, hb, ?_⟩
  rw [List.getElem_drop, ← hc, Nat.add_assoc]
/-- the tail of the pieces is the pieces of the tail -/
theorem tail_of (d : Dfa) (s : ByteArray) (k : Nat) (hk : k ≤ (textsL d s).length) : textsL d (cat ((textsL d s).drop k)) = (textsL d s).drop k ∧ (cat ((textsL d s).drop k)).size ≤ s.size := by
  obtain ⟨t, ht, e⟩ := texts_drop d s k hk
  have h1 : cat ((textsL d s).drop k) = rest' s t := by rw [e, cat_texts d s s.size t (by omega)]; rfl
  rw [h1, e, ← texts_rest d s t ht]
  exact ⟨rfl, by rw [rest_size]; omega⟩
theorem x_slice31 {o : Oper} {a : Act} {w : World} {x y : Operand} {b off n c k : Nat} (h : o.op = .slice 31 x (some y) none none) (hx : a.eval x = .slice (some ⟨b, off, none⟩) n c) (hy : a.eval y = .int .i64 (k : Int)) (h1 : k < n) (h2 : n ≤ c) : (execOp a.eval o).run Try.prog w = .ok (.value (.slice (some ⟨b, off + k, none⟩) (n - k) (c - k))) w := by
  unfold execOp
  simp only [h, hx, hy, Option.map]
  have h3 : (k : Int) ≤ (n : Int) := by omega
  simp [go_sem, h3]
  omega
theorem place_of (n : Nat) (h0 : 0 < n) (hn : n ≤ 3000) (at' : Int) : ∃ k : Nat, (wrap64 (at'.tmod (n : Int) + (n : Int))).tmod (n : Int) = (k : Int) ∧ k < n := by
  have h1 := Int.tmod_lt_of_pos at' (show (0 : Int) < n by omega)
  have h2 : -(n : Int) < at'.tmod n := by
    have := Int.tmod_lt_of_pos (-at') (show (0 : Int) < n by omega)
    rw [Int.neg_tmod] at this
    omega
  have hw : wrap64 (at'.tmod (n : Int) + (n : Int)) = at'.tmod (n : Int) + (n : Int) := by unfold wrap64; omega
  rw [hw]
  have h3 := Int.tmod_lt_of_pos (at'.tmod (n : Int) + (n : Int)) (show (0 : Int) < n by omega)
  have h4 := Int.tmod_nonneg (n : Int) (show (0 : Int) ≤ at'.tmod (n : Int) + (n : Int) by omega)
  exact ⟨((at'.tmod (n : Int) + (n : Int)).tmod (n : Int)).toNat, by omega, by omega⟩
section
variable {d : Dfa} {cs : Array Value} {o ao : Option Addr} {cap acap : Nat} {w : World} {s : ByteArray} {at' : Int}
def Ends (cs : Array Value) (s : ByteArray) (at' : Int) (w : World) : Prop := Calls Try.prog 5 #[.agg cs, .string s, .int .i64 at'] w fun e w' => e = .returned (.bool true) ∧ Below w.heap.size w w'
set_option maxHeartbeats 4000000 in
set_option maxRecDepth 100000 in
theorem walk_wrong (hD : DAt (In w) w d cs o cap ao acap) (hs : s.size ≤ 140737488351232) (hr : right d = false) : Ends cs s at' w := by
  unfold Ends
  have hw8 := hD.size
  have b0 := df.dbox_new w cs
  have HB0 := df.below_alloc w (.cells cs 26)
  have D0 := hD.later HB0
  have h8 := df.rright_any d _ rfl cs o cap ao acap _ D0
  rw [hr] at h8
  go_enter Try.func5, Try.ntmps5
  go_wp2_with (first | (refine wpList_load_row rfl 26 (.tmp 3) rfl w.heap.size rfl 26 cs (0, 0) _ b0 Try.underlying26 rfl (df.info26 cs hw8) ?_) | (go_at_call 8; refine h8.mono ?_; rintro e w1 ⟨rfl, k1⟩))
  go_ret
  exact ⟨rfl, df.chain HB0 k1⟩
set_option maxHeartbeats 4000000 in
set_option maxRecDepth 100000 in
theorem walk_long (hD : DAt (In w) w d cs o cap ao acap) (hs : s.size ≤ 140737488351232) (hr : right d = true) (h1 : 3000 < s.size) : Ends cs s at' w := by
  unfold Ends
  have hw8 := hD.size
  have b0 := df.dbox_new w cs
  have HB0 := df.below_alloc w (.cells cs 26)
  have D0 := hD.later HB0
  have h8 := df.rright_any d _ rfl cs o cap ao acap _ D0
  rw [hr] at h8
  go_enter Try.func5, Try.ntmps5
  go_wp2_with (first | (refine wpList_load_row rfl 26 (.tmp 3) rfl w.heap.size rfl 26 cs (0, 0) _ b0 Try.underlying26 rfl (df.info26 cs hw8) ?_) | (go_at_call 8; refine h8.mono ?_; rintro e w1 ⟨rfl, k1⟩))
  go_ret
  exact ⟨rfl, df.chain HB0 k1⟩
set_option maxHeartbeats 4000000 in
set_option maxRecDepth 100000 in
theorem walk_short (hD : DAt (In w) w d cs o cap ao acap) (hr : right d = true) (h1 : s.size ≤ 3000) (hat : (Lit.int .i64 at').wf = true) : Ends cs s at' w := by
  unfold Ends
  have hw8 := hD.size
  have b0 := df.dbox_new w cs
  have HB0 := df.below_alloc w (.cells cs 26)
  have D0 := hD.later HB0
  have h8 := df.rright_any d _ rfl cs o cap ao acap _ D0
  rw [hr] at h8
  have h7 := fun W (h : Below (w.alloc (.cells cs 26)).heap.size (w.alloc (.cells cs 26)) W) => texts_any d s hr h1 cs o cap ao acap W (D0.later h)
  have hle : (textsL d s).length ≤ 3000 := by unfold textsL; rw [List.length_map]; exact Nat.le_trans (all_len d s s.size 0 (by omega)) h1
  have HF := (show Hid (∀ x ∈ textsL d s, x ≠ ByteArray.empty) from texts_full d s)
  have HK := (show Hid (cat (textsL d s) = s) from cat_all d s)
  have HTl := (show Hid (∀ k, k ≤ (textsL d s).length → textsL d (cat ((textsL d s).drop k)) = (textsL d s).drop k ∧ (cat ((textsL d s).drop k)).size ≤ s.size) from fun k hk => tail_of d s k hk)
  have HT7 := (show Hid (∀ u : ByteArray, u.size ≤ s.size → ∀ W, Below (w.alloc (.cells cs 26)).heap.size (w.alloc (.cells cs 26)) W → Calls Try.prog 7 #[.agg cs, .string u] W fun e W' => ∃ v, e = .returned (.tuple #[v, .int .i64 0]) ∧ StrsV W' v (textsL d u) ∧ Below W.heap.size W W') from fun u hu W h => texts_any d u hr (by omega) cs o cap ao acap W (D0.later h))
  have h17 := join_any (textsL d s) (by rw [HK.out]; omega) (by omega) HF.out
  unfold JoinIs at h17
  rw [HK.out] at h17
  obtain ⟨L, hL⟩ : ∃ L, L = textsL d s := ⟨_, rfl⟩
  rw [← hL] at HF HK HTl hle h17
  simp only [← hL] at h7
  clear hL hD
  go_enter Try.func5, Try.ntmps5
  go_wp2_with (first | (refine wpList_load_row rfl 26 (.tmp 3) rfl w.heap.size rfl 26 cs (0, 0) _ b0 Try.underlying26 rfl (df.info26 cs hw8) ?_) | (go_at_call 8; refine h8.mono ?_; rintro e w1 ⟨rfl, k1⟩; have b1 := b0.later k1; have c7 := h7 w1 k1; clear h7) | (refine wpList_load_row rfl 26 (.tmp 3) rfl w.heap.size rfl 26 cs (0, 0) _ b1 Try.underlying26 rfl (df.info26 cs hw8) ?_) | (go_at_call 7; refine c7.mono ?_; rintro e w2 ⟨v, rfl, hv, k2⟩; clear c7; have c17 := h17 v w2 hv; clear h17; obtain ⟨vo, vc, rfl, hvr⟩ := hv; have f1 := hvr.fit; have f2 := hvr.top) | (go_at_call 17; refine c17.mono ?_; rintro e w3 ⟨rfl, k3⟩; clear c17))
  have hB3 : Below w.heap.size w w3 := df.chain HB0 (df.chain k1 (df.chain k2 k3))
  have k13 := df.chain k1 (df.chain k2 k3)
  have hr3 : Row (In w3) w3 Value.string vo vc L := hvr.carry (fun b hb => k3.block b hb) (fun b hb => Nat.lt_of_lt_of_le hb k3.size)
  clear hvr k3 k2 b1 k1 h8
  rcases Nat.eq_zero_or_pos L.length with h0 | h0
  · have e0 : L = [] := List.length_eq_zero_iff.1 h0
    have es : s = ByteArray.empty := by rw [← HK.out, e0]; rfl
    subst e0
    subst es
    go_loopw [37] (fun y wr => y = .int .i64 0 ∧ wr = w3) (fun y _ => 0)
    case atStart => exact ⟨rfl, rfl⟩
    case round =>
      obtain ⟨rfl, rfl⟩ := hrel
      go_wp2_with (fail)
      go_ret
      exact ⟨rfl, hB3⟩
  · obtain ⟨b, off, rfl, hb, hc0⟩ := row_cells hr3 h0
    have HC := (show Hid (∀ W, Below w3.heap.size w3 W → ∀ i (hi : i < L.length), W.cell? ⟨b, off + i, none⟩ = some (.string L[i]) ∧ L[i] ≠ ByteArray.empty) from fun W hW i hi => ⟨(hW.cell (p := ⟨b, off + i, none⟩) hb).trans (hc0 i hi), HF.out _ (List.getElem_mem hi)⟩)
    have HR3 := (show Hid (Row (In w3) w3 Value.string (some ⟨b, off, none⟩) vc L) from hr3)
    have q0 : ((L.length : Int) == 0) = false := beq_eq_false_iff_ne.2 (by omega)
    clear hc0 hr3
    go_loopw [37] (fun y wr => ∃ i : Nat, y = .int .i64 (i : Int) ∧ i ≤ L.length ∧ wr = w3) (fun y _ => L.length - (intOf y).toNat)
    case atStart => exact ⟨0, rfl, by omega, rfl⟩
    case round =>
      obtain ⟨i, rfl, hil, rfl⟩ := hrel
      by_cases hend : i < L.length
      · obtain ⟨kc, kn⟩ := HC.out _ (Below.refl _ _) i hend
        generalize L[i] = x at *
        have q1 : x.toList.isEmpty = false := by
          rw [Lib.toList_data, List.isEmpty_eq_false_iff]
          exact fun e => kn (ByteArray.ext (Array.toList_inj.1 e))
        clear kn
        go_wp2_with (fail)
        go_roundw
        case rel => exact ⟨i + 1, by go_num, by omega, by trivial⟩
        case measure => simp [intOf]; omega
      · go_wp2_with (fail)
        obtain ⟨k, hk, hkl⟩ := place_of L.length h0 hle at'
        rw [hk]
        have b3 : DBox wr w.heap.size cs := b0.later k13
        have hT := HTl.out k (by omega)
        have c17 : ∀ W, Below wr.heap.size wr W → Calls Try.prog 17 #[.slice (some ⟨b, off + k, none⟩) (L.length - k) (vc - k), .string ⟨#[]⟩] W fun e w' => e = .returned (.string (cat (L.drop k))) ∧ Below W.heap.size W w' := fun W h => join_any (L.drop k) (by have := hT.2; omega) (by rw [List.length_drop]; omega) (fun x hx => HF.out x (List.mem_of_mem_drop hx)) _ W (strs_drop (HR3.out.carry (fun b hb => h.block b hb) (fun b hb => Nat.lt_of_lt_of_le hb h.size)) k hkl)
        have c7 : ∀ W, Below wr.heap.size wr W → Calls Try.prog 7 #[.agg cs, .string (cat (L.drop k))] W fun e W' => ∃ v, e = .returned (.tuple #[v, .int .i64 0]) ∧ StrsV W' v (L.drop k) ∧ Below W.heap.size W W' := fun W h => by
          have := HT7.out (cat (L.drop k)) hT.2 W (df.chain k13 h)
          rw [hT.1] at this
          exact this
        have c15 : ∀ W v, Below wr.heap.size wr W → StrsV W v (L.drop k) → Calls Try.prog 15 #[v, .slice (some ⟨b, off + k, none⟩) (L.length - k) (vc - k)] W fun e W' => e = .returned (.bool true) ∧ Below W.heap.size W W' := fun W v h hv => like_same (L.drop k) _ _ W hv (strs_drop (HR3.out.carry (fun b hb => h.block b hb) (fun b hb => Nat.lt_of_lt_of_le hb h.size)) k hkl)
        have r0 : Below wr.heap.size wr wr.drew := Below.drew (Below.refl _ _)
        generalize cat (L.drop k) = u at *
        clear HTl HT7 HF HK hT
        refine wp_region_held (S := fun W => Below wr.heap.size wr W) (by kernel_rfl) ?_
        refine df.take_op (i := 0) 60 rfl rfl (df.yields_load rfl (.tmp 3) rfl w.heap.size rfl cs hw8 (fun W h => b3.later h)) (by kernel_rfl) (by kernel_rfl) (by kernel_rfl) (fun _ _ _ h => h) r0 ?_
        simp only [Act.put, List.setIfInBounds_toArray, List.set_cons_zero, List.set_cons_succ]
        refine df.take_op (i := 1) 61 (v := .slice (some ⟨b, off, none⟩) L.length vc) rfl rfl (df.yields_move rfl (.tmp 7) rfl) (by kernel_rfl) (by kernel_rfl) (by kernel_rfl) (fun _ _ _ h => h) r0 ?_
        simp only [Act.put, List.setIfInBounds_toArray, List.set_cons_zero, List.set_cons_succ]
        refine df.take_op (i := 2) 62 (v := .int .i64 (k : Int)) rfl rfl (df.yields_move rfl (.tmp 2) rfl) (by kernel_rfl) (by kernel_rfl) (by kernel_rfl) (fun _ _ _ h => h) r0 ?_
        simp only [Act.put, List.setIfInBounds_toArray, List.set_cons_zero, List.set_cons_succ]
        refine df.take_op (i := 3) 63 rfl rfl (.inl ⟨rfl, fun W h => x_slice31 (x := .tmp 61) (y := .tmp 62) (b := b) (off := off) (n := L.length) (c := vc) (k := k) rfl rfl rfl hkl f1⟩) (by kernel_rfl) (by kernel_rfl) (by kernel_rfl) (fun _ _ _ h => h) r0 ?_
        simp only [Act.put, List.setIfInBounds_toArray, List.set_cons_zero, List.set_cons_succ]
        refine df.call_op 4 64 (f := 17) (args := #[.slice (some ⟨b, off + k, none⟩) (L.length - k) (vc - k), .string ⟨#[]⟩]) (by kernel_rfl) rfl rfl rfl (by kernel_rfl) ((c17 _ r0).mono ?_)
        rintro e w4 ⟨rfl, k4⟩
        have r4 : Below wr.heap.size wr w4 := df.chain r0 k4
        refine ⟨_, rfl, r4, ?_⟩
        simp only [Act.put, List.setIfInBounds_toArray, List.set_cons_zero, List.set_cons_succ]
        refine df.call_op 5 65 (f := 7) (args := #[.agg cs, .string u]) (by kernel_rfl) rfl rfl rfl (by kernel_rfl) ((c7 _ r4).mono ?_)
        rintro e w5 ⟨v2, rfl, hv2, k5⟩
        have r5 : Below wr.heap.size wr w5 := df.chain r4 k5
        refine ⟨_, rfl, r5, ?_⟩
        simp only [Act.put, List.setIfInBounds_toArray, List.set_cons_zero, List.set_cons_succ]
        refine df.take_op (i := 6) 59 (v := .tuple #[v2, .int .i64 0]) rfl rfl (df.yields_move rfl (.tmp 65) rfl) (by kernel_rfl) (by kernel_rfl) (by kernel_rfl) (fun _ _ _ h => h) r5 ?_
        simp only [Act.put, List.setIfInBounds_toArray, List.set_cons_zero, List.set_cons_succ]
        refine df.take_op (i := 7) 66 (v := v2) rfl rfl (.inl ⟨rfl, fun W h => (rfl : _ = Result.ok (Next.value v2) W)⟩) (by kernel_rfl) (by kernel_rfl) (by kernel_rfl) (fun _ _ _ h => h) r5 ?_
        simp only [Act.put, List.setIfInBounds_toArray, List.set_cons_zero, List.set_cons_succ]
        refine df.take_op (i := 8) 67 (v := .int .i64 0) rfl rfl (.inl ⟨rfl, fun W h => (rfl : _ = Result.ok (Next.value (.int .i64 0)) W)⟩) (by kernel_rfl) (by kernel_rfl) (by kernel_rfl) (fun _ _ _ h => h) r5 ?_
        simp only [Act.put, List.setIfInBounds_toArray, List.set_cons_zero, List.set_cons_succ]
        refine df.take_op (i := 9) 11 (v := v2) rfl rfl (df.yields_assign rfl (.tmp 66) rfl) (by kernel_rfl) (by kernel_rfl) (by kernel_rfl) (fun _ _ _ h => h) r5 ?_
        simp only [Act.put, List.setIfInBounds_toArray, List.set_cons_zero, List.set_cons_succ]
        refine df.take_op (i := 10) 12 (v := .int .i64 0) rfl rfl (df.yields_assign rfl (.tmp 67) rfl) (by kernel_rfl) (by kernel_rfl) (by kernel_rfl) (fun _ _ _ h => h) r5 ?_
        simp only [Act.put, List.setIfInBounds_toArray, List.set_cons_zero, List.set_cons_succ]
        refine df.done_op (by kernel_rfl) ?_
        have c15' := c15 w5 v2 r5 hv2
        go_wp2_with (go_at_call 15; refine c15'.mono ?_; rintro e w6 ⟨rfl, k6⟩)
        go_ret
        exact ⟨rfl, df.chain hB3 (df.chain r5 k6)⟩
theorem walk (hD : DAt (In w) w d cs o cap ao acap) (hs : s.size ≤ 140737488351232) (hat : (Lit.int .i64 at').wf = true) (w0 : World) (hw0 : w0 = w := by rfl) : Calls Try.prog 5 #[.agg cs, .string s, .int .i64 at'] w0 fun e w' => e = .returned (.bool true) ∧ Below w0.heap.size w0 w' := by
  subst hw0
  cases hr : right d with
  | false => exact walk_wrong hD hs hr
  | true =>
    by_cases h1 : s.size ≤ 3000
    · exact walk_short hD hr h1 hat
    · exact walk_long hD hs hr (by omega)
end

set_option maxRecDepth 100000 in
theorem lifted (os : Os) (started : os.Started) (H : Type) (enc : TypeId × Value → H) :
    ReturnsInHanded {} Try.checked os 5 .any (Rows.pieceWholeSpec.pre6 enc Try.prog Try.f5 Rows.pieceWholeRow.domain false) (Rows.pieceWholeSpec.post enc Try.prog Try.f5 false true false false) := by
  refine returnsInHanded_of_change_sized (C := Try.checked) own started (by kernel_rfl) Try.func5
    (ChangeSpec.witness6 (enc := enc) (C := Try.checked) false ⟨#[], #[.agg ((List.replicate 256 (Value.int .u8 0) ++ [Value.slice none 0 0, Value.slice none 0 0]).toArray), .string ByteArray.empty, .int .i64 0], []⟩ 8 (by kernel_rfl) (by kernel_rfl) (by kernel_rfl) (by kernel_rfl)) ?_
  intro W base args ds gs before hval0 hW hcnd hsz0 _
  have hsz : (DataW.weightsEach Try.prog (Try.f5.params.toList ++ Rows.pieceWholeSpec.plain.varTypes Try.prog) (ds ++ gs)).all (· ≤ reachBytes) = true := hsz0
  have hval : ∀ (j : Nat) t v, Try.f5.params[j]? = some t → args[j]? = some v → Value.okWide Try.prog W .any base t v := hval0
  have hW' := hW
  obtain ⟨p, q, hA0, hV, rfl, hfz, hnd⟩ := hW
  have hA : DataW.TrodAll enc Try.prog W 0 (fun _ => true) true Try.f5.params.toList args.toList ds p := hA0
  rw [Try.params5] at hA hval hsz
  obtain ⟨v0, vs0, d0, ds0, p0, q0, hargs, rfl, rfl, h0, r0⟩ := trodAll_cons hA
  obtain ⟨v1, vs1, d1, ds1, p1, q1, rfl, rfl, rfl, h1, r1⟩ := trodAll_cons r0
  obtain ⟨v2, vs2, d2, ds2, p2, q2, rfl, rfl, rfl, h2, r2⟩ := trodAll_cons r1
  obtain ⟨rfl, rfl, rfl⟩ := trodAll_nil r2
  obtain rfl : args = #[v0, v1, v2] := by cases args; simp_all
  obtain ⟨rfl, rfl⟩ := trodVars_none hV
  have k0 := h0
  have lt0 : ∀ x ∈ p0, x.block < W.heap.size := by obtain ⟨m, hm⟩ := k0; exact DataW.trod_lt m _ _ _ hm
  obtain ⟨e0, cs0, o0, cap0, ao0, acap0, rfl, F0⟩ := df.open26 (hval 0 26 v0 rfl rfl) h0
  obtain ⟨a1, rfl, rfl, rfl, w1⟩ := open_string Try.underlying9 (hval 1 9 v1 rfl rfl) h1
  have F1 : a1.size ≤ 140737488351232 := by
    have := sized_string hsz (j := 1) (t := 9) rfl rfl
    simpa [reachBytes] using this
  obtain ⟨a2, rfl, rfl, rfl, w2⟩ := open_int Try.underlying3 (hval 2 3 v2 rfl rfl) h2
  clear hA0 hval0
  refine (walk F0 F1 w2 W).mono fun e W' ⟨he, bel⟩ => ?_
  subst he
  exact ⟨_, rfl, _, _, _, [], _, [], hW', trodAll_mk1 (shut_bool Try.underlying4 _), (trodAll_cons_mk (Below.trod laidOut (by kernel_rfl) (of_decide_eq_true (by kernel_rfl)) k0 bel lt0) (trodAll_cons_mk (shut_string Try.underlying9 w1) (trodAll_cons_mk (shut_int Try.underlying3 w2) trodAll_mk0))), rfl, bel.frame _, fun h => by cases h⟩

theorem over : Rows.pieceWholeRow.holds Try.pinned (OpenSpec.ofChange Rows.pieceWholeSpec) :=
  OpenClaim.holds_of_wide 5 Try.f5 rfl rfl rfl rfl rfl rfl rfl ⟨rfl, rfl, rfl, rfl, rfl⟩ rfl rfl rfl rfl rfl (by kernel_rfl) Try.func5 (by kernel_rfl)
    (of_decide_eq_true (by kernel_rfl)) (by unfold Func.isWrapper; first | (rw [if_pos (by decide +kernel)]; kernel_rfl) | (rw [if_neg (by decide +kernel)]; exact ⟨rfl, rfl⟩))
    (fun os started H enc _ => lifted os started H enc)

theorem proved : Rows.PieceWholeSaid :=
  over
#print axioms proved
end Go.Proofs.Ytpagemlneolecaa.pieceWhole
