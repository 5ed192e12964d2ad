/-
  Contracts over this program: which rule counts where a text begins (rule's find).
-/
import Derived.Test.YtlmodfeiphffcaaKUr
namespace Go.Proofs.Ytlmodfeiphffcaa.ru
open Go.ChangeShapes Go.WideShapes Go.ChangeAt Go.RowKit Go.Maps
set_option linter.unusedVariables false

/-- the number of the rule that counts -/
def FindRes (l : List Ru) (s : List UInt8) (n : Int) : Prop := (∃ i : Nat, i < l.length ∧ n = (i : Int) ∧ best l s = some (nth l i)) ∨ (n = -1 ∧ best l s = none)
/-- none of the first lengths is one of a From with which the text begins -/
def NoneOf (l : List Ru) (s : List UInt8) (L : List Int) : Prop := ∀ r ∈ l, r.f <+: s → (r.fr.size : Int) ∉ L
theorem extract_list (s : ByteArray) (m : Nat) : (s.extract 0 m).data.toList = s.data.toList.take m := by
  simp [ByteArray.data_extract]
theorem find_hit {l : List Ru} (hg : Good l) {s : List UInt8} {k m : Nat} (hk : k < (lensOf l).length) (hm : (lensOf l)[k] = (m : Int)) (hn : NoneOf l s ((lensOf l).take k)) {i : Nat} (hi : i < l.length) (hp : (nth l i).f = s.take m) (hms : m ≤ s.length) : best l s = some (nth l i) := by
  have hmem := nth_mem l i hi
  have hpre : (nth l i).f <+: s := by rw [hp]; exact List.take_prefix _ _
  have hl : (nth l i).f.length = m := by rw [hp, List.length_take]; omega
  have hb : IsBest l s (some (nth l i)) := by
    refine ⟨fun r hr => ?_, fun r hr hr2 => ?_⟩
    · cases hr
      exact ⟨hmem, hpre⟩
    · show _ ≤ (nth l i).f.length
      rw [hl]
      have h1 := (lens_mem l (r.fr.size : Int)).2 ⟨r, hr, rfl⟩
      have h2 := hn r hr hr2
      rw [← List.take_append_drop k (lensOf l)] at h1
      rcases List.mem_append.1 h1 with h1 | h1
      · exact absurd h1 h2
      · have hd : (lensOf l).drop k = (m : Int) :: (lensOf l).drop (k + 1) := by rw [List.drop_eq_getElem_cons hk, hm]
        have hdown := (lens_down l).sublist (List.drop_sublist k _)
        rw [hd] at h1 hdown
        rw [r.f_len]
        rcases List.mem_cons.1 h1 with h1 | h1
        · omega
        · have := List.rel_of_pairwise_cons hdown h1
          omega
  exact isBest_unique hg (best_is l s) hb
theorem find_none {l : List Ru} (hg : Good l) {s : List UInt8} (hn : NoneOf l s (lensOf l)) : best l s = none := by
  refine isBest_unique hg (best_is l s) ⟨fun r hr => absurd hr (by simp), fun r hr hp => ?_⟩
  exact absurd ((lens_mem l (r.fr.size : Int)).2 ⟨r, hr, rfl⟩) (hn r hr hp)
theorem noneOf_long {l : List Ru} {s : List UInt8} {k m : Nat} (hk : k < (lensOf l).length) (hm : (lensOf l)[k] = (m : Int)) (hn : NoneOf l s ((lensOf l).take k)) (h : s.length < m) : NoneOf l s ((lensOf l).take (k + 1)) := fun r hr hp hin => by
  rw [List.take_succ_eq_append_getElem hk, hm] at hin
  rcases List.mem_append.1 hin with h1 | h1
  · exact hn r hr hp h1
  · rw [List.mem_singleton] at h1
    have := hp.length_le
    rw [r.f_len] at this
    omega
theorem noneOf_miss {l : List Ru} {s : List UInt8} {k m : Nat} (hk : k < (lensOf l).length) (hm : (lensOf l)[k] = (m : Int)) (hn : NoneOf l s ((lensOf l).take k)) (h : l.any (fun r => r.f == s.take m) = false) : NoneOf l s ((lensOf l).take (k + 1)) := fun r hr hp hin => by
  rw [List.take_succ_eq_append_getElem hk, hm] at hin
  rcases List.mem_append.1 hin with h1 | h1
  · exact hn r hr hp h1
  · rw [List.mem_singleton] at h1
    have h2 := List.any_eq_false.1 h r hr
    apply h2
    have h3 : r.f.length = m := by rw [r.f_len]; omega
    rw [beq_iff_eq, ← h3]
    exact List.prefix_iff_eq_take.1 hp
theorem lens_nat {l : List Ru} (hg : Good l) {k : Nat} (hk : k < (lensOf l).length) : ∃ m : Nat, (lensOf l)[k] = (m : Int) ∧ 1 ≤ m ∧ m ≤ 16 := by
  obtain ⟨r, hr, h⟩ := (lens_mem l _).1 (List.getElem_mem hk)
  have := bad_no.1 (hg.2.1 r hr)
  exact ⟨r.fr.size, h.symm, this.1, this.2.1⟩

section
variable {op : Oper} {a : Act} {w : World}
theorem look39 {l : List Ru} {B : Nat} {D : DataW Unit} (hown : w.ownsMap Try.prog 9 (plainElem (H := Unit) Try.prog 3) B l.length D) (s : ByteArray) (hs : s.size ≤ maxLen) :
    ∃ c : Int, (Instr.lookup 83 (.map (some B)) (.string s) true).run Try.prog w = .ok (.tuple #[.int .i64 c, .bool (Maps.has D (.string s.data.toList))]) w ∧ D.atKey (.string s.data.toList) (.lit (.int .i64 0)) = .lit (.int .i64 c) := by
  have hkey : keyOf Try.prog 9 (.string s) = some (.string s.data.toList) := Go.WideMaps.keyOf_string_mk (P := Try.prog) Try.underlying9 hs
  obtain ⟨v, ps, hrun, hv⟩ := hown.look_ok law9 Try.underlying83 (zero3 w) (plainElem_int Try.underlying3 (by decide)) hkey
  obtain ⟨c, rfl, hc, hwc⟩ := plainElem_int_inv Try.underlying3 hv
  exact ⟨c, hrun, congrArg Prod.fst hc⟩
theorem x_slice9 {x y : Operand} {s : ByteArray} {m : Nat} (h : op.op = .slice 9 x none (some y) none) (hx : a.eval x = .string s) (hy : a.eval y = .int .i64 (m : Int)) (hm : m ≤ s.size) : (execOp a.eval op).run Try.prog w = .ok (.value (.string (s.extract 0 m))) w := by
  have h1 : (m : Int) ≤ (s.size : Int) := by omega
  unfold execOp; rw [h]; simp only [hx, hy, Option.map]; go_simp
theorem x_load39 {x : Operand} {p : Addr} {v : Value} (h : op.op = .load 83 x) (hx : a.eval x = .pointer (some p)) (hc : w.cell? p = some v) : (execOp a.eval op).run Try.prog w = .ok (.value v) w := by
  unfold execOp; rw [h]; simp only [hx]; go_simp
theorem x_look39 {x y : Operand} {B : Nat} {t : ByteArray} {v : Value} (h : op.op = .lookup 83 x y true) (hx : a.eval x = .map (some B)) (hy : a.eval y = .string t) (hl : (Instr.lookup 83 (.map (some B)) (.string t) true).run Try.prog w = .ok v w) : (execOp a.eval op).run Try.prog w = .ok (.value v) w := by
  unfold execOp; rw [h]; simp only [hx, hy, Sem.run_bind, hl, Result.andThen_ok, Sem.run_pure]
end
def FindIs (l : List Ru) (s : ByteArray) : Prop := ∀ rv B D lv w, Fdr w l rv B D lv → Calls Try.prog 61 #[.agg #[rv, .map (some B), lv], .string s] w fun e w' => (∃ n : Int, e = .returned (.int .i64 n) ∧ FindRes l s.data.toList n) ∧ Below w.heap.size w w'
def Kept (w1 : World) (W : World) : Prop := Below w1.heap.size w1 W
theorem Kept.drew {w1 W : World} (h : Kept w1 W) : Kept w1 W.drew := Below.drew h

set_option maxHeartbeats 4000000 in
set_option maxRecDepth 100000 in
theorem find_any (l : List Ru) (hg : Good l) (s : ByteArray) (hs : s.size ≤ 1000000) : FindIs l s := by
  intro rv B D lv w hF
  have hsl : s.data.toList.length = s.size := by cases s; rfl
  have hll : (lensOf l).length ≤ 64 := Nat.le_trans (lens_length l) hg.1
  obtain ⟨ra, rcap, hrv, _, _⟩ := hF.rus.form
  obtain ⟨w1, HW1⟩ : ∃ w1, Hid (w1 = w.alloc (.cells #[rv, .map (some B), lv] 85)) := ⟨_, rfl⟩
  have hB1 : Below w.heap.size w w1 := by rw [HW1.out]; exact (Below.refl _ _).alloc (Nat.le_refl _) _
  have hF1 := hF.below hB1
  have hn1 : w1.heap[w.heap.size]? = some (.cells #[rv, .map (some B), lv] 85 (0, 0)) := by rw [HW1.out]; exact heap_alloc_new w _
  have hc1 : w1.cell? ⟨w.heap.size, 1, none⟩ = some (.map (some B)) := by rw [Lib.cell_of_heap hn1]; rfl
  have hc2 : w1.cell? ⟨w.heap.size, 2, none⟩ = some lv := by rw [Lib.cell_of_heap hn1]; rfl
  have hlt1 : w.heap.size < w1.heap.size := (Array.getElem?_eq_some_iff.1 hn1).1
  have HF1 := (show Hid _ from hF1)
  have hrow := hF1.row
  subst hrv
  clear hF hF1 hn1
  rcases hrow with ⟨h0, a, cap, rfl⟩ | ⟨b, cap, rfl, hl, hm, hlt, hc⟩
  · have HE := (show Hid (best l s.data.toList = none) from find_none hg (by rw [h0]; intro r hr hp h; cases h))
    rw [HW1.out] at hc2
    go_enter Try.func61, Try.ntmps61
    go_wp2
    rw [← HW1.out]
    go_loopw [12] (fun x wr => x = .int .i64 0 ∧ wr = w1) (fun _ _ => 0)
    case atStart => exact ⟨rfl, rfl⟩
    case round =>
      obtain ⟨rfl, rfl⟩ := hrel
      go_wp2
      go_ret
      exact ⟨⟨_, rfl, .inr ⟨rfl, HE.out⟩⟩, hB1⟩
  · rw [HW1.out] at hc2
    go_enter Try.func61, Try.ntmps61
    go_wp2
    rw [← HW1.out]
    clear hc2
    go_loopw [12] (fun y wr => ∃ (k : Nat), y = .int .i64 k ∧ k ≤ (lensOf l).length ∧ Kept w1 wr ∧ Hid (NoneOf l s.data.toList ((lensOf l).take k))) (fun y _ => (lensOf l).length - (intOf y).toNat)
    case atStart => exact ⟨0, rfl, by omega, Below.refl _ _, fun r hr hp h => by simp at h⟩
    case round =>
      obtain ⟨k, rfl, hk, hK, HN⟩ := hrel
      by_cases hend : k < (lensOf l).length
      · obtain ⟨m, hm1, hm2, hm3⟩ := lens_nat hg hend
        have hck := hc k hend
        rw [hm1, ← Below.cell (p := ⟨b, k, none⟩) hK hlt] at hck
        have hc1' := hc1
        rw [← Below.cell (p := ⟨w.heap.size, 1, none⟩) hK hlt1] at hc1'
        by_cases hbig : s.size < m
        · have HN2 := (show Hid _ from noneOf_long hend hm1 HN.out (by rw [hsl]; exact hbig))
          have f1 : (s.size : Int) < (m : Int) := by omega
          clear hc HN
          go_wp2
          go_roundw
          case rel => exact ⟨k + 1, by go_num, by omega, hK, HN2⟩
          case measure => simp [intOf]; omega
        · have f1 : ¬ (s.size : Int) < (m : Int) := by omega
          have hsz : (s.extract 0 m).size ≤ maxLen := by rw [ByteArray.size_extract]; unfold maxLen; omega
          have HFk := (show Hid (∀ W, Kept w1 W → Fdr W l (.slice ra l.length rcap) B D (.slice (some ⟨b, 0, none⟩) (lensOf l).length cap)) from fun W h => HF1.out.below h)
          obtain ⟨c, hlk, hat⟩ := look39 (HFk.out wr hK).own (s.extract 0 m) hsz
          rw [extract_list] at hlk hat
          have hhas := HF1.out.map.has (s.data.toList.take m)
          have HLK := (show Hid (∀ W, Kept w1 W → (Instr.lookup 83 (.map (some B)) (.string (s.extract 0 m)) true).run Try.prog W = .ok (.tuple #[.int .i64 c, .bool (l.any (fun r => r.f == s.data.toList.take m))]) W) from fun W h => by
            obtain ⟨c2, hlk2, hat2⟩ := look39 (HFk.out W h).own (s.extract 0 m) hsz
            rw [extract_list] at hlk2 hat2
            rw [hat] at hat2
            simp only [DataW.lit.injEq, Lit.int.injEq, true_and] at hat2
            rw [hlk2, hhas, hat2])
          cases hany : l.any (fun r => r.f == s.data.toList.take m)
          · have HN2 := (show Hid _ from noneOf_miss hend hm1 HN.out hany)
            rw [hany] at HLK
            clear hc HN hany hlk hat hhas HFk
            go_wp2
            refine wp_region_held (S := Kept w1) (by kernel_rfl) ?_
            refine df.take_op (i := 0) 21 rfl rfl (df.yields_run rfl (v := .pointer (some ⟨w.heap.size, 1, none⟩)) (fun W h => by kernel_rfl)) (by kernel_rfl) (by kernel_rfl) (by kernel_rfl) (fun _ _ _ h => h) hK.drew ?_
            simp only [Act.put, List.setIfInBounds_toArray, List.set_cons_zero, List.set_cons_succ]
            refine df.take_op (i := 1) 22 rfl rfl (df.yields_run rfl (v := .map (some B)) (fun W h => x_load39 (x := .tmp 21) rfl rfl (by rw [Below.cell h hlt1]; exact hc1))) (by kernel_rfl) (by kernel_rfl) (by kernel_rfl) (fun _ _ _ h => h) hK.drew ?_
            simp only [Act.put, List.setIfInBounds_toArray, List.set_cons_zero, List.set_cons_succ]
            refine df.take_op (i := 2) 23 rfl rfl (df.yields_move rfl (.tmp 1) rfl) (by kernel_rfl) (by kernel_rfl) (by kernel_rfl) (fun _ _ _ h => h) hK.drew ?_
            simp only [Act.put, List.setIfInBounds_toArray, List.set_cons_zero, List.set_cons_succ]
            refine df.take_op (i := 3) 24 rfl rfl (df.yields_move rfl (.tmp 6) rfl) (by kernel_rfl) (by kernel_rfl) (by kernel_rfl) (fun _ _ _ h => h) hK.drew ?_
            simp only [Act.put, List.setIfInBounds_toArray, List.set_cons_zero, List.set_cons_succ]
            refine df.take_op (i := 4) 25 rfl rfl (df.yields_run rfl (v := .string (s.extract 0 m)) (fun W h => x_slice9 (x := .tmp 23) (y := .tmp 24) rfl rfl rfl (by omega))) (by kernel_rfl) (by kernel_rfl) (by kernel_rfl) (fun _ _ _ h => h) hK.drew ?_
            simp only [Act.put, List.setIfInBounds_toArray, List.set_cons_zero, List.set_cons_succ]
            refine df.take_op (i := 5) 26 rfl rfl (df.yields_run rfl (v := .tuple #[.int .i64 c, .bool false]) (fun W h => x_look39 (x := .tmp 22) (y := .tmp 25) rfl rfl rfl (HLK.out W h))) (by kernel_rfl) (by kernel_rfl) (by kernel_rfl) (fun _ _ _ h => h) hK.drew ?_
            simp only [Act.put, List.setIfInBounds_toArray, List.set_cons_zero, List.set_cons_succ]
            refine df.take_op (i := 6) 20 rfl rfl (df.yields_move rfl (.tmp 26) rfl) (by kernel_rfl) (by kernel_rfl) (by kernel_rfl) (fun _ _ _ h => h) hK.drew ?_
            simp only [Act.put, List.setIfInBounds_toArray, List.set_cons_zero, List.set_cons_succ]
            refine df.take_op (i := 7) 27 rfl rfl (df.yields_run rfl (v := .int .i64 c) (fun W h => by kernel_rfl)) (by kernel_rfl) (by kernel_rfl) (by kernel_rfl) (fun _ _ _ h => h) hK.drew ?_
            simp only [Act.put, List.setIfInBounds_toArray, List.set_cons_zero, List.set_cons_succ]
            refine df.take_op (i := 9) 7 rfl rfl (df.yields_assign rfl (.tmp 27) rfl) (by kernel_rfl) (by kernel_rfl) (by kernel_rfl) (fun _ _ _ h => h) hK.drew ?_
            simp only [Act.put, List.setIfInBounds_toArray, List.set_cons_zero, List.set_cons_succ]
            refine df.take_op (i := 8) 28 rfl rfl (df.yields_run rfl (v := .bool false) (fun W h => by kernel_rfl)) (by kernel_rfl) (by kernel_rfl) (by kernel_rfl) (fun _ _ _ h => h) hK.drew ?_
            simp only [Act.put, List.setIfInBounds_toArray, List.set_cons_zero, List.set_cons_succ]
            refine df.take_op (i := 10) 8 rfl rfl (df.yields_assign rfl (.tmp 28) rfl) (by kernel_rfl) (by kernel_rfl) (by kernel_rfl) (fun _ _ _ h => h) hK.drew ?_
            simp only [Act.put, List.setIfInBounds_toArray, List.set_cons_zero, List.set_cons_succ]
            refine df.done_op (by kernel_rfl) ?_
            go_wp2
            go_roundw
            case rel => exact ⟨k + 1, by go_num, by omega, hK.drew, HN2⟩
            case measure => simp [intOf]; omega
          · obtain ⟨i, hi, hfi⟩ : ∃ i, i < l.length ∧ (nth l i).f = s.data.toList.take m := by
              obtain ⟨r, hr, hf⟩ := List.any_eq_true.1 hany
              obtain ⟨i, hi, he⟩ := List.mem_iff_getElem.1 hr
              refine ⟨i, hi, ?_⟩
              have : nth l i = r := by
                unfold nth
                rw [List.getD_eq_getElem?_getD, List.getElem?_eq_getElem hi]
                exact he
              rw [this]
              simpa using hf
            have hci : c = (i : Int) := by
              have h1 := HF1.out.map.at' hg.2.2 i hi
              rw [hfi, hat] at h1
              simpa using h1
            have HR := (show Hid (FindRes l s.data.toList c) from .inl ⟨i, hi, hci, find_hit hg hend hm1 HN.out hi hfi (by omega)⟩)
            rw [hany] at HLK
            clear hc HN hany hlk hat hhas HFk hfi hci
            go_wp2
            refine wp_region_held (S := Kept w1) (by kernel_rfl) ?_
            refine df.take_op (i := 0) 21 rfl rfl (df.yields_run rfl (v := .pointer (some ⟨w.heap.size, 1, none⟩)) (fun W h => by kernel_rfl)) (by kernel_rfl) (by kernel_rfl) (by kernel_rfl) (fun _ _ _ h => h) hK.drew ?_
            simp only [Act.put, List.setIfInBounds_toArray, List.set_cons_zero, List.set_cons_succ]
            refine df.take_op (i := 1) 22 rfl rfl (df.yields_run rfl (v := .map (some B)) (fun W h => x_load39 (x := .tmp 21) rfl rfl (by rw [Below.cell h hlt1]; exact hc1))) (by kernel_rfl) (by kernel_rfl) (by kernel_rfl) (fun _ _ _ h => h) hK.drew ?_
            simp only [Act.put, List.setIfInBounds_toArray, List.set_cons_zero, List.set_cons_succ]
            refine df.take_op (i := 2) 23 rfl rfl (df.yields_move rfl (.tmp 1) rfl) (by kernel_rfl) (by kernel_rfl) (by kernel_rfl) (fun _ _ _ h => h) hK.drew ?_
            simp only [Act.put, List.setIfInBounds_toArray, List.set_cons_zero, List.set_cons_succ]
            refine df.take_op (i := 3) 24 rfl rfl (df.yields_move rfl (.tmp 6) rfl) (by kernel_rfl) (by kernel_rfl) (by kernel_rfl) (fun _ _ _ h => h) hK.drew ?_
            simp only [Act.put, List.setIfInBounds_toArray, List.set_cons_zero, List.set_cons_succ]
            refine df.take_op (i := 4) 25 rfl rfl (df.yields_run rfl (v := .string (s.extract 0 m)) (fun W h => x_slice9 (x := .tmp 23) (y := .tmp 24) rfl rfl rfl (by omega))) (by kernel_rfl) (by kernel_rfl) (by kernel_rfl) (fun _ _ _ h => h) hK.drew ?_
            simp only [Act.put, List.setIfInBounds_toArray, List.set_cons_zero, List.set_cons_succ]
            refine df.take_op (i := 5) 26 rfl rfl (df.yields_run rfl (v := .tuple #[.int .i64 c, .bool true]) (fun W h => x_look39 (x := .tmp 22) (y := .tmp 25) rfl rfl rfl (HLK.out W h))) (by kernel_rfl) (by kernel_rfl) (by kernel_rfl) (fun _ _ _ h => h) hK.drew ?_
            simp only [Act.put, List.setIfInBounds_toArray, List.set_cons_zero, List.set_cons_succ]
            refine df.take_op (i := 6) 20 rfl rfl (df.yields_move rfl (.tmp 26) rfl) (by kernel_rfl) (by kernel_rfl) (by kernel_rfl) (fun _ _ _ h => h) hK.drew ?_
            simp only [Act.put, List.setIfInBounds_toArray, List.set_cons_zero, List.set_cons_succ]
            refine df.take_op (i := 7) 27 rfl rfl (df.yields_run rfl (v := .int .i64 c) (fun W h => by kernel_rfl)) (by kernel_rfl) (by kernel_rfl) (by kernel_rfl) (fun _ _ _ h => h) hK.drew ?_
            simp only [Act.put, List.setIfInBounds_toArray, List.set_cons_zero, List.set_cons_succ]
            refine df.take_op (i := 9) 7 rfl rfl (df.yields_assign rfl (.tmp 27) rfl) (by kernel_rfl) (by kernel_rfl) (by kernel_rfl) (fun _ _ _ h => h) hK.drew ?_
            simp only [Act.put, List.setIfInBounds_toArray, List.set_cons_zero, List.set_cons_succ]
            refine df.take_op (i := 8) 28 rfl rfl (df.yields_run rfl (v := .bool true) (fun W h => by kernel_rfl)) (by kernel_rfl) (by kernel_rfl) (by kernel_rfl) (fun _ _ _ h => h) hK.drew ?_
            simp only [Act.put, List.setIfInBounds_toArray, List.set_cons_zero, List.set_cons_succ]
            refine df.take_op (i := 10) 8 rfl rfl (df.yields_assign rfl (.tmp 28) rfl) (by kernel_rfl) (by kernel_rfl) (by kernel_rfl) (fun _ _ _ h => h) hK.drew ?_
            simp only [Act.put, List.setIfInBounds_toArray, List.set_cons_zero, List.set_cons_succ]
            refine df.done_op (by kernel_rfl) ?_
            go_wp2
            go_ret
            exact ⟨⟨_, rfl, HR.out⟩, chain hB1 hK.drew⟩
      · have HE := (show Hid (best l s.data.toList = none) from find_none hg (by have := HN.out; rw [List.take_of_length_le (by omega)] at this; exact this))
        clear hc HN
        go_wp2
        go_ret
        exact ⟨⟨_, rfl, .inr ⟨rfl, HE.out⟩⟩, chain hB1 hK⟩
end Go.Proofs.Ytlmodfeiphffcaa.ru
