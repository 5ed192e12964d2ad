/-
  Texts put together: Contracts over this program: which rule counts where a text begins (rule's find). The library's contract for a strings.Builder's String, laid at this program; copyCheck and WriteString walked anew; a builder in a world that has grown. Contracts over this program: a text, rewritten (rule.rewrite). Contracts over this program: rule.Apply, rule.Grow. Regions that read rules, by hand.
-/
import Derived.Test.YthmecbonjkcnmaaGreatM10
import Derived.Shelf.Strings.BuilderK
import Derived.Test.YthmecbonjkcnmaaGreatM09
import Derived.WalkKit
import Derived.BigCall
namespace Go.Proofs.YthmecbonjkcnmaaGreat.ru
open Go.ChangeShapes Go.WideShapes Go.ChangeAt Go.RowKit Go.Maps
set_option linter.unusedVariables false

/-- the number of the rule that counts -/
def FindRes (l : List Ru) (s : List UInt8) (n : Int) : Prop := (∃ i : Nat, i < l.length ∧ n = (i : Int) ∧ best l s = some (nth l i)) ∨ (n = -1 ∧ best l s = none)
/-- none of the first lengths is one of a From with which the text begins -/
def NoneOf (l : List Ru) (s : List UInt8) (L : List Int) : Prop := ∀ r ∈ l, r.f <+: s → (r.fr.size : Int) ∉ L
theorem extract_list (s : ByteArray) (m : Nat) : (s.extract 0 m).data.toList = s.data.toList.take m := by
  simp [ByteArray.data_extract]
theorem find_hit {l : List Ru} (hg : Good l) {s : List UInt8} {k m : Nat} (hk : k < (lensOf l).length) (hm : (lensOf l)[k] = (m : Int)) (hn : NoneOf l s ((lensOf l).take k)) {i : Nat} (hi : i < l.length) (hp : (nth l i).f = s.take m) (hms : m ≤ s.length) : best l s = some (nth l i) := by
  have hmem := nth_mem l i hi
  have hpre : (nth l i).f <+: s := by rw [hp]; exact List.take_prefix _ _
  have hl : (nth l i).f.length = m := by rw [hp, List.length_take]; omega
  have hb : IsBest l s (some (nth l i)) := by
    refine ⟨fun r hr => ?_, fun r hr hr2 => ?_⟩
    · cases hr
      exact ⟨hmem, hpre⟩
    · show _ ≤ (nth l i).f.length
      rw [hl]
      have h1 := (lens_mem l (r.fr.size : Int)).2 ⟨r, hr, rfl⟩
      have h2 := hn r hr hr2
      rw [← List.take_append_drop k (lensOf l)] at h1
      rcases List.mem_append.1 h1 with h1 | h1
      · exact absurd h1 h2
      · have hd : (lensOf l).drop k = (m : Int) :: (lensOf l).drop (k + 1) := by rw [List.drop_eq_getElem_cons hk, hm]
        have hdown := (lens_down l).sublist (List.drop_sublist k _)
        rw [hd] at h1 hdown
        rw [r.f_len]
        rcases List.mem_cons.1 h1 with h1 | h1
        · omega
        · have := List.rel_of_pairwise_cons hdown h1
          omega
  exact isBest_unique hg (best_is l s) hb
theorem find_none {l : List Ru} (hg : Good l) {s : List UInt8} (hn : NoneOf l s (lensOf l)) : best l s = none := by
  refine isBest_unique hg (best_is l s) ⟨fun r hr => absurd hr (by simp), fun r hr hp => ?_⟩
  exact absurd ((lens_mem l (r.fr.size : Int)).2 ⟨r, hr, rfl⟩) (hn r hr hp)
theorem noneOf_long {l : List Ru} {s : List UInt8} {k m : Nat} (hk : k < (lensOf l).length) (hm : (lensOf l)[k] = (m : Int)) (hn : NoneOf l s ((lensOf l).take k)) (h : s.length < m) : NoneOf l s ((lensOf l).take (k + 1)) := fun r hr hp hin => by
  rw [List.take_succ_eq_append_getElem hk, hm] at hin
  rcases List.mem_append.1 hin with h1 | h1
  · exact hn r hr hp h1
  · rw [List.mem_singleton] at h1
    have := hp.length_le
    rw [r.f_len] at this
    omega
theorem noneOf_miss {l : List Ru} {s : List UInt8} {k m : Nat} (hk : k < (lensOf l).length) (hm : (lensOf l)[k] = (m : Int)) (hn : NoneOf l s ((lensOf l).take k)) (h : l.any (fun r => r.f == s.take m) = false) : NoneOf l s ((lensOf l).take (k + 1)) := fun r hr hp hin => by
  rw [List.take_succ_eq_append_getElem hk, hm] at hin
  rcases List.mem_append.1 hin with h1 | h1
  · exact hn r hr hp h1
  · rw [List.mem_singleton] at h1
    have h2 := List.any_eq_false.1 h r hr
    apply h2
    have h3 : r.f.length = m := by rw [r.f_len]; omega
    rw [beq_iff_eq, ← h3]
    exact List.prefix_iff_eq_take.1 hp
theorem lens_nat {l : List Ru} (hg : Good l) {k : Nat} (hk : k < (lensOf l).length) : ∃ m : Nat, (lensOf l)[k] = (m : Int) ∧ 1 ≤ m ∧ m ≤ 16 := by
  obtain ⟨r, hr, h⟩ := (lens_mem l _).1 (List.getElem_mem hk)
  have := bad_no.1 (hg.2.1 r hr)
  exact ⟨r.fr.size, h.symm, this.1, this.2.1⟩

section
variable {op : Oper} {a : Act} {w : World}
theorem look75 {l : List Ru} {B : Nat} {D : DataW Unit} (hown : w.ownsMap Tryz.prog 9 (plainElem (H := Unit) Tryz.prog 3) B l.length D) (s : ByteArray) (hs : s.size ≤ maxLen) :
    ∃ c : Int, (Instr.lookup 75 (.map (some B)) (.string s) true).run Tryz.prog w = .ok (.tuple #[.int .i64 c, .bool (Maps.has D (.string s.data.toList))]) w ∧ D.atKey (.string s.data.toList) (.lit (.int .i64 0)) = .lit (.int .i64 c) := by
  have hkey : keyOf Tryz.prog 9 (.string s) = some (.string s.data.toList) := Go.WideMaps.keyOf_string_mk (P := Tryz.prog) Tryz.underlying9 hs
  obtain ⟨v, ps, hrun, hv⟩ := hown.look_ok law9 Tryz.underlying75 (zero3 w) (plainElem_int Tryz.underlying3 (by decide)) hkey
  obtain ⟨c, rfl, hc, hwc⟩ := plainElem_int_inv Tryz.underlying3 hv
  exact ⟨c, hrun, congrArg Prod.fst hc⟩
theorem x_slice9 {x y : Operand} {s : ByteArray} {m : Nat} (h : op.op = .slice 9 x none (some y) none) (hx : a.eval x = .string s) (hy : a.eval y = .int .i64 (m : Int)) (hm : m ≤ s.size) : (execOp a.eval op).run Tryz.prog w = .ok (.value (.string (s.extract 0 m))) w := by
  have h1 : (m : Int) ≤ (s.size : Int) := by omega
  unfold execOp; rw [h]; simp only [hx, hy, Option.map]; go_simp
theorem x_load75 {x : Operand} {p : Addr} {v : Value} (h : op.op = .load 75 x) (hx : a.eval x = .pointer (some p)) (hc : w.cell? p = some v) : (execOp a.eval op).run Tryz.prog w = .ok (.value v) w := by
  unfold execOp; rw [h]; simp only [hx]; go_simp
theorem x_look39 {x y : Operand} {B : Nat} {t : ByteArray} {v : Value} (h : op.op = .lookup 75 x y true) (hx : a.eval x = .map (some B)) (hy : a.eval y = .string t) (hl : (Instr.lookup 75 (.map (some B)) (.string t) true).run Tryz.prog w = .ok v w) : (execOp a.eval op).run Tryz.prog w = .ok (.value v) w := by
  unfold execOp; rw [h]; simp only [hx, hy, Sem.run_bind, hl, Result.andThen_ok, Sem.run_pure]
end
def FindIs (l : List Ru) (s : ByteArray) : Prop := ∀ rv B D lv w, Fdr w l rv B D lv → Calls Tryz.prog 62 #[.agg #[rv, .map (some B), lv], .string s] w fun e w' => (∃ n : Int, e = .returned (.int .i64 n) ∧ FindRes l s.data.toList n) ∧ Below w.heap.size w w'
def Kept (w1 : World) (W : World) : Prop := Below w1.heap.size w1 W
theorem Kept.drew {w1 W : World} (h : Kept w1 W) : Kept w1 W.drew := Below.drew h

set_option maxHeartbeats 4000000 in
set_option maxRecDepth 100000 in
theorem find_any (l : List Ru) (hg : Good l) (s : ByteArray) (hs : s.size ≤ 1000000) : FindIs l s := by
  intro rv B D lv w hF
  have hsl : s.data.toList.length = s.size := by cases s; rfl
  have hll : (lensOf l).length ≤ 64 := Nat.le_trans (lens_length l) hg.1
  obtain ⟨ra, rcap, hrv, _, _⟩ := hF.rus.form
  obtain ⟨w1, HW1⟩ : ∃ w1, Hid (w1 = w.alloc (.cells #[rv, .map (some B), lv] 77)) := ⟨_, rfl⟩
  have hB1 : Below w.heap.size w w1 := by rw [HW1.out]; exact (Below.refl _ _).alloc (Nat.le_refl _) _
  have hF1 := hF.below hB1
  have hn1 : w1.heap[w.heap.size]? = some (.cells #[rv, .map (some B), lv] 77 (0, 0)) := by rw [HW1.out]; exact heap_alloc_new w _
  have hc1 : w1.cell? ⟨w.heap.size, 1, none⟩ = some (.map (some B)) := by rw [Lib.cell_of_heap hn1]; rfl
  have hc2 : w1.cell? ⟨w.heap.size, 2, none⟩ = some lv := by rw [Lib.cell_of_heap hn1]; rfl
  have hlt1 : w.heap.size < w1.heap.size := (Array.getElem?_eq_some_iff.1 hn1).1
  have HF1 := (show Hid _ from hF1)
  have hrow := hF1.row
  subst hrv
  clear hF hF1 hn1
  rcases hrow with ⟨h0, a, cap, rfl⟩ | ⟨b, cap, rfl, hl, hm, hlt, hc⟩
  · have HE := (show Hid (best l s.data.toList = none) from find_none hg (by rw [h0]; intro r hr hp h; cases h))
    rw [HW1.out] at hc2
    go_enter Tryz.func62, Tryz.ntmps62
    go_wp2
    rw [← HW1.out]
    go_loopw [12] (fun x wr => x = .int .i64 0 ∧ wr = w1) (fun _ _ => 0)
    case atStart => exact ⟨rfl, rfl⟩
    case round =>
      obtain ⟨rfl, rfl⟩ := hrel
      go_wp2
      go_ret
      exact ⟨⟨_, rfl, .inr ⟨rfl, HE.out⟩⟩, hB1⟩
  · rw [HW1.out] at hc2
    go_enter Tryz.func62, Tryz.ntmps62
    go_wp2
    rw [← HW1.out]
    clear hc2
    go_loopw [12] (fun y wr => ∃ (k : Nat), y = .int .i64 k ∧ k ≤ (lensOf l).length ∧ Kept w1 wr ∧ Hid (NoneOf l s.data.toList ((lensOf l).take k))) (fun y _ => (lensOf l).length - (intOf y).toNat)
    case atStart => exact ⟨0, rfl, by omega, Below.refl _ _, fun r hr hp h => by simp at h⟩
    case round =>
      obtain ⟨k, rfl, hk, hK, HN⟩ := hrel
      by_cases hend : k < (lensOf l).length
      · obtain ⟨m, hm1, hm2, hm3⟩ := lens_nat hg hend
        have hck := hc k hend
        rw [hm1, ← Below.cell (p := ⟨b, k, none⟩) hK hlt] at hck
        have hc1' := hc1
        rw [← Below.cell (p := ⟨w.heap.size, 1, none⟩) hK hlt1] at hc1'
        by_cases hbig : s.size < m
        · have HN2 := (show Hid _ from noneOf_long hend hm1 HN.out (by rw [hsl]; exact hbig))
          have f1 : (s.size : Int) < (m : Int) := by omega
          clear hc HN
          go_wp2
          go_roundw
          case rel => exact ⟨k + 1, by go_num, by omega, hK, HN2⟩
          case measure => simp [intOf]; omega
        · have f1 : ¬ (s.size : Int) < (m : Int) := by omega
          have hsz : (s.extract 0 m).size ≤ maxLen := by rw [ByteArray.size_extract]; unfold maxLen; omega
          have HFk := (show Hid (∀ W, Kept w1 W → Fdr W l (.slice ra l.length rcap) B D (.slice (some ⟨b, 0, none⟩) (lensOf l).length cap)) from fun W h => HF1.out.below h)
          obtain ⟨c, hlk, hat⟩ := look75 (HFk.out wr hK).own (s.extract 0 m) hsz
          rw [extract_list] at hlk hat
          have hhas := HF1.out.map.has (s.data.toList.take m)
          have HLK := (show Hid (∀ W, Kept w1 W → (Instr.lookup 75 (.map (some B)) (.string (s.extract 0 m)) true).run Tryz.prog W = .ok (.tuple #[.int .i64 c, .bool (l.any (fun r => r.f == s.data.toList.take m))]) W) from fun W h => by
            obtain ⟨c2, hlk2, hat2⟩ := look75 (HFk.out W h).own (s.extract 0 m) hsz
            rw [extract_list] at hlk2 hat2
            rw [hat] at hat2
            simp only [DataW.lit.injEq, Lit.int.injEq, true_and] at hat2
            rw [hlk2, hhas, hat2])
          cases hany : l.any (fun r => r.f == s.data.toList.take m)
          · have HN2 := (show Hid _ from noneOf_miss hend hm1 HN.out hany)
            rw [hany] at HLK
            clear hc HN hany hlk hat hhas HFk
            go_wp2
            refine wp_region_held (S := Kept w1) (by kernel_rfl) ?_
            refine df.take_op (i := 0) 21 rfl rfl (df.yields_run rfl (v := .pointer (some ⟨w.heap.size, 1, none⟩)) (fun W h => by kernel_rfl)) (by kernel_rfl) (by kernel_rfl) (by kernel_rfl) (fun _ _ _ h => h) hK.drew ?_
            simp only [Act.put, List.setIfInBounds_toArray, List.set_cons_zero, List.set_cons_succ]
            refine df.take_op (i := 1) 22 rfl rfl (df.yields_run rfl (v := .map (some B)) (fun W h => x_load75 (x := .tmp 21) rfl rfl (by rw [Below.cell h hlt1]; exact hc1))) (by kernel_rfl) (by kernel_rfl) (by kernel_rfl) (fun _ _ _ h => h) hK.drew ?_
            simp only [Act.put, List.setIfInBounds_toArray, List.set_cons_zero, List.set_cons_succ]
            refine df.take_op (i := 2) 23 rfl rfl (df.yields_move rfl (.tmp 1) rfl) (by kernel_rfl) (by kernel_rfl) (by kernel_rfl) (fun _ _ _ h => h) hK.drew ?_
            simp only [Act.put, List.setIfInBounds_toArray, List.set_cons_zero, List.set_cons_succ]
            refine df.take_op (i := 3) 24 rfl rfl (df.yields_move rfl (.tmp 6) rfl) (by kernel_rfl) (by kernel_rfl) (by kernel_rfl) (fun _ _ _ h => h) hK.drew ?_
            simp only [Act.put, List.setIfInBounds_toArray, List.set_cons_zero, List.set_cons_succ]
            refine df.take_op (i := 4) 25 rfl rfl (df.yields_run rfl (v := .string (s.extract 0 m)) (fun W h => x_slice9 (x := .tmp 23) (y := .tmp 24) rfl rfl rfl (by omega))) (by kernel_rfl) (by kernel_rfl) (by kernel_rfl) (fun _ _ _ h => h) hK.drew ?_
            simp only [Act.put, List.setIfInBounds_toArray, List.set_cons_zero, List.set_cons_succ]
            refine df.take_op (i := 5) 26 rfl rfl (df.yields_run rfl (v := .tuple #[.int .i64 c, .bool false]) (fun W h => x_look39 (x := .tmp 22) (y := .tmp 25) rfl rfl rfl (HLK.out W h))) (by kernel_rfl) (by kernel_rfl) (by kernel_rfl) (fun _ _ _ h => h) hK.drew ?_
            simp only [Act.put, List.setIfInBounds_toArray, List.set_cons_zero, List.set_cons_succ]
            refine df.take_op (i := 6) 20 rfl rfl (df.yields_move rfl (.tmp 26) rfl) (by kernel_rfl) (by kernel_rfl) (by kernel_rfl) (fun _ _ _ h => h) hK.drew ?_
            simp only [Act.put, List.setIfInBounds_toArray, List.set_cons_zero, List.set_cons_succ]
            refine df.take_op (i := 7) 27 rfl rfl (df.yields_run rfl (v := .int .i64 c) (fun W h => by kernel_rfl)) (by kernel_rfl) (by kernel_rfl) (by kernel_rfl) (fun _ _ _ h => h) hK.drew ?_
            simp only [Act.put, List.setIfInBounds_toArray, List.set_cons_zero, List.set_cons_succ]
            refine df.take_op (i := 9) 7 rfl rfl (df.yields_assign rfl (.tmp 27) rfl) (by kernel_rfl) (by kernel_rfl) (by kernel_rfl) (fun _ _ _ h => h) hK.drew ?_
            simp only [Act.put, List.setIfInBounds_toArray, List.set_cons_zero, List.set_cons_succ]
            refine df.take_op (i := 8) 28 rfl rfl (df.yields_run rfl (v := .bool false) (fun W h => by kernel_rfl)) (by kernel_rfl) (by kernel_rfl) (by kernel_rfl) (fun _ _ _ h => h) hK.drew ?_
            simp only [Act.put, List.setIfInBounds_toArray, List.set_cons_zero, List.set_cons_succ]
            refine df.take_op (i := 10) 8 rfl rfl (df.yields_assign rfl (.tmp 28) rfl) (by kernel_rfl) (by kernel_rfl) (by kernel_rfl) (fun _ _ _ h => h) hK.drew ?_
            simp only [Act.put, List.setIfInBounds_toArray, List.set_cons_zero, List.set_cons_succ]
            refine df.done_op (by kernel_rfl) ?_
            go_wp2
            go_roundw
            case rel => exact ⟨k + 1, by go_num, by omega, hK.drew, HN2⟩
            case measure => simp [intOf]; omega
          · obtain ⟨i, hi, hfi⟩ : ∃ i, i < l.length ∧ (nth l i).f = s.data.toList.take m := by
              obtain ⟨r, hr, hf⟩ := List.any_eq_true.1 hany
              obtain ⟨i, hi, he⟩ := List.mem_iff_getElem.1 hr
              refine ⟨i, hi, ?_⟩
              have : nth l i = r := by
                unfold nth
                rw [List.getD_eq_getElem?_getD, List.getElem?_eq_getElem hi]
                exact he
              rw [this]
              simpa using hf
            have hci : c = (i : Int) := by
              have h1 := HF1.out.map.at' hg.2.2 i hi
              rw [hfi, hat] at h1
              simpa using h1
            have HR := (show Hid (FindRes l s.data.toList c) from .inl ⟨i, hi, hci, find_hit hg hend hm1 HN.out hi hfi (by omega)⟩)
            rw [hany] at HLK
            clear hc HN hany hlk hat hhas HFk hfi hci
            go_wp2
            refine wp_region_held (S := Kept w1) (by kernel_rfl) ?_
            refine df.take_op (i := 0) 21 rfl rfl (df.yields_run rfl (v := .pointer (some ⟨w.heap.size, 1, none⟩)) (fun W h => by kernel_rfl)) (by kernel_rfl) (by kernel_rfl) (by kernel_rfl) (fun _ _ _ h => h) hK.drew ?_
            simp only [Act.put, List.setIfInBounds_toArray, List.set_cons_zero, List.set_cons_succ]
            refine df.take_op (i := 1) 22 rfl rfl (df.yields_run rfl (v := .map (some B)) (fun W h => x_load75 (x := .tmp 21) rfl rfl (by rw [Below.cell h hlt1]; exact hc1))) (by kernel_rfl) (by kernel_rfl) (by kernel_rfl) (fun _ _ _ h => h) hK.drew ?_
            simp only [Act.put, List.setIfInBounds_toArray, List.set_cons_zero, List.set_cons_succ]
            refine df.take_op (i := 2) 23 rfl rfl (df.yields_move rfl (.tmp 1) rfl) (by kernel_rfl) (by kernel_rfl) (by kernel_rfl) (fun _ _ _ h => h) hK.drew ?_
            simp only [Act.put, List.setIfInBounds_toArray, List.set_cons_zero, List.set_cons_succ]
            refine df.take_op (i := 3) 24 rfl rfl (df.yields_move rfl (.tmp 6) rfl) (by kernel_rfl) (by kernel_rfl) (by kernel_rfl) (fun _ _ _ h => h) hK.drew ?_
            simp only [Act.put, List.setIfInBounds_toArray, List.set_cons_zero, List.set_cons_succ]
            refine df.take_op (i := 4) 25 rfl rfl (df.yields_run rfl (v := .string (s.extract 0 m)) (fun W h => x_slice9 (x := .tmp 23) (y := .tmp 24) rfl rfl rfl (by omega))) (by kernel_rfl) (by kernel_rfl) (by kernel_rfl) (fun _ _ _ h => h) hK.drew ?_
            simp only [Act.put, List.setIfInBounds_toArray, List.set_cons_zero, List.set_cons_succ]
            refine df.take_op (i := 5) 26 rfl rfl (df.yields_run rfl (v := .tuple #[.int .i64 c, .bool true]) (fun W h => x_look39 (x := .tmp 22) (y := .tmp 25) rfl rfl rfl (HLK.out W h))) (by kernel_rfl) (by kernel_rfl) (by kernel_rfl) (fun _ _ _ h => h) hK.drew ?_
            simp only [Act.put, List.setIfInBounds_toArray, List.set_cons_zero, List.set_cons_succ]
            refine df.take_op (i := 6) 20 rfl rfl (df.yields_move rfl (.tmp 26) rfl) (by kernel_rfl) (by kernel_rfl) (by kernel_rfl) (fun _ _ _ h => h) hK.drew ?_
            simp only [Act.put, List.setIfInBounds_toArray, List.set_cons_zero, List.set_cons_succ]
            refine df.take_op (i := 7) 27 rfl rfl (df.yields_run rfl (v := .int .i64 c) (fun W h => by kernel_rfl)) (by kernel_rfl) (by kernel_rfl) (by kernel_rfl) (fun _ _ _ h => h) hK.drew ?_
            simp only [Act.put, List.setIfInBounds_toArray, List.set_cons_zero, List.set_cons_succ]
            refine df.take_op (i := 9) 7 rfl rfl (df.yields_assign rfl (.tmp 27) rfl) (by kernel_rfl) (by kernel_rfl) (by kernel_rfl) (fun _ _ _ h => h) hK.drew ?_
            simp only [Act.put, List.setIfInBounds_toArray, List.set_cons_zero, List.set_cons_succ]
            refine df.take_op (i := 8) 28 rfl rfl (df.yields_run rfl (v := .bool true) (fun W h => by kernel_rfl)) (by kernel_rfl) (by kernel_rfl) (by kernel_rfl) (fun _ _ _ h => h) hK.drew ?_
            simp only [Act.put, List.setIfInBounds_toArray, List.set_cons_zero, List.set_cons_succ]
            refine df.take_op (i := 10) 8 rfl rfl (df.yields_assign rfl (.tmp 28) rfl) (by kernel_rfl) (by kernel_rfl) (by kernel_rfl) (fun _ _ _ h => h) hK.drew ?_
            simp only [Act.put, List.setIfInBounds_toArray, List.set_cons_zero, List.set_cons_succ]
            refine df.done_op (by kernel_rfl) ?_
            go_wp2
            go_ret
            exact ⟨⟨_, rfl, HR.out⟩, chain hB1 hK.drew⟩
      · have HE := (show Hid (best l s.data.toList = none) from find_none hg (by have := HN.out; rw [List.take_of_length_le (by omega)] at this; exact this))
        clear hc HN
        go_wp2
        go_ret
        exact ⟨⟨_, rfl, .inr ⟨rfl, HE.out⟩⟩, chain hB1 hK⟩
end Go.Proofs.YthmecbonjkcnmaaGreat.ru

namespace Go.Proofs.YthmecbonjkcnmaaGreat.bld
open Go.Shelf Go.RowKit
set_option linter.unusedVariables false

def ren : Go.Shelf.Ren := ⟨fun | 169 => 37 | n => n, fun | 37 => 66 | 5 => 5 | 70 => 65 | 9 => 9 | 0 => 0 | 72 => 68 | 127 => 104 | 3 => 3 | n => n, fun | n => n⟩

theorem extra : Builder.Extra Tryz.prog ren := {
  sizeBuilder := by kernel_rfl
  liesBuilder := by kernel_rfl
  t5 := Tryz.underlying5
  a5 := Tryz.isAgg5
  z5 := Tryz.sizeOf5
  v5 := Tryz.zeroValue5
  infoByte := by kernel_rfl
  cellsByte := by kernel_rfl
  sizeByte := by kernel_rfl
  neB5 := by decide }

theorem lays169 : Go.Proofs.Lays.n169 Tryz.prog ren := {
  mixed := by kernel_rfl
  f169 := Tryz.func37.trans (congrArg some (by kernel_rfl))
  t0 := Tryz.underlying0
  a0 := Tryz.isAgg0
  z0 := Tryz.sizeOf0
  v0 := Tryz.zeroValue0
  t3 := Tryz.underlying3
  a3 := Tryz.isAgg3
  z3 := Tryz.sizeOf3
  v3 := Tryz.zeroValue3
  t9 := Tryz.underlying9
  a9 := Tryz.isAgg9
  z9 := Tryz.sizeOf9
  v9 := Tryz.zeroValue9
  t37 := Tryz.underlying66
  a37 := Tryz.isAgg66
  z37 := Tryz.sizeOf66
  v37 := Tryz.zeroValue66
  t70 := Tryz.underlying65
  a70 := Tryz.isAgg65
  z70 := Tryz.sizeOf65
  v70 := Tryz.zeroValue65
  t72 := Tryz.underlying68
  a72 := Tryz.isAgg68
  z72 := Tryz.sizeOf68
  v72 := Tryz.zeroValue68
  t127 := Tryz.underlying104
  a127 := Tryz.isAgg104
  z127 := Tryz.sizeOf104
  v127 := Tryz.zeroValue104 }

/-- the text that was built -/
theorem string_any (B b : Nat) (l : List UInt8) (w : World) (h : Lib.IsBuilderF 68 5 B b (Lib.byteCells l) w) (hBw : B ≤ w.heap.size) :
    Calls Tryz.prog 37 #[.pointer (some ⟨b, 0, none⟩)] w fun e w' => e = .returned (.string ⟨l.toArray⟩) ∧ Lib.IsBuilderF 68 5 B b (Lib.byteCells l) w' ∧ Below B w w' :=
  (Any.Builder_String_any_k lays169 extra B b l w h hBw).mono fun e w' h => ⟨h.1, h.2.1, h.2.2.1⟩

set_option maxRecDepth 100000 in
theorem check_fresh (b : Nat) (w : World) (h0 : w.cell? ⟨b, 0, none⟩ = some (.pointer none)) (hsh : w.shape? b = some (68, 2)) (hfz : w.frozen? ⟨b, 0, none⟩ = false) :
    Calls Tryz.prog 58 #[.pointer (some ⟨b, 0, none⟩)] w fun e w' => e = .returned (.tuple #[]) ∧ w' = w.setCell ⟨b, 0, none⟩ (.pointer (some ⟨b, 0, none⟩)) := by
  obtain ⟨j, hj, hjs⟩ := Option.map_eq_some_iff.1 extra.sizeBuilder
  have c1 := Lib.run_to_unsafe w ⟨b, 0, none⟩ Tryz.underlying65 Tryz.underlying147 hj (by rw [hjs]; decide) hsh (Nat.zero_lt_succ 1)
  have c2 := Lib.run_from_unsafe w ⟨b, 0, none⟩ Tryz.underlying147 Tryz.underlying65 hj hsh extra.liesBuilder
  have c3 : (callFunc 83 #[.pointer (some ⟨b, 0, none⟩)]).run Tryz.prog w = .ok (.value (.pointer (some ⟨b, 0, none⟩))) w := by
    rw [run_callFunc_extern Tryz.func83 (by kernel_rfl) (by kernel_rfl) (by kernel_rfl) (e := Extern.AbiNoEscape.same) (by kernel_rfl), Lib.run_noEscape]
    rfl
  clear hj hjs
  go_enter Tryz.func58, Tryz.ntmps58
  go_wp2
  go_end0
  exact ⟨rfl, rfl⟩
theorem check_used (b : Nat) (w : World) (h0 : w.cell? ⟨b, 0, none⟩ = some (.pointer (some ⟨b, 0, none⟩))) :
    Calls Tryz.prog 58 #[.pointer (some ⟨b, 0, none⟩)] w fun e w' => e = .returned (.tuple #[]) ∧ w' = w := by
  obtain ⟨j, hj, hjs⟩ := Option.map_eq_some_iff.1 extra.sizeBuilder
  have c1 := Lib.run_neq_ptr_same w (P := Tryz.prog) (tp := 65) (te := 68) ⟨b, 0, none⟩ Tryz.underlying65 hj
  clear hj hjs
  go_enter Tryz.func58, Tryz.ntmps58
  go_wp2
  go_end0
  exact ⟨rfl, rfl⟩

theorem check (B b : Nat) (bs : List Value) (w : World) (h : Lib.IsBuilderF 68 5 B b bs w) :
    Calls Tryz.prog 58 #[.pointer (some ⟨b, 0, none⟩)] w fun e w' => e = .returned (.tuple #[]) ∧ Lib.BuilderAtF 68 5 B b (.pointer (some ⟨b, 0, none⟩)) bs w' ∧ Below B w w' ∧ Lib.OthersKept 5 (some b) w w' := by
  rcases h with h | h
  · refine (check_fresh b w h.cell0 h.shape h.frozen0).mono ?_
    rintro e w' ⟨rfl, rfl⟩
    exact ⟨rfl, h.used _, (Below.refl B w).setCell (p := ⟨b, 0, none⟩) h.1 _, (Lib.OthersKept.refl _ _ w).setCell ⟨b, 0, none⟩ rfl _⟩
  · refine (check_used b w h.cell0).mono ?_
    rintro e w' ⟨rfl, rfl⟩
    exact ⟨rfl, h, Below.refl B _, Lib.OthersKept.refl _ _ _⟩

theorem info5 : (Tryz.prog.info? 5).map (fun i => (i.zero, i.size, i.bytes)) = some (some (.int .u8 0), 1, 1) := by kernel_rfl

/-- a builder whose row has been appended to: once the new row is stored it holds what was put in, and nothing else has changed -/
theorem stored {B b : Nat} {bs : List Value} {w1 : World} (h : Lib.BuilderAtF 68 5 B b (.pointer (some ⟨b, 0, none⟩)) bs w1) (hBw : B ≤ w1.heap.size) :
    ∃ v, w1.cell? ⟨b, 1, none⟩ = some v ∧ w1.ownsRowF B 5 1 v bs.length bs ∧
      ∀ (v' : Value) (w2 : World) (more : List Value), w2.ownsRowF B 5 1 v' (bs ++ more).length (bs ++ more) → w1.grownBy w2 v.ownBlock →
        (∃ a n c, v' = .slice a n c) ∧ (w2.cell? ⟨b, 1, none⟩ = some v ∧ w2.frozen? ⟨b, 1, none⟩ = false) ∧
        Lib.IsBuilderF 68 5 B b (bs ++ more) (w2.setCell ⟨b, 1, none⟩ v') ∧ Below B w1 (w2.setCell ⟨b, 1, none⟩ v') ∧ Lib.OthersKept 5 (some b) w1 (w2.setCell ⟨b, 1, none⟩ v') := by
  obtain ⟨hB, v, blk, own, ne⟩ := h
  refine ⟨v, by rw [Lib.cell_of_heap blk]; rfl, own, fun v' w2 more own2 gr => ?_⟩
  have blk2 : w2.heap[b]? = some (.cells #[.pointer (some ⟨b, 0, none⟩), v] 68 (0, 0)) :=
    (gr.block b (Array.getElem?_eq_some_iff.1 blk).1 (Ne.symm ne)).trans blk
  refine ⟨?_, ⟨by rw [Lib.cell_of_heap blk2]; rfl, Lib.frozen_of_heap blk2 1⟩, .inr (Lib.BuilderAtF.put hB blk2 own2 extra.neB5), ?_, ?_⟩
  · rcases own2.2 with ⟨e, _⟩ | ⟨_, _, _, _, e, _⟩ <;> exact ⟨_, _, _, e⟩
  · exact ((Below.refl B w1).grown gr hBw fun k hk => (own.lt k hk).1).setCell (p := ⟨b, 1, none⟩) hB _
  · exact ((Lib.OthersKept.refl 5 (some b) w1).grown gr (Lib.ownsRowF_kind own)).setCell ⟨b, 1, none⟩ rfl _

set_option maxHeartbeats 2000000 in
set_option maxRecDepth 100000 in
/-- a text goes in behind what the builder holds -/
theorem writeString (B b : Nat) (bs : List Value) (s : ByteArray) (w : World) (h : Lib.IsBuilderF 68 5 B b bs w) (hlen : bs.length + s.size ≤ 140737488355328) (hBw : B ≤ w.heap.size) :
    Calls Tryz.prog 36 #[.pointer (some ⟨b, 0, none⟩), .string s] w fun e w' => e = .returned (.tuple #[.int .i64 s.size, .nilIface]) ∧ Lib.IsBuilderF 68 5 B b (bs ++ Lib.strCells s) w' ∧ Below B w w' ∧ Lib.OthersKept 5 (some b) w w' := by
  obtain ⟨i0, hi, hz0, hz1, hz2⟩ := info_parts info5
  have hmax : bs.length + s.size ≤ maxLen := by unfold maxLen; omega
  go_enter Tryz.func36, Tryz.ntmps36
  go_wp2_with (go_at_call 58; refine (check B b bs _ h).mono ?_)
  rintro e w1 ⟨rfl, at1, below1, kept1⟩
  have room := Nat.le_trans hBw below1.size
  obtain ⟨v, c1, own, next⟩ := stored at1 room
  go_wp2_with (at_builtin; refine Lib.wpList_append_own_stringF _ rfl _ _ 66 9 rfl B 5 i0 Tryz.underlying66 Tryz.underlying9 hi hz0 hz1 hz2 _ _ _ rfl own s rfl hmax (by omega) room ?_)
  intro v' w2 own2 gr _
  obtain ⟨⟨a, n, c, rfl⟩, ⟨c2, f2⟩, is2, below2, kept2⟩ := next v' w2 (Lib.strCells s) (by rw [List.length_append, Lib.strCells_length]; exact own2) gr
  go_wp2
  go_ret2
  exact ⟨rfl, is2, below1.trans below2, kept1.trans kept2⟩

/-- a builder stands in a world that has grown -/
theorem later {B b : Nat} {bs : List Value} {w w' : World} (h : Lib.IsBuilderF 68 5 B b bs w) (hb : Below w.heap.size w w') : Lib.IsBuilderF 68 5 B b bs w' := by
  have one : ∀ p, Lib.BuilderAtF 68 5 B b p bs w → Lib.BuilderAtF 68 5 B b p bs w' := by
    rintro p ⟨hB, v, hbk, hown, hne⟩
    have hlt : b < w.heap.size := (Array.getElem?_eq_some_iff.1 hbk).1
    refine ⟨hB, v, by rw [hb.block b hlt]; exact hbk, ?_, hne⟩
    refine ⟨hown.1, ?_⟩
    rcases hown.2 with h | ⟨g, cap, cur, fz, hv, hg1, hg, rest⟩
    · exact .inl h
    · exact .inr ⟨g, cap, cur, fz, hv, hg1, by rw [hb.block g (Array.getElem?_eq_some_iff.1 hg).1]; exact hg, rest⟩
  exact h.elim (fun x => .inl (one _ x)) (fun x => .inr (one _ x))

theorem strCells_list (s : ByteArray) : Lib.strCells s = Lib.byteCells s.data.toList := by
  simp [Lib.strCells, Lib.byteCells]
theorem byteCells_length (l : List UInt8) : (Lib.byteCells l).length = l.length := by simp [Lib.byteCells]

def WriteIs (B b : Nat) (l : List UInt8) (s : ByteArray) : Prop := ∀ w, Lib.IsBuilderF 68 5 B b (Lib.byteCells l) w → B ≤ w.heap.size → Calls Tryz.prog 36 #[.pointer (some ⟨b, 0, none⟩), .string s] w fun e w' => e = .returned (.tuple #[.int .i64 s.size, .nilIface]) ∧ Lib.IsBuilderF 68 5 B b (Lib.byteCells (l ++ s.data.toList)) w' ∧ Below B w w' ∧ Lib.OthersKept 5 (some b) w w'
theorem write_any (B b : Nat) (l : List UInt8) (s : ByteArray) (hlen : l.length + s.size ≤ 140737488355328) : WriteIs B b l s := by
  intro w h hBw
  refine (writeString B b (Lib.byteCells l) s w h (by rw [byteCells_length]; exact hlen) hBw).mono ?_
  rintro e w' ⟨rfl, h1, h2⟩
  exact ⟨rfl, by rw [Lib.byteCells_append, ← strCells_list]; exact h1, h2⟩
theorem at_later {B b : Nat} {p : Value} {bs : List Value} {w w' : World} (h : Lib.BuilderAtF 68 5 B b p bs w) (hb : Below w.heap.size w w') : Lib.BuilderAtF 68 5 B b p bs w' := by
  obtain ⟨hB, v, hbk, hown, hne⟩ := h
  have hlt : b < w.heap.size := (Array.getElem?_eq_some_iff.1 hbk).1
  refine ⟨hB, v, by rw [hb.block b hlt]; exact hbk, ?_, hne⟩
  refine ⟨hown.1, ?_⟩
  rcases hown.2 with h | ⟨g, cap, cur, fz, hv, hg1, hg, rest⟩
  · exact .inl h
  · exact .inr ⟨g, cap, cur, fz, hv, hg1, by rw [hb.block g (Array.getElem?_eq_some_iff.1 hg).1]; exact hg, rest⟩
set_option maxHeartbeats 2000000 in
set_option maxRecDepth 100000 in
/-- a byte goes in behind what the builder holds -/
theorem writeByte (B b : Nat) (bs : List Value) (c : Int) (w : World) (h : Lib.IsBuilderF 68 5 B b bs w) (hlen : bs.length + 1 ≤ 140737488355328) (hBw : B ≤ w.heap.size) :
    Calls Tryz.prog 63 #[.pointer (some ⟨b, 0, none⟩), .int .u8 c] w fun e w' => e = .returned .nilIface ∧ Lib.IsBuilderF 68 5 B b (bs ++ [.int .u8 c]) w' ∧ Below B w w' := by
  obtain ⟨i0, hi, hz0, hz1, hz2⟩ := info_parts info5
  go_enter Tryz.func63, Tryz.ntmps63
  go_wp2_with (go_at_call 58; refine (check B b bs _ h).mono ?_)
  rintro e w1 ⟨rfl, at1, below1, kept1⟩
  have room := Nat.le_trans hBw below1.size
  have ha : Below w1.heap.size w1 (w1.alloc (.cells #[.int .u8 c] 5)) := (Below.refl _ _).alloc (Nat.le_refl _) _
  have room2 : B ≤ (w1.alloc (.cells #[.int .u8 c] 5)).heap.size := Nat.le_trans room ha.size
  have below1' : Below B w (w1.alloc (.cells #[.int .u8 c] 5)) := below1.alloc room _
  obtain ⟨v, c1, own, next⟩ := stored (at_later at1 ha) room2
  have c1' : w1.cell? ⟨b, 1, none⟩ = some v := by
    obtain ⟨_, v2, hbk, _⟩ := at1
    have hlt : b < w1.heap.size := (Array.getElem?_eq_some_iff.1 hbk).1
    rw [← ha.cell (p := ⟨b, 1, none⟩) hlt]
    exact c1
  go_wp2_with (at_builtin; refine wpList_append_ownF _ rfl _ _ 66 rfl B 5 i0 (.int .u8 0) 1 1 Tryz.underlying66 hi hz0 hz1 hz2 rfl (by decide) _ _ _ rfl own ⟨w1.heap.size, 0, none⟩ 1 1 [.int .u8 c] rfl rfl ?c1 ?c2 ?c3 ?c4 ?c5 ?_)
  case c1 =>
    intro j u hj
    match j, hj with
    | 0, hj => simp at hj; subst hj; simp [Addr.add]
  case c2 => intro u hu; simp at hu; subst hu; rfl
  case c3 => unfold maxLen; omega
  case c4 => omega
  case c5 => exact room2
  intro v' w2 own2 gr _
  obtain ⟨⟨a, n, cc, rfl⟩, ⟨c2, f2⟩, is2, below2, kept2⟩ := next v' w2 [.int .u8 c] (by rw [List.length_append]; exact own2) gr
  go_wp2
  go_ret
  exact ⟨rfl, is2, below1'.trans below2⟩
end Go.Proofs.YthmecbonjkcnmaaGreat.bld

namespace Go.Proofs.YthmecbonjkcnmaaGreat.ru
open Go.ChangeShapes Go.WideShapes Go.ChangeAt Go.RowKit Go.Maps
set_option linter.unusedVariables false

theorem drop_list (s : ByteArray) (m : Nat) : (s.extract m s.size).data.toList = s.data.toList.drop m := by
  rw [ByteArray.data_extract, Array.toList_extract]
  simp
  rw [List.take_of_length_le]
  cases s
  simp [ByteArray.size]
theorem list_len (s : ByteArray) : s.data.toList.length = s.size := by cases s; rfl
theorem byteCells_one (l : List UInt8) (b : UInt8) : Lib.byteCells (l ++ [b]) = Lib.byteCells l ++ [.int .u8 (b.toNat : Int)] := by simp [Lib.byteCells]
theorem cons_list (s : ByteArray) (h : 0 < s.size) : s.data.toList = s[0] :: (s.extract 1 s.size).data.toList := by
  rw [drop_list]
  have hl : 0 < s.data.toList.length := by rw [list_len]; exact h
  have e := List.drop_eq_getElem_cons hl
  rw [List.drop_zero] at e
  exact e
theorem Rus.at {w : World} {v : Value} {l : List Ru} (h : Rus w v l) {i : Nat} (hi : i < l.length) : ∃ b off cap, v = .slice (some ⟨b, off, none⟩) l.length cap ∧ l.length ≤ cap ∧ cap ≤ 9223372036854775807 ∧ b < w.heap.size ∧ w.cell? ⟨b, off + i * 2, none⟩ = some (.string (nth l i).fr) ∧ w.cell? ⟨b, off + i * 2 + 1, none⟩ = some (.string (nth l i).to) := by
  rcases h with ⟨rfl, _⟩ | ⟨b, off, cap, hv, hl, hm, hlt, hc⟩
  · simp at hi
  · exact ⟨b, off, cap, hv, hl, hm, hlt, (hc i hi).1, (hc i hi).2⟩

/-- what is put so far, and what is left -/
def Sofar (l : List Ru) (s : ByteArray) (out : List UInt8) (t : ByteArray) : Prop := out ++ ap l t.data.toList = ap l s.data.toList ∧ t.size ≤ s.size
theorem Sofar.len {l : List Ru} (hg : Good l) {s : ByteArray} {out : List UInt8} {t : ByteArray} (h : Sofar l s out t) (hs : s.size ≤ 262144) : out.length ≤ 8388608 := by
  have h1 := congrArg List.length h.1
  rw [List.length_append] at h1
  have h2 := ap_grow hg s.data.toList
  rw [list_len] at h2
  have h3 := growN_le l hg.2.1 1 (by omega)
  have h4 : growN 1 l * s.size ≤ 32 * 262144 := Nat.mul_le_mul h3 hs
  omega
theorem Sofar.hit {l : List Ru} (hg : Good l) {s : ByteArray} {out : List UInt8} {t : ByteArray} (h : Sofar l s out t) {i : Nat} (hi : i < l.length) (hb : best l t.data.toList = some (nth l i)) : Sofar l s (out ++ (nth l i).to.data.toList) (t.extract (nth l i).fr.size t.size) ∧ (nth l i).fr.size ≤ t.size ∧ 1 ≤ (nth l i).fr.size := by
  have hp := (best_is l t.data.toList).1 _ hb
  have hpos := hg.pos hp.1
  have hle := hp.2.length_le
  rw [(nth l i).f_len, list_len] at hle
  rw [(nth l i).f_len] at hpos
  refine ⟨⟨?_, ?_⟩, hle, hpos.1⟩
  · rw [drop_list, List.append_assoc, ← h.1, ap_some hg hb, (nth l i).f_len]
    rfl
  · rw [ByteArray.size_extract]
    have := h.2
    omega
theorem Sofar.miss {l : List Ru} (hg : Good l) {s : ByteArray} {out : List UInt8} {t : ByteArray} (h : Sofar l s out t) (ht : 0 < t.size) (hb : best l t.data.toList = none) : Sofar l s (out ++ [t[0]]) (t.extract 1 t.size) := by
  refine ⟨?_, ?_⟩
  · rw [← h.1]
    have e := cons_list t ht
    rw [e] at hb
    rw [e, ap_none hg hb, List.append_assoc]
    rfl
  · rw [ByteArray.size_extract]
    have := h.2
    omega

def RewIs (l : List Ru) (s : ByteArray) : Prop := ∀ rv B D lv w, Fdr w l rv B D lv → Calls Tryz.prog 39 #[.agg #[rv, .map (some B), lv], .string s] w fun e w' => e = .returned (.string ⟨(ap l s.data.toList).toArray⟩) ∧ Below w.heap.size w w'

set_option maxHeartbeats 4000000 in
set_option maxRecDepth 100000 in
theorem rew_any (l : List Ru) (hg : Good l) (s : ByteArray) (hs : s.size ≤ 262144) : RewIs l s := by
  intro rv B D lv w hF
  obtain ⟨ra, rcap, hrv, _, _⟩ := hF.rus.form
  obtain ⟨w1, HW1⟩ : ∃ w1, Hid (w1 = w.alloc (.cells #[rv, .map (some B), lv] 77)) := ⟨_, rfl⟩
  have hB1 : Below w.heap.size w w1 := by rw [HW1.out]; exact (Below.refl _ _).alloc (Nat.le_refl _) _
  have HF1 := (show Hid (∀ W, Kept w1 W → Fdr W l rv B D lv) from fun W h => (hF.below hB1).below h)
  have hn1 : w1.heap[w.heap.size]? = some (.cells #[rv, .map (some B), lv] 77 (0, 0)) := by rw [HW1.out]; exact heap_alloc_new w _
  have hlt1 : w.heap.size < w1.heap.size := (Array.getElem?_eq_some_iff.1 hn1).1
  have HGB := (show Hid (∀ W, Kept w1 W → W.heap[w.heap.size]? = some (.cells #[rv, .map (some B), lv] 77 (0, 0))) from fun W h => (h.block _ hlt1).trans hn1)
  have hsz1 : w1.heap.size = w.heap.size + 1 := by rw [HW1.out]; simp
  subst hrv
  have hlv : ∃ x y z, lv = .slice x y z := by
    rcases hF.row with ⟨_, a, cap, h⟩ | ⟨b, cap, h, _⟩
    · exact ⟨_, _, _, h⟩
    · exact ⟨_, _, _, h⟩
  obtain ⟨lx, ly, lz, rfl⟩ := hlv
  clear hF hn1
  have hf0 : Lib.IsBuilderF 68 5 w1.heap.size w1.heap.size (Lib.byteCells []) (w1.alloc (.cells #[.pointer none, .slice none 0 0] 68)) := Lib.IsBuilderF.of (Lib.fresh_isBuilder 68 5 w1)
  have hk0 : Kept w1 (w1.alloc (.cells #[.pointer none, .slice none 0 0] 68)) := (Below.refl _ _).alloc (Nat.le_refl _) _
  go_enter Tryz.func39, Tryz.ntmps39
  go_wp2
  rw [← HW1.out, ← hsz1]
  clear hsz1
  go_loopw [1] (fun x wr => ∃ (t : ByteArray) (out : List UInt8), x = .string t ∧ Kept w1 wr ∧ Lib.IsBuilderF 68 5 w1.heap.size w1.heap.size (Lib.byteCells out) wr ∧ Hid (Sofar l s out t)) (fun x _ => match x with | .string t => t.size | _ => 0)
  case atStart => exact ⟨s, [], rfl, hk0, hf0, rfl, Nat.le_refl _⟩
  case round =>
    obtain ⟨t, out, rfl, hK, hO, HS⟩ := hrel
    clear hf0 hk0
    have hlen := HS.out.len hg hs
    have hts := HS.out.2
    by_cases h0 : t.size = 0
    · have e0 : t.toList = [] := by rw [ByteArray.toList_eq]; exact List.length_eq_zero_iff.1 (by rw [list_len]; exact h0)
      have HE := (show Hid (out = ap l s.data.toList) from by
        have h1 := HS.out.1
        have h2 : t.data.toList = [] := List.length_eq_zero_iff.1 (by rw [list_len]; exact h0)
        rw [h2, ap_nil, List.append_nil] at h1
        exact h1)
      have c28 := bld.string_any w1.heap.size w1.heap.size out wr hO hK.size
      clear HS
      go_wp2_with (go_at_call 37; refine c28.mono ?_; rintro e w2 ⟨rfl, _, b2⟩)
      go_ret
      exact ⟨by rw [HE.out]; rfl, hB1.trans ((hK.trans b2).mono hB1.size)⟩
    · have hpos : 0 < t.size := by omega
      have e0 : t.toList.isEmpty = false := by rw [empty_eq]; exact beq_eq_false_iff_ne.2 h0
      have hgk := HGB.out wr hK
      have c25 := find_any l hg t (by omega) _ _ _ _ wr (HF1.out wr hK)
      cases hb : best l t.data.toList with
      | none =>
        have c25n : Calls Tryz.prog 62 #[.agg #[.slice ra l.length rcap, .map (some B), .slice lx ly lz], .string t] wr fun e w' => e = .returned (.int .i64 (-1)) ∧ Below wr.heap.size wr w' := by
          refine c25.mono ?_
          rintro e w' ⟨⟨n, rfl, ⟨i, _, _, h⟩ | ⟨rfl, _⟩⟩, b⟩
          · rw [hb] at h; cases h
          · exact ⟨rfl, b⟩
        have HN := (show Hid _ from HS.out.miss hg hpos hb)
        have hWB := bld.writeByte w1.heap.size w1.heap.size (Lib.byteCells out) (t[0].toNat : Int)
        rw [← byteCells_one] at hWB
        have hi0 : (0 : Int) < (t.size : Int) := by omega
        have hex : (t.extract 1 t.size).size = t.size - 1 := by rw [ByteArray.size_extract]; omega
        clear c25 HS hb
        go_wp2_with (first | (refine wpList_load_row rfl 77 (.tmp 2) rfl w.heap.size rfl 77 _ (0, 0) _ hgk Tryz.underlying77 rfl info77 ?_) | (go_at_call 62; refine c25n.mono ?_; rintro e w2 ⟨rfl, b2⟩; have k2 : Kept w1 w2 := chain hK b2; have c27 := hWB w2 (bld.later hO b2) (by rw [bld.byteCells_length]; omega) k2.size; clear hO) | (go_at_call 63; refine c27.mono ?_; rintro e w3 ⟨rfl, o3, b3⟩; have k3 : Kept w1 w3 := k2.trans b3))
        refine ⟨⟨_, _, rfl, k3, o3, HN⟩, ?_⟩
        show (t.extract 1 t.size).size < t.size
        omega
      | some r =>
        have c25s : Calls Tryz.prog 62 #[.agg #[.slice ra l.length rcap, .map (some B), .slice lx ly lz], .string t] wr fun e w' => ∃ i : Nat, e = .returned (.int .i64 (i : Int)) ∧ i < l.length ∧ best l t.data.toList = some (nth l i) ∧ Below wr.heap.size wr w' := by
          refine c25.mono ?_
          rintro e w' ⟨⟨n, rfl, ⟨i, hi, rfl, h⟩ | ⟨_, h⟩⟩, b⟩
          · exact ⟨i, rfl, hi, h, b⟩
          · rw [hb] at h; cases h
        have HSO := (show Hid (∀ i, i < l.length → best l t.data.toList = some (nth l i) → Sofar l s (out ++ (nth l i).to.data.toList) (t.extract (nth l i).fr.size t.size) ∧ (nth l i).fr.size ≤ t.size ∧ 1 ≤ (nth l i).fr.size) from fun i hi h => HS.out.hit hg hi h)
        have HTO := (show Hid (∀ i, i < l.length → (nth l i).to.size ≤ 32) from fun i hi => (bad_no.1 (hg.2.1 _ (nth_mem l i hi))).2.2)
        clear c25 hb HS
        go_wp2_with (refine wpList_load_row rfl 77 (.tmp 2) rfl w.heap.size rfl 77 _ (0, 0) _ hgk Tryz.underlying77 rfl info77 ?_)
        go_at_call 62
        refine c25s.mono ?_
        rintro e w2 ⟨i, rfl, hi, hbi, b2⟩
        have k2 : Kept w1 w2 := chain hK b2
        obtain ⟨hso, hf1, hf2⟩ := HSO.out i hi hbi
        have hto := HTO.out i hi
        obtain ⟨rb, roff, rcap', hre, hrl, hrm, hrlt, hr1, hr2⟩ := (HF1.out w2 k2).rus.at hi
        obtain ⟨rfl, rfl⟩ : ra = some ⟨rb, roff, none⟩ ∧ rcap = rcap' := by simpa using hre
        have hg2 : w2.cell? ⟨w.heap.size, 0, none⟩ = some (.slice (some ⟨rb, roff, none⟩) l.length rcap) := by rw [Lib.cell_of_heap (HGB.out w2 k2)]; rfl
        generalize nth l i = r2 at *
        have c26 := bld.write_any w1.heap.size w1.heap.size out r2.to (by omega) w2 (bld.later hO b2) k2.size
        have hfr1 : (r2.fr.size : Int) ≤ (t.size : Int) := by omega
        have hii : (i : Int) < (l.length : Int) := by omega
        have hi0 : (0 : Int) ≤ (i : Int) := by omega
        have hrb : rb < w1.heap.size := by
          obtain ⟨b', off', cap', he, _, _, hlt', _⟩ := (HF1.out w1 (Below.refl _ _)).rus.at hi
          have := Option.some.inj (Value.slice.inj he).1
          cases this
          exact hlt'
        have HKC := (show Hid (∀ w3, Below w1.heap.size w2 w3 → w3.cell? ⟨rb, roff + i * 2, none⟩ = some (.string r2.fr) ∧ w3.cell? ⟨w.heap.size, 0, none⟩ = some (.slice (some ⟨rb, roff, none⟩) l.length rcap)) from fun w3 b3 => ⟨by rw [b3.cell hrb]; exact hr1, by rw [b3.cell hlt1]; exact hg2⟩)
        have hex : (t.extract r2.fr.size t.size).size = t.size - r2.fr.size := by rw [ByteArray.size_extract]; omega
        have HSOF := (show Hid _ from hso)
        clear hso hbi HSO HTO c25s hre hO
        go_wp2_with (go_at_call 36; refine c26.mono ?_; rintro e w3 ⟨rfl, o3, b3, _⟩; obtain ⟨hr1', hg3⟩ := HKC.out w3 b3; have k3 : Kept w1 w3 := k2.trans b3)
        refine ⟨⟨_, _, rfl, k3, o3, HSOF⟩, ?_⟩
        show (t.extract r2.fr.size t.size).size < t.size
        omega
end Go.Proofs.YthmecbonjkcnmaaGreat.ru

namespace Go.Proofs.YthmecbonjkcnmaaGreat.ru
open Go.ChangeShapes Go.WideShapes Go.ChangeAt Go.RowKit Go.Maps
set_option linter.unusedVariables false

def txt (l : List UInt8) : ByteArray := ⟨l.toArray⟩
theorem txt_list (l : List UInt8) : (txt l).data.toList = l := rfl
/-- what Apply answers -/
def apT (l : List Ru) (s : ByteArray) : ByteArray := if Good l ∧ s.size ≤ 262144 then txt (ap l s.data.toList) else ⟨#[]⟩
def apE (l : List Ru) (s : ByteArray) : Nat := if Good l then (if s.size ≤ 262144 then 0 else 2) else rightE l

def ApIs (l : List Ru) (s : ByteArray) (t : ByteArray) (x : Nat) : Prop := ∀ v w, Rus w v l → Calls Tryz.prog 16 #[v, .string s] w fun e w' => e = .returned (.tuple #[.string t, .int .i64 (x : Int)]) ∧ Below w.heap.size w w'
set_option maxHeartbeats 2000000 in
set_option maxRecDepth 100000 in
theorem ap_any (l : List Ru) (s : ByteArray) (hs : s.size ≤ 9223372036854775807) (t : ByteArray) (x : Nat) (ht : t = apT l s) (hx : x = apE l s) : ApIs l s t x := by
  intro v w hv
  have c10 := right_any l _ rfl _ _ hv
  obtain ⟨a, cap, rfl, _, _⟩ := hv.form
  by_cases hg : Good l
  · rw [rightE_ok hg] at c10
    by_cases h2 : s.size ≤ 262144
    · have hN := new_any l hg
      have hR := rew_any l hg s h2
      obtain rfl : x = 0 := by rw [hx]; unfold apE; rw [if_pos hg, if_pos h2]
      have HT := (show Hid (txt (ap l s.data.toList) = t) from by show _ = _; rw [ht]; unfold apT; rw [if_pos ⟨hg, h2⟩])
      have f1 : ¬ (262144 : Int) < (s.size : Int) := by omega
      clear hx ht
      go_enter Tryz.func16, Tryz.ntmps16
      go_wp2_with (first | (go_at_call 38; refine c10.mono ?_; rintro e w1 ⟨rfl, b1⟩; have c17 := hN _ _ (hv.below b1)) | (go_at_call 40; refine c17.mono ?_; rintro e w2 ⟨B, D, lv, rfl, hF, b2⟩; have c16 := hR _ _ _ _ _ hF; clear hF) | (go_at_call 39; refine c16.mono ?_; rintro e w3 ⟨rfl, b3⟩))
      go_ret2
      exact ⟨by rw [← HT.out]; rfl, chain (chain b1 b2) b3⟩
    · obtain rfl : x = 2 := by rw [hx]; unfold apE; rw [if_pos hg, if_neg h2]
      obtain rfl : t = ⟨#[]⟩ := by rw [ht]; unfold apT; rw [if_neg (fun h => h2 h.2)]
      have f1 : (262144 : Int) < (s.size : Int) := by omega
      clear hx ht
      go_enter Tryz.func16, Tryz.ntmps16
      go_wp2_with (go_at_call 38; refine c10.mono ?_; rintro e w1 ⟨rfl, b1⟩)
      go_ret2
      exact ⟨rfl, b1⟩
  · obtain rfl : x = rightE l := by rw [hx]; unfold apE; rw [if_neg hg]
    obtain rfl : t = ⟨#[]⟩ := by rw [ht]; unfold apT; rw [if_neg (fun h => hg h.1)]
    have hne : rightE l ≠ 0 := fun h => hg (rightE_zero h)
    have hq2 : ((rightE l : Int) != 0) = true := bne_iff_ne.2 (by omega)
    clear hx ht
    generalize rightE l = r at *
    go_enter Tryz.func16, Tryz.ntmps16
    go_wp2_with (go_at_call 38; refine c10.mono ?_; rintro e w1 ⟨rfl, b1⟩)
    go_ret2
    exact ⟨rfl, b1⟩

def grN (l : List Ru) : Nat := if Good l then growN 1 l else 0
def GrIs (l : List Ru) (n x : Nat) : Prop := ∀ v w, Rus w v l → Calls Tryz.prog 78 #[v] w fun e w' => e = .returned (.tuple #[.int .i64 (n : Int), .int .i64 (x : Int)]) ∧ Below w.heap.size w w'
theorem growN_take (l : List Ru) (i : Nat) (h : i < l.length) : growN 1 (l.take (i + 1)) = max (growN 1 (l.take i)) (up (nth l i).fr.size (nth l i).to.size) := by
  rw [take_nth l i h]
  unfold growN
  rw [List.foldl_append]
  rfl
theorem up_int (a b : Nat) (ha : 1 ≤ a) : ((b : Int) + (a : Int) - 1).tdiv (a : Int) = (up a b : Int) := by
  unfold up
  rw [show ((b : Int) + (a : Int) - 1) = ((b + a - 1 : Nat) : Int) by omega, Int.ofNat_tdiv]

set_option maxHeartbeats 2000000 in
set_option maxRecDepth 100000 in
theorem gr_any (l : List Ru) (n : Nat) (hn : n = grN l) : GrIs l n (rightE l) := by
  intro v w hv
  have c10 := right_any l _ rfl _ _ hv
  by_cases hg : Good l
  · rw [rightE_ok hg] at c10 ⊢
    have HN := (show Hid (n = growN 1 l) from by show _ = _; rw [hn]; unfold grN; rw [if_pos hg])
    have h64 := hg.1
    clear hn
    rcases hv with ⟨rfl, a, cap, rfl⟩ | ⟨b, off, cap, rfl, hl, hm, hlt, hc⟩
    · obtain rfl : n = 1 := HN.out
      go_enter Tryz.func78, Tryz.ntmps78
      go_wp2_with (go_at_call 38; refine c10.mono ?_; rintro e w1 ⟨rfl, b1⟩)
      go_loopw [5, 15] (fun u x wr => u = .int .i64 1 ∧ x = .int .i64 0 ∧ wr = w1) (fun _ _ _ => 0)
      case atStart => exact ⟨rfl, rfl, rfl⟩
      case round =>
        obtain ⟨rfl, rfl, rfl⟩ := hrel
        go_wp2
        go_ret2
        exact ⟨rfl, b1⟩
    · go_enter Tryz.func78, Tryz.ntmps78
      go_wp2_with (go_at_call 38; refine c10.mono ?_; rintro e w1 ⟨rfl, b1⟩)
      go_loopw [5, 15] (fun u x wr => ∃ (i k : Nat), u = .int .i64 k ∧ x = .int .i64 i ∧ i ≤ l.length ∧ Below w.heap.size w wr ∧ k ≤ 32 ∧ Hid (k = growN 1 (l.take i))) (fun _ x _ => l.length - (intOf x).toNat)
      case atStart => exact ⟨0, 1, rfl, rfl, by omega, b1, by omega, rfl⟩
      case round =>
        obtain ⟨i, k, rfl, rfl, hi, hB, hk, HK⟩ := hrel
        by_cases hend : i < l.length
        · obtain ⟨hc1, hc2⟩ := hc i hend
          rw [← hB.cell (p := ⟨b, off + i * 2, none⟩) hlt] at hc1
          rw [← hB.cell (p := ⟨b, off + i * 2 + 1, none⟩) hlt] at hc2
          have hbd := bad_no.1 (hg.2.1 _ (nth_mem l i hend))
          have HK2 := (show Hid _ from growN_take l i hend)
          generalize nth l i = r at *
          rw [← HK.out] at HK2
          have hup := up_int r.fr.size r.to.size hbd.1
          have hu32 : up r.fr.size r.to.size ≤ 32 := up_le (by omega) (by have : 32 * 1 ≤ 32 * r.fr.size := Nat.mul_le_mul_left _ hbd.1; omega)
          generalize up r.fr.size r.to.size = q at *
          obtain ⟨hb1, hb2, hb3⟩ := hbd
          have hq0 : ¬ (r.fr.size : Int) = 0 := by omega
          clear hc HK
          go_wp2
          exact ⟨⟨i + 1, max k q, by congr 1; omega, by go_num, by omega, hB.alloc hB.size _, by omega, HK2.out.symm⟩, by simp [intOf]; omega⟩
        · have he : i = l.length := by omega
          subst he
          rw [List.take_length] at HK
          go_wp2
          go_ret2
          exact ⟨by rw [HN.out, HK.out]; rfl, hB⟩
  · obtain rfl : n = 0 := by rw [hn]; unfold grN; rw [if_neg hg]
    have hne : rightE l ≠ 0 := fun h => hg (rightE_zero h)
    have hq2 : ((rightE l : Int) != 0) = true := bne_iff_ne.2 (by omega)
    obtain ⟨a, cap, rfl, _, _⟩ := hv.form
    clear hn
    generalize rightE l = r at *
    go_enter Tryz.func78, Tryz.ntmps78
    go_wp2_with (go_at_call 38; refine c10.mono ?_; rintro e w1 ⟨rfl, b1⟩)
    go_ret2
    exact ⟨rfl, b1⟩
end Go.Proofs.YthmecbonjkcnmaaGreat.ru

namespace Go.Proofs.YthmecbonjkcnmaaGreat.ru
open Go.ChangeShapes Go.WideShapes Go.ChangeAt Go.RowKit
set_option linter.unusedVariables false

section
variable {op : Oper} {a : Act} {w : World}
theorem x_load9 {x : Operand} {p : Addr} {v : Value} (h : op.op = .load 9 x) (hx : a.eval x = .pointer (some p)) (hc : w.cell? p = some v) : (execOp a.eval op).run Tryz.prog w = .ok (.value v) w := by
  unfold execOp; rw [h]; simp only [hx]; go_simp
end
end Go.Proofs.YthmecbonjkcnmaaGreat.ru
