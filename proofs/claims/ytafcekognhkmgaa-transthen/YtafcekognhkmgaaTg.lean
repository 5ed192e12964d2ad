/-
  Contracts over this program: a text's copy (strings.Clone), trans.fresh, trans.Run.
-/
import Derived.Test.YtafcekognhkmgaaTf
import Derived.Shelf.Pu.Clone
namespace Go.Proofs.Ytafcekognhkmgaa.tr
open Go.ChangeShapes Go.WideShapes Go.ChangeAt Go.RowKit Go.Shelf
set_option linter.unusedVariables false

/-- the library's contract for a text's copy, laid at this program -/
def ren : Go.Shelf.Ren := ⟨fun | 25 => 68 | n => n, fun | 37 => 51 | 47 => 135 | n => n, fun | n => n⟩
theorem lays25 : Go.Proofs.LaysPu.n25 Try.prog ren := {
  mixed := by kernel_rfl
  f25 := Try.func68.trans (congrArg some (by kernel_rfl))
  t0 := Try.underlying0
  a0 := Try.isAgg0
  z0 := Try.sizeOf0
  v0 := Try.zeroValue0
  i0 := by kernel_rfl
  t3 := Try.underlying3
  a3 := Try.isAgg3
  z3 := Try.sizeOf3
  v3 := Try.zeroValue3
  i3 := by kernel_rfl
  t4 := Try.underlying4
  a4 := Try.isAgg4
  z4 := Try.sizeOf4
  v4 := Try.zeroValue4
  i4 := by kernel_rfl
  t5 := Try.underlying5
  a5 := Try.isAgg5
  z5 := Try.sizeOf5
  v5 := Try.zeroValue5
  i5 := by kernel_rfl
  t9 := Try.underlying9
  a9 := Try.isAgg9
  z9 := Try.sizeOf9
  v9 := Try.zeroValue9
  i9 := by kernel_rfl
  t37 := Try.underlying51
  a37 := Try.isAgg51
  z37 := Try.sizeOf51
  v37 := Try.zeroValue51
  i37 := by kernel_rfl
  t47 := Try.underlying135
  a47 := Try.isAgg135
  z47 := Try.sizeOf135
  v47 := Try.zeroValue135
  i47 := by kernel_rfl }
attribute [local go_sem] Oper.semAt_some
theorem clone_any (s : ByteArray) (hlim : s.size ≤ 140737488351232) (w : World) : Calls Try.prog 52 #[.string s] w fun e w' => e = .returned (.string s) ∧ Below w.heap.size w w' := by
  have h39 := fun w => AnyPu.stringslite_Clone lays25 s w (by omega)
  go_enter Try.func52, Try.ntmps52
  go_wp2_with (go_at_call 68; refine (h39 _).mono ?_; rintro e w1 ⟨rfl, b1⟩)
  go_ret
  exact ⟨rfl, b1⟩
theorem Buf.conv {w : World} {B : Nat} {v : Value} {out : List UInt8} (h : Buf B v out w) : Sem.run Try.prog (convert 51 9 v) w = .ok (.string ⟨out.toArray⟩) w := by
  rcases h.1.2 with ⟨rfl, h0⟩ | ⟨g, cap, cur, rfl, hb, hg, hn, hc, hs, ht⟩
  · have e : out = [] := List.length_eq_zero_iff.1 h0
    subst e
    exact run_convert_bytes_nil w 51 5 Try.underlying51 Try.underlying5 0 0 9 Try.underlying9
  · refine run_convert_bytes_back w 51 9 5 ⟨g, 0, none⟩ cap out Try.underlying51 Try.underlying5 Try.underlying9 fun j hj => ?_
    have hplain : (⟨g, 0, none⟩ : Addr).add j = ⟨g, j, none⟩ := by unfold Addr.add; simp; omega
    rw [hplain, World.ownsRow.cellAt h.1 j (by omega)]
    simp [Lib.byteCells, hj]
abbrev bs (l : List UInt8) : ByteArray := ⟨l.toArray⟩
theorem bs_size (l : List UInt8) : (bs l).size = l.length := by simp [ByteArray.size]
theorem fresh_any {w : World} {B : Nat} {v : Value} {out : List UInt8} (h : Buf B v out w) (hlen : out.length ≤ 100000000) : Calls Try.prog 32 #[v] w fun e w' => e = .returned (.string (bs out)) ∧ Below w.heap.size w w' := by
  have hcv := h.conv
  have c52 := clone_any (bs out) (by rw [bs_size]; omega)
  obtain ⟨vg, vc, rfl, v1, v2⟩ := h.form
  have HC : Hid (bs out = bs out) := rfl
  generalize hq : bs out = t at *
  rw [show (⟨out.toArray⟩ : ByteArray) = t from hq] at hcv
  clear hq
  go_enter Try.func32, Try.ntmps32
  go_wp2_with (go_at_call 52; refine (c52 _).mono ?_; rintro e w1 ⟨rfl, b1⟩)
  go_ret
  exact ⟨rfl, b1⟩

def RunIs (m : Mc) (s t : ByteArray) (x : Nat) : Prop := ∀ p w, MAt (In w) w m p → Calls Try.prog 11 #[.agg (mv m p), .string s] w fun e w' => e = .returned (.tuple #[.string t, .int .i64 (x : Int)]) ∧ Below w.heap.size w w'
theorem buf_nil (w : World) : Buf w.heap.size (.slice none 0 0) [] w := ⟨World.ownsRow_nil _ _ _ _, Nat.le_refl _⟩
theorem Alo.last {m : Mc} {l : List UInt8} {out : List UInt8} {st : Nat} (h : Alo m 0 l [] 262144 out st) : (out ++ (tx m (en m st)).data.toList = total m 0 l) ∨ (262144 < (out ++ (tx m (en m st)).data.toList).length ∧ 262144 < (total m 0 l).length) := by
  obtain ⟨i, hi, rfl, rfl, h⟩ := h
  rcases h with rfl | h
  · left
    rw [List.take_length, List.nil_append]
    rfl
  · right
    rw [List.nil_append] at h
    have := go_take_le m 0 l i
    unfold total
    simp only [List.nil_append, List.length_append]
    omega
set_option maxHeartbeats 2000000 in
set_option maxRecDepth 100000 in
theorem run_any (m : Mc) (s : ByteArray) (hs : s.size ≤ 9223372036854775807) (t : ByteArray) (x : Nat) (ht : t = runT m s) (hx : x = runE m s) : RunIs m s t x := by
  intro p w hM
  have B0 := below_alloc w (.cells (mv m p) 26)
  have hM1 := hM.later B0
  have b0 := box_new w m p
  have c9 := right_any m _ rfl p _ hM1
  have HL : Hid (∀ W, Below (w.alloc (.cells (mv m p) 26)).heap.size (w.alloc (.cells (mv m p) 26)) W → Box W w.heap.size m p ∧ MAt (In W) W m p) := fun W b => ⟨b0.later b, hM1.later b⟩
  clear hM hM1
  cases hr : right m with
  | false =>
    rw [hr] at c9
    have e1 : t = ⟨#[]⟩ := by rw [ht]; unfold runT; rw [if_neg (by simp [hr])]
    have e2 : x = 120 := by rw [hx]; unfold runE; rw [if_neg (by simp [hr])]
    subst e1 e2
    clear ht hx hr
    go_enter Try.func11, Try.ntmps11
    go_wp2_with (first | (refine wpList_load_row rfl 26 (.tmp 2) rfl w.heap.size rfl 26 (mv m p) (0, 0) _ b0 Try.underlying26 rfl info26 ?_) | (go_at_call 9; refine c9.mono ?_; rintro e w1 ⟨rfl, b1⟩))
    go_ret2
    exact ⟨rfl, chain B0 b1⟩
  | true =>
    rw [hr] at c9
    have hR := right_iff.1 hr
    by_cases h4 : s.size ≤ 4096
    · have f1 : ¬ (4096 : Int) < (s.size : Int) := by omega
      have hA := along_any m hR 0 hR.one s hs 262144 (by omega)
      have hF := fun st hst => fin_any m hR st hst
      have HE : Hid (∀ out st, Alo m 0 s.data.toList [] 262144 out st → (x = 0 ∧ t = bs (out ++ (tx m (en m st)).data.toList) ∧ (out ++ (tx m (en m st)).data.toList).length ≤ 262144) ∨ (x = 2 ∧ t = ⟨#[]⟩ ∧ 262144 < (out ++ (tx m (en m st)).data.toList).length)) := fun out st h => by
        rcases h.last with e | ⟨h1, h2⟩
        · rw [e]
          by_cases h6 : (total m 0 s.data.toList).length ≤ 262144
          · left
            refine ⟨?_, ?_, h6⟩
            · rw [hx]; unfold runE; rw [if_pos hr, if_pos ⟨h4, h6⟩]
            · rw [ht]; unfold runT; rw [if_pos ⟨hr, h4, h6⟩]
          · right
            refine ⟨?_, ?_, by omega⟩
            · rw [hx]; unfold runE; rw [if_pos hr, if_neg (fun h => h6 h.2)]
            · rw [ht]; unfold runT; rw [if_neg (fun h => h6 h.2.2)]
        · right
          refine ⟨?_, ?_, h1⟩
          · rw [hx]; unfold runE; rw [if_pos hr, if_neg (fun h => by omega)]
          · rw [ht]; unfold runT; rw [if_neg (fun h => by omega)]
      clear ht hx hr
      go_enter Try.func11, Try.ntmps11
      go_wp2_with (first | (refine wpList_load_row rfl 26 (.tmp 2) rfl w.heap.size rfl 26 (mv m p) (0, 0) _ b0 Try.underlying26 rfl info26 ?_) | (go_at_call 9; refine c9.mono ?_; rintro e w1 ⟨rfl, b1⟩; obtain ⟨hX1, hM1⟩ := HL.out w1 b1; have c30 := hA w1.heap.size w.heap.size p _ [] w1 hX1 hX1.lt hM1 (buf_nil w1) (by simp); have hlt1 := hX1.lt; have HXM := (show Hid (∀ W, Below w1.heap.size w1 W → Box W w.heap.size m p ∧ MAt (Lo w1.heap.size) W m p) from fun W b => ⟨hX1.later b, hM1.low b⟩); clear hX1 hM1) | (go_at_call 30; refine c30.mono ?_; rintro e w2 ⟨v2, out, st, rfl, hb2, bl2, hst, ho2, HA⟩; obtain ⟨hX2, hM2⟩ := HXM.out w2 bl2; have c31 := hF st hst w1.heap.size w.heap.size p _ out w2 hX2 hlt1 hM2 hb2 (by omega); have hsz := (hM2.rtx); have htl := (show (tx m (en m st)).size ≤ 4096 from hR.tx_le _); obtain ⟨vg2, vc2, hv2, v12, v22⟩ := hb2.form; subst hv2; clear hX2 hM2 hb2 hsz))
      go_at_call 31
      refine c31.mono ?_
      rintro e w3 ⟨v3, rfl, hb3, bl3⟩
      have hcase := HE.out out st HA
      have hlen3 : (out ++ (tx m (en m st)).data.toList).length ≤ 3000000 := by rw [List.length_append, list_len]; omega
      have bl : Below w.heap.size w w3 := chain (chain B0 b1) (bl2.trans bl3)
      clear HE HA c31 bl2 bl3 hF c30 HXM
      generalize out ++ (tx m (en m st)).data.toList = o3 at *
      have c32 := fresh_any hb3 (by omega)
      obtain ⟨vg3, vc3, hv3, v13, v23⟩ := hb3.form
      subst hv3
      rcases hcase with ⟨rfl, rfl, h6⟩ | ⟨rfl, rfl, h6⟩
      · have f3 : ¬ (262144 : Int) < (o3.length : Int) := by omega
        go_wp2_with (go_at_call 32; refine c32.mono ?_; rintro e w4 ⟨rfl, b4⟩)
        go_ret2
        exact ⟨rfl, chain bl b4⟩
      · have f3 : (262144 : Int) < (o3.length : Int) := by omega
        go_wp2_with (fail)
        go_ret2
        exact ⟨rfl, bl⟩
    · have f1 : (4096 : Int) < (s.size : Int) := by omega
      have e1 : t = ⟨#[]⟩ := by rw [ht]; unfold runT; rw [if_neg (fun h => h4 h.2.1)]
      have e2 : x = 2 := by rw [hx]; unfold runE; rw [if_pos hr, if_neg (fun h => h4 h.1)]
      subst e1 e2
      clear ht hx hr hR h4
      go_enter Try.func11, Try.ntmps11
      go_wp2_with (first | (refine wpList_load_row rfl 26 (.tmp 2) rfl w.heap.size rfl 26 (mv m p) (0, 0) _ b0 Try.underlying26 rfl info26 ?_) | (go_at_call 9; refine c9.mono ?_; rintro e w1 ⟨rfl, b1⟩))
      go_ret2
      exact ⟨rfl, chain B0 b1⟩
end Go.Proofs.Ytafcekognhkmgaa.tr
