/-
  Contracts over this program: merge.Tokens; the document's Bytes, Join.
-/
import Derived.Test.YthcekfmodmnekaaMn
namespace Go.Proofs.Ythcekfmodmnekaa.mg
open Go.ChangeShapes Go.WideShapes Go.ChangeAt Go.RowKit Go.Shelf Go.Maps
set_option linter.unusedVariables false
set_option maxRecDepth 100000

/-- the bytes of a text, as ids -/
def idsOf (s : ByteArray) : List Int := s.data.toList.map fun b => (b.toNat : Int)
theorem idsOf_len (s : ByteArray) : (idsOf s).length = s.size := by cases s; simp [idsOf, ByteArray.size]
theorem idsOf_at (s : ByteArray) (i : Nat) (h : i < s.size) : (idsOf s).getD i 0 = ((s[i]).toNat : Int) := by
  have h2 : i < (idsOf s).length := by rw [idsOf_len]; exact h
  rw [List.getD_eq_getElem?_getD, List.getElem?_eq_getElem h2]
  cases s
  simp [idsOf, ByteArray.getElem_eq_getElem_data]
theorem idsOf_in (s : ByteArray) (n : Nat) (h : 256 ≤ n) : AllIn n (idsOf s) := fun x hx => by
  obtain ⟨b, _, rfl⟩ := List.mem_map.1 hx
  have := b.toNat_lt
  unfold InR
  omega
set_option maxHeartbeats 2000000 in
set_option maxRecDepth 100000 in
theorem bytes_any (s : ByteArray) (hs : s.size ≤ 100000) (w : World) : Calls Try.prog 30 #[.string s] w fun e w' => ∃ v', e = .returned v' ∧ IntsV w' v' (idsOf s) ∧ Below w.heap.size w w' := by
  have O0 := World.ownsRow_made (e := 3) (size := 1) w #[] 0 (Nat.le_refl _) (Nat.zero_le _) rfl
  have BB0 := below_alloc w (.cells #[] 3)
  go_enter Try.func30, Try.ntmps30
  go_wp2_with (fail)
  generalize w.alloc (.cells #[] 3) = w1 at *
  go_loopw [4, 3] (fun y x wr => ∃ (i : Nat) (tg : Option Addr) (tc : Nat), y = .int .i64 i ∧ x = .slice tg i tc ∧ i ≤ s.size ∧ i ≤ tc ∧ tc ≤ 9223372036854775807 ∧ Hid (Owns wr w.heap.size (.slice tg i tc) ((idsOf s).take i)) ∧ Below w.heap.size w wr) (fun y _ _ => s.size - (intOf y).toNat)
  case atStart =>
    obtain ⟨tg, tc, h1, h2, h3, h4⟩ := ostart (w := w) (W := w1) (l := []) 0 O0 rfl
    exact ⟨0, tg, tc, rfl, h1, by omega, h2, h3, by rw [List.take_zero]; exact h4, BB0⟩
  case round =>
    clear O0 BB0
    obtain ⟨i, tg, tc, rfl, rfl, hi, tf1, tf2, HO, hB⟩ := hrel
    have hil : i ≤ (idsOf s).length := by rw [idsOf_len]; exact hi
    by_cases hend : i < s.size
    · have HT : Hid ((idsOf s).take (i + 1) = (idsOf s).take i ++ [(s[i].toNat : Int)]) := by show _ = _; exact take_next (by rw [idsOf_len]; exact hend) (idsOf_at s i hend)
      have HO1 : Hid (wr.ownsRow w.heap.size 3 1 (.slice tg i tc) i (((idsOf s).take i).map (Value.int .i64))) := by have := HO.out; unfold Owns at this; rw [take_len hil] at this; exact this
      have HO2 := (show Hid _ from ow.later HO1.out (below_alloc wr (.cells #[.int .i64 (s[i].toNat : Int)] 3)))
      have HN2 := (show Hid _ from ow.new1 wr (.int .i64 (s[i].toNat : Int)) 3)
      have hB2 := hB.alloc hB.size (.cells #[.int .i64 (s[i].toNat : Int)] 3)
      have hBw : w.heap.size ≤ (wr.alloc (.cells #[.int .i64 (s[i].toNat : Int)] 3)).heap.size := hB2.size
      have HIL : Hid (i + 1 ≤ (idsOf s).length) := by show _ ≤ _; rw [idsOf_len]; omega
      have h256 : s[i].toNat < 256 := s[i].toNat_lt
      clear HO HO1 hil
      go_wp2_with (at_builtin; refine ow.wpList_append (by rfl) (.tmp 12) (.tmp 17) 23 (by rfl) 3 (.int .i64 0) 1 8 Try.underlying23 info3 (by rfl) (by decide) (by decide) w.heap.size (.slice tg i tc) i (((idsOf s).take i).map (Value.int .i64)) wr.heap.size [.int .i64 (s[i].toNat : Int)] (by rfl) (by rfl) (by exact HO2.out) (by rfl) (by exact HN2.out) (by exact ow.one1 _ rfl) (by omega) (by exact hBw) ?_; intro g' cap2 w3 ho hgr hw3)
      have B4 : Below w.heap.size w w3 := hB2.grown hgr hB2.size (by intro k hk; exact (ow.lt HO2.out hk).1)
      have ho2 : Owns w3 w.heap.size (.slice (some ⟨g', 0, none⟩) (i + 1) cap2) ((idsOf s).take (i + 1)) := by
        unfold Owns
        rw [take_len HIL.out, HT.out, List.map_append]
        exact ho
      obtain ⟨tg3, tc3, h1, h2, h3, h4⟩ := ostart (i + 1) ho2 (by rw [take_len HIL.out])
      go_roundw
      case rel => exact ⟨i + 1, tg3, tc3, by go_num, h1, by omega, h2, h3, h4, B4⟩
      case measure => simp [intOf]; omega
    · have HF : Hid (IntsV wr (.slice tg i tc) (idsOf s)) := by have := HO.out; rw [List.take_of_length_le (by rw [idsOf_len]; omega)] at this; exact this.ints
      clear HO hil
      go_wp2_with (fail)
      go_ret
      exact ⟨_, rfl, HF.out, hB⟩

/-- a text, cut: one byte too many tells as much as all of them -/
def cutS (s : ByteArray) : ByteArray := s.extract 0 (min s.size 4097)
theorem cutS_size (s : ByteArray) : (cutS s).size = min s.size 4097 := by simp [cutS]
theorem cutS_id (s : ByteArray) (h : s.size ≤ 4097) : cutS s = s := by
  unfold cutS
  rw [Nat.min_eq_left h]
  apply ByteArray.ext
  simp
def TokOut (l : List Mg) (s : ByteArray) (w : World) (e : Ending) (W' : World) : Prop := ApplyOut l (idsOf (cutS s)) w e W'
def part2 (s : ByteArray) (i : Nat) : List Int := (idsOf s).take i ++ List.replicate (s.size - i) 0
theorem part2_set (s : ByteArray) (i : Nat) (h : i < s.size) : (part2 s i).set i (s[i].toNat : Int) = part2 s (i + 1) := by
  unfold part2
  rw [take_next (by rw [idsOf_len]; exact h) (idsOf_at s i h), List.set_append_right _ _ (by rw [List.length_take, idsOf_len]; omega), take_len (by rw [idsOf_len]; omega), Nat.sub_self, show s.size - i = (s.size - (i + 1)) + 1 by omega, List.replicate_succ, List.set_cons_zero, List.append_assoc]
  rfl
theorem part2_len (s : ByteArray) (i : Nat) (h : i ≤ s.size) : (part2 s i).length = s.size := by
  unfold part2
  rw [List.length_append, take_len (by rw [idsOf_len]; exact h), List.length_replicate]
  omega
set_option maxHeartbeats 2000000 in
set_option maxRecDepth 100000 in
theorem tokens_any (l : List Mg) (s : ByteArray) (hs : s.size ≤ 140737488351232) (v : Value) (w : World) (hv : Mgs w v l) : Calls Try.prog 16 #[v, .string s] w (TokOut l s w) := by
  have HV : Hid (∀ W, Below w.heap.size w W → Mgs W v l) := fun W b => hv.later b
  obtain ⟨o, cap, rfl, f1, f2, _⟩ := hv.form
  obtain ⟨t, HT⟩ : ∃ t, Hid (cutS s = t) := ⟨_, rfl⟩
  have htn : t.size ≤ 4097 := by rw [← HT.out, cutS_size]; omega
  have hmk := make23 (min s.size 4097) (by omega)
  have O0 := made_owns w w.heap.size t.size (Nat.le_refl _) (by omega)
  rw [nz_rep] at O0
  have B0 := below_alloc w (.cells (icells (List.replicate t.size 0)) 3)
  have HCUT : Hid (s.extract 0 (min s.size 4097) = t) := HT.out
  have HTO : Hid (TokOut l s = ApplyOut l (idsOf t)) := by show _ = _; unfold TokOut; funext w; rw [HT.out]
  rw [HTO.out]
  clear hv
  have hmin : (min (s.size : Int) 4097) = ((min s.size 4097 : Nat) : Int) := by omega
  go_enter Try.func16, Try.ntmps16
  go_wp2_with (fail)
  have HC2 : Hid (s.extract 0 t.size = t) := by
    show _ = _
    have e := HCUT.out
    rw [show min s.size 4097 = t.size by rw [← HT.out, cutS_size]] at e
    exact e
  have HSZ : Hid (min s.size 4097 = t.size) := by show _ = _; rw [← HT.out, cutS_size]
  rw [HSZ.out, HC2.out]
  have P0 : Hid (Owns (w.alloc (.cells (icells (List.replicate t.size 0)) 3)) w.heap.size (.slice (some ⟨w.heap.size, 0, none⟩) t.size t.size) (part2 t 0)) := by
    unfold part2
    rw [List.take_zero, Nat.sub_zero]
    exact O0
  clear HT HCUT HTO hmin O0 HSZ HC2 hmk
  generalize w.alloc (.cells (icells (List.replicate t.size 0)) 3) = w1 at *
  generalize hg0 : w.heap.size = g0 at *
  go_loopw [18] (fun y wr => ∃ i : Nat, y = .int .i64 i ∧ i ≤ t.size ∧ Hid (Owns wr g0 (.slice (some ⟨g0, 0, none⟩) t.size t.size) (part2 t i)) ∧ Below g0 w wr) (fun y _ => t.size - (intOf y).toNat)
  case atStart => exact ⟨0, rfl, by omega, P0.out, B0⟩
  case round =>
    clear P0 B0
    obtain ⟨i, rfl, hi, HO, hB⟩ := hrel
    by_cases hend : i < t.size
    · obtain ⟨g, c, e, _, _, _, hlt, hcell, hfz⟩ := HO.out.form (by rw [part2_len t i hi]; omega)
      rw [part2_len t i hi] at e
      obtain ⟨⟨rfl, _⟩, rfl⟩ : (g = g0 ∧ True) ∧ c = t.size := by simpa using e.symm
      have k1 := hcell i (by rw [part2_len t i hi]; exact hend)
      have k2 := hfz i
      have HP : Hid (Owns (wr.setCell ⟨g, i, none⟩ (.int .i64 (t[i].toNat : Int))) g (.slice (some ⟨g, 0, none⟩) t.size t.size) (part2 t (i + 1))) := by rw [← part2_set t i hend]; exact HO.out.put i _
      have h256 : t[i].toNat < 256 := t[i].toNat_lt
      have hB2 : Below g w (wr.setCell ⟨g, i, none⟩ (.int .i64 (t[i].toNat : Int))) := Below.setCell (p := ⟨g, i, none⟩) hB (Nat.le_refl g) _
      generalize (part2 t i)[i]'(by rw [part2_len t i hi]; exact hend) = x0 at k1
      clear HO e hcell hfz
      go_wp2_with (fail)
      go_roundw
      case rel => exact ⟨i + 1, by go_num, by omega, HP.out, hB2⟩
      case measure => simp [intOf]; omega
    · have hP : part2 t i = idsOf t := by
        unfold part2
        rw [List.take_of_length_le (by rw [idsOf_len]; omega), show t.size - i = 0 by omega]
        simp
      have hI : IntsV wr (.slice (some ⟨g0, 0, none⟩) t.size t.size) (idsOf t) := by have := HO.out; rw [hP] at this; exact this.ints
      have hB' : Below w.heap.size w wr := by rw [hg0]; exact hB
      have c12 := apply_any l (idsOf t) _ _ wr (HV.out wr hB) hI
      clear hP HO hI
      go_wp2_with (go_at_call 32; refine c12.mono ?_; rintro e w3 ⟨v3, rfl, s3, b3⟩)
      go_ret2
      exact ⟨v3, rfl, s3, chain hB' b3⟩
end Go.Proofs.Ythcekfmodmnekaa.mg
