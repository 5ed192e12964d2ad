/-
  Contracts over this program: tok.Show; what ids write, by the document.
-/
import Derived.Test.YthmecbonjkcnmaaKWc
namespace Go.Proofs.Ythmecbonjkcnmaa.tw
open Go.ChangeShapes Go.WideShapes Go.ChangeAt Go.RowKit Go.Shelf
open cf (Cf Cp cv CfAt CBox cfE cbox_new)
open mg (Row RowV IntsV StrsV In chain below_alloc Mgs errOf textsOf TextsOut atI InR cat AllIn)
set_option linter.unusedVariables false

def fixB (t : ByteArray) : ByteArray := ⟨(chars.fix t.data.toList).toArray⟩
def ShowOut (c : Cf) (ids : List Int) (w : World) (e : Ending) (w' : World) : Prop := ∃ (r : Nat) (t s2 : ByteArray), e = .returned (.tuple #[.string s2, .int .i64 (r : Int)]) ∧ Txt c ids r t ∧ Hid (s2 = if r = 0 then fixB t else e0) ∧ Below w.heap.size w w'
theorem Txt.small {c : Cf} {ids : List Int} {r : Nat} {t : ByteArray} (h : Txt c ids r t) : t.size ≤ 16777216 := by
  rcases h with ⟨a, rfl, rfl⟩ | ⟨a, b, rfl, rfl⟩ | ⟨a, b, d, rfl, rfl⟩ | ⟨a, b, d, rfl, rfl⟩
  · exact Nat.zero_le _
  · exact Nat.zero_le _
  · exact Nat.zero_le _
  · have h1 := cat_size (tsF_size a) ids
    have h2 : (outB c ids).size = (cat (tsF c) ids).length := by unfold outB; simp [ByteArray.size]
    omega
set_option maxHeartbeats 2000000 in
set_option maxRecDepth 100000 in
theorem show_any (c : Cf) (p : Cp) (ids : List Int) (v : Value) (w : World) (hc : CfAt w c p) (hv : IntsV w v ids) : Calls Try.prog 5 #[.agg (cv c p), v] w (ShowOut c ids w) := by
  obtain ⟨wA, hwA⟩ : ∃ wA, wA = w.alloc (.cells (cv c p) 34) := ⟨_, rfl⟩
  have B0 : Below w.heap.size w wA := by rw [hwA]; exact below_alloc _ _
  have hX0 : (w.alloc (.cells (cv c p) 34)).heap[w.heap.size]? = some (.cells (cv c p) 34 (0, 0)) := cbox_new w c p
  have hi34 := info34 c p
  have c4 := text_any c p ids v wA (hc.later B0) (hv.later B0)
  obtain ⟨o, cap, rfl, hrow⟩ := hv
  clear hc hrow
  go_enter Try.func5, Try.ntmps5
  go_wp2_with (first | (refine wpList_load_row rfl 34 (.tmp 2) rfl w.heap.size rfl 34 (cv c p) (0, 0) _ hX0 Try.underlying34 rfl hi34 ?_))
  rw [← hwA]
  clear hwA hX0
  go_at_call 4
  refine c4.mono ?_
  rintro e w1 ⟨r, t, rfl, hT, b1⟩
  have HT := (show Hid (Txt c ids r t) from hT)
  have hs := hT.small
  clear c4 hT
  by_cases h0 : r = 0
  · subst h0
    have c13 := chars.fix_any t (by omega)
    have HO := (show Hid (∀ w', Below w1.heap.size w1 w' → ShowOut c ids w (.returned (.tuple #[.string (fixB t), .int .i64 0])) w') from fun w' b => ⟨0, t, _, rfl, HT.out, by show _ = _; rw [if_pos rfl], chain (chain B0 b1) b⟩)
    unfold fixB at HO
    generalize (⟨(chars.fix t.data.toList).toArray⟩ : ByteArray) = t2 at *
    go_wp2_with (fail)
    go_at_call 13
    refine (c13 w1).mono ?_
    rintro e w2 ⟨rfl, b2⟩
    go_wp2_with (fail)
    go_ret2
    exact HO.out w2 b2
  · have HO := (show Hid (ShowOut c ids w (.returned (.tuple #[.string e0, .int .i64 (r : Int)])) w1) from ⟨r, t, e0, rfl, HT.out, by show _ = _; rw [if_neg h0], chain B0 b1⟩)
    have hb1 : ((r : Int) == 0) = false := by rw [beq_eq_false_iff_ne]; omega
    have hb2 : ((r : Int) != 0) = true := by rw [bne_iff_ne]; omega
    go_wp2_with (fail)
    go_ret2
    exact HO.out
def RTextOut (c : Cf) (ids : List Int) (w : World) (e : Ending) (w' : World) : Prop := ∃ (b : Bool) (t : ByteArray), e = .returned (.tuple #[.string t, .bool b]) ∧ b = okB c ids ∧ t = (if b = true then outB c ids else e0) ∧ Below w.heap.size w w'
set_option maxHeartbeats 2000000 in
set_option maxRecDepth 100000 in
theorem rtext_any (c : Cf) (p : Cp) (ids : List Int) (v : Value) (w : World) (hc : CfAt w c p) (h0 : cfE c = 0) (hv : IntsV w v ids) (hl : ids.length ≤ 262144) : Calls Try.prog 7 #[.agg (cv c p), v] w (RTextOut c ids w) := by
  obtain ⟨i0, hi0, hz0, hz1, hz2⟩ := info_parts chars.info5
  obtain ⟨wA, hwA⟩ : ∃ wA, wA = w.alloc (.cells (cv c p) 34) := ⟨_, rfl⟩
  have B0 : Below w.heap.size w wA := by rw [hwA]; exact below_alloc _ _
  have hX : CBox wA w.heap.size c p := by rw [hwA]; exact cbox_new w c p
  have HX := (show Hid (CBox wA w.heap.size c p) from hX)
  have c18 := mg.rtexts_any c.ms _ wA (hc.later B0).ms
  have k9 := hX.c9
  obtain ⟨o, cap, rfl, hrow⟩ := hv
  have HR := (show Hid (Row (In wA) wA mg.iv o cap ids) from hrow.later B0)
  have f1 := hrow.fit
  have f2 := hrow.top
  have hm := merges_ok h0
  have hfine := mg.fine hm
  have hml := (mg.ok_run hm).1
  have hfew := names_few h0
  have HTS := (show Hid (∀ t ∈ textsOf c.ms, t.size ≤ 64) from fun t ht => (hfine.size t ht).2)
  have HTL := (show Hid ((textsOf c.ms).length = 256 + c.ms.length) from hfine.len)
  have HFL := (show Hid ((tsF c).length = 256 + c.ms.length + c.ns.length) from tsF_len h0)
  have HAL := (show Hid (∀ k (h : k < (textsOf c.ms).length), atI (tsF c) (k : Int) = (textsOf c.ms)[k]) from fun k h => by
    unfold atI tsF
    rw [List.getD_eq_getElem?_getD, Int.toNat_natCast, List.getElem?_append_left h, List.getElem?_eq_getElem h]; rfl)
  have HAN := (show Hid (∀ k, (textsOf c.ms).length ≤ k → (atI (tsF c) (k : Int)).data.toList = []) from fun k h => by
    unfold atI tsF
    rw [List.getD_eq_getElem?_getD, Int.toNat_natCast, List.getElem?_append_right h, List.getElem?_replicate]
    split <;> rfl)
  have HS := (show Hid (∀ t ∈ tsF c, t.size ≤ 64) from tsF_size h0)
  rw [hwA] at k9
  clear hc hrow hX hfine hm h0
  go_enter Try.func7, Try.ntmps7
  go_wp2_with (fail)
  rw [← hwA]
  clear hwA k9
  go_at_call 18
  refine c18.mono ?_
  rintro e w1 ⟨v1, rfl, ho, b1⟩
  obtain ⟨o7, cap7, rfl, hrow7⟩ := RowV.own (g := Value.string) ho
  have g1 := hrow7.fit
  have g2 := hrow7.top
  have HR7 := (show Hid (Row (In w1) w1 Value.string o7 cap7 (textsOf c.ms)) from hrow7)
  have HR1 := (show Hid (Row (In w1) w1 mg.iv o cap ids) from HR.out.later b1)
  have HX1 := (show Hid (CBox w1 w.heap.size c p) from HX.out.later b1)
  have hb01 : Below w.heap.size w w1 := chain B0 b1
  rw [HTL.out] at g1 ⊢
  obtain ⟨nm, hnm⟩ : ∃ nm, nm = c.ms.length := ⟨_, rfl⟩
  obtain ⟨nn, hnn⟩ : ∃ nn, nn = c.ns.length := ⟨_, rfl⟩
  have HNM := (show Hid (nm = c.ms.length) from hnm)
  have HNN := (show Hid (nn = c.ns.length) from hnn)
  rw [← hnm] at g1 hml ⊢
  rw [← hnn] at hfew
  clear hrow7 ho c18 HR HX B0 b1 hnm hnn
  go_wp2_with (fail)
  go_loopw [20, 8] (fun y u wr => ∃ (i : Nat) (acc : List UInt8), y = .int .i64 (i : Int) ∧ i ≤ ids.length ∧ wr.ownsRowF w1.heap.size 5 1 u acc.length (Lib.byteCells acc) ∧ Below w1.heap.size w1 wr ∧ Hid (acc = cat (tsF c) (ids.take i) ∧ (ids.take i).all (inB c) = true) ∧ acc.length ≤ 64 * i) (fun y _ _ => ids.length - (intOf y).toNat)
  case atStart =>
    refine ⟨0, [], rfl, by omega, ?_, (Below.refl _ w1).alloc (Nat.le_refl _) _, ⟨rfl, rfl⟩, by simp⟩
    exact ⟨rfl, .inr ⟨w1.heap.size, 0, #[], (0, 0), rfl, Nat.le_refl _, chars.alloc_last w1 _, Nat.zero_le _, Nat.le_refl _, Nat.zero_le _, rfl, rfl⟩⟩
  case round =>
    obtain ⟨i, acc, rfl, hi, hown, hB, HA, hal⟩ := hrel
    have hsz : w1.heap.size ≤ wr.heap.size := hB.size
    by_cases hlt : i < ids.length
    · obtain ⟨b, off, rfl, _, kx⟩ := (HR1.out.later hB).lie i hlt
      have k9r : wr.cell? ⟨w.heap.size, 9, none⟩ = some (.slice p.mo nm p.mc) := by rw [HNM.out]; exact (HX1.out.later hB).c9
      have k10r : wr.cell? ⟨w.heap.size, 10, none⟩ = some (.slice p.no nn p.nc) := by rw [HNN.out]; exact (HX1.out.later hB).c10
      have HBAD := (show Hid (inB c ids[i] = false → RTextOut c ids w (.returned (.tuple #[.string e0, .bool false])) wr) from fun hb => ⟨false, e0, rfl, (okB_bad hlt hb).symm, rfl, chain hb01 hB⟩)
      have HINB := (show Hid (∀ x, inB c x = decide (0 ≤ x ∧ x < ((256 + nm + nn : Nat) : Int))) from fun x => by unfold inB; rw [HFL.out, HNM.out, HNN.out])
      have HCT := (show Hid (cat (tsF c) (ids.take (i + 1)) = acc ++ (atI (tsF c) ids[i]).data.toList) from by show _ = _; rw [cat_take hlt, HA.out.1])
      have HAT := (show Hid (inB c ids[i] = true → (ids.take (i + 1)).all (inB c) = true) from fun h => by
        rw [List.take_succ_eq_append_getElem hlt, List.all_append, HA.out.2]
        simp [h])
      have kx2 : wr.cell? ⟨b, off + i, none⟩ = some (.int .i64 ids[i]) := kx
      generalize ids[i] = x at *
      clear kx HA
      by_cases hneg : x < 0
      · have HF := (show Hid _ from HBAD.out (by rw [HINB.out]; exact decide_eq_false (by omega)))
        have hb : decide (x < 0) = true := decide_eq_true hneg
        clear HBAD HINB HCT HAT
        go_wp2_with (fail)
        go_ret2
        exact HF.out
      · obtain ⟨k, rfl⟩ := Int.eq_ofNat_of_zero_le (show 0 ≤ x by omega)
        by_cases hge : 256 + nm + nn ≤ k
        · have HF := (show Hid _ from HBAD.out (by rw [HINB.out]; exact decide_eq_false (by omega)))
          clear HBAD HINB HCT HAT hneg
          go_wp2_with (fail)
          go_ret2
          exact HF.out
        · have HA2 := (show Hid _ from HAT.out (by rw [HINB.out]; exact decide_eq_true (by omega)))
          by_cases hk : k < 256 + nm
          · have hkt : k < (textsOf c.ms).length := by rw [HTL.out, ← HNM.out]; exact hk
            obtain ⟨b7, off7, rfl, _, kt⟩ := (HR7.out.later hB).lie k hkt
            have hs64 := HTS.out _ (List.getElem_mem hkt)
            rw [HAL.out k hkt] at HCT
            generalize (textsOf c.ms)[k] = t at *
            have kn : k < 256 + nm + nn := by omega
            have HC2 := (show Hid (acc ++ t.data.toList = cat (tsF c) (ids.take (i + 1))) from HCT.out.symm)
            clear HBAD HINB HAT hneg hge HCT
            go_wp2_with (at_builtin; refine Lib.wpList_append_own_stringF _ rfl _ _ 45 9 rfl w1.heap.size 5 i0 Try.underlying45 Try.underlying9 hi0 hz0 hz1 hz2 _ _ _ rfl hown t rfl ?c3 ?c4 ?c5 ?_)
            case c3 => unfold maxLen; omega
            case c4 => omega
            case c5 => exact hsz
            intro v' w3 hown' hgrow _
            have hB3 := hB.grown hgrow hsz (fun k hk => (hown.lt k hk).1)
            go_wp2_with (fail)
            go_roundw
            case rel =>
              refine ⟨i + 1, acc ++ t.data.toList, by go_num, by omega, ?_, hB3, ⟨HC2.out, HA2.out⟩, ?_⟩
              · rw [Lib.byteCells_append, List.length_append, ← bw.strCells_list, show t.data.toList.length = t.size from by rw [Array.length_toList]; rfl]
                exact hown'
              · rw [List.length_append, show t.data.toList.length = t.size from by rw [Array.length_toList]; rfl]; omega
            case measure => simp [intOf]; omega
          · have HC2 := (show Hid (acc = cat (tsF c) (ids.take (i + 1))) from by show _ = _; rw [HCT.out, HAN.out k (by rw [HTL.out, ← HNM.out]; omega), List.append_nil])
            have kn : k < 256 + nm + nn := by omega
            have hk2 : 256 + nm ≤ k := by omega
            clear HBAD HINB HAT hneg hge HCT hk
            go_wp2_with (fail)
            go_roundw
            case rel => exact ⟨i + 1, acc, by go_num, by omega, hown, hB, ⟨HC2.out, HA2.out⟩, by omega⟩
            case measure => simp [intOf]; omega
    · obtain rfl : i = ids.length := by omega
      have HF := (show Hid (RTextOut c ids w (.returned (.tuple #[.string ⟨acc.toArray⟩, .bool true])) wr) from ⟨true, _, rfl, by have := HA.out.2; rw [List.take_length] at this; exact this.symm, by rw [if_pos rfl]; unfold outB; rw [HA.out.1, List.take_length], chain hb01 hB⟩)
      have hcv := chars.conv_own hown
      clear HA
      go_wp2_with (fail)
      go_ret2
      exact HF.out
end Go.Proofs.Ythmecbonjkcnmaa.tw
