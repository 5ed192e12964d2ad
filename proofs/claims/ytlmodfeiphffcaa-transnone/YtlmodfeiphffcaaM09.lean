/-
  Texts put together: Contracts over this program: a text, rewritten (rule.rewrite). Contracts over this program: rule.Apply, rule.Grow.
-/
import Derived.Test.YtlmodfeiphffcaaKUh
import Derived.Test.YtlmodfeiphffcaaKBld
namespace Go.Proofs.Ytlmodfeiphffcaa.ru
open Go.ChangeShapes Go.WideShapes Go.ChangeAt Go.RowKit Go.Maps
set_option linter.unusedVariables false

theorem drop_list (s : ByteArray) (m : Nat) : (s.extract m s.size).data.toList = s.data.toList.drop m := by
  rw [ByteArray.data_extract, Array.toList_extract]
  simp
  rw [List.take_of_length_le]
  cases s
  simp [ByteArray.size]
theorem list_len (s : ByteArray) : s.data.toList.length = s.size := by cases s; rfl
theorem byteCells_one (l : List UInt8) (b : UInt8) : Lib.byteCells (l ++ [b]) = Lib.byteCells l ++ [.int .u8 (b.toNat : Int)] := by simp [Lib.byteCells]
theorem cons_list (s : ByteArray) (h : 0 < s.size) : s.data.toList = s[0] :: (s.extract 1 s.size).data.toList := by
  rw [drop_list]
  have hl : 0 < s.data.toList.length := by rw [list_len]; exact h
  have e := List.drop_eq_getElem_cons hl
  rw [List.drop_zero] at e
  exact e
theorem Rus.at {w : World} {v : Value} {l : List Ru} (h : Rus w v l) {i : Nat} (hi : i < l.length) : ∃ b off cap, v = .slice (some ⟨b, off, none⟩) l.length cap ∧ l.length ≤ cap ∧ cap ≤ 9223372036854775807 ∧ b < w.heap.size ∧ w.cell? ⟨b, off + i * 2, none⟩ = some (.string (nth l i).fr) ∧ w.cell? ⟨b, off + i * 2 + 1, none⟩ = some (.string (nth l i).to) := by
  rcases h with ⟨rfl, _⟩ | ⟨b, off, cap, hv, hl, hm, hlt, hc⟩
  · simp at hi
  · exact ⟨b, off, cap, hv, hl, hm, hlt, (hc i hi).1, (hc i hi).2⟩

/-- what is put so far, and what is left -/
def Sofar (l : List Ru) (s : ByteArray) (out : List UInt8) (t : ByteArray) : Prop := out ++ ap l t.data.toList = ap l s.data.toList ∧ t.size ≤ s.size
theorem Sofar.len {l : List Ru} (hg : Good l) {s : ByteArray} {out : List UInt8} {t : ByteArray} (h : Sofar l s out t) (hs : s.size ≤ 262144) : out.length ≤ 8388608 := by
  have h1 := congrArg List.length h.1
  rw [List.length_append] at h1
  have h2 := ap_grow hg s.data.toList
  rw [list_len] at h2
  have h3 := growN_le l hg.2.1 1 (by omega)
  have h4 : growN 1 l * s.size ≤ 32 * 262144 := Nat.mul_le_mul h3 hs
  omega
theorem Sofar.hit {l : List Ru} (hg : Good l) {s : ByteArray} {out : List UInt8} {t : ByteArray} (h : Sofar l s out t) {i : Nat} (hi : i < l.length) (hb : best l t.data.toList = some (nth l i)) : Sofar l s (out ++ (nth l i).to.data.toList) (t.extract (nth l i).fr.size t.size) ∧ (nth l i).fr.size ≤ t.size ∧ 1 ≤ (nth l i).fr.size := by
  have hp := (best_is l t.data.toList).1 _ hb
  have hpos := hg.pos hp.1
  have hle := hp.2.length_le
  rw [(nth l i).f_len, list_len] at hle
  rw [(nth l i).f_len] at hpos
  refine ⟨⟨?_, ?_⟩, hle, hpos.1⟩
  · rw [drop_list, List.append_assoc, ← h.1, ap_some hg hb, (nth l i).f_len]
    rfl
  · rw [ByteArray.size_extract]
    have := h.2
    omega
theorem Sofar.miss {l : List Ru} (hg : Good l) {s : ByteArray} {out : List UInt8} {t : ByteArray} (h : Sofar l s out t) (ht : 0 < t.size) (hb : best l t.data.toList = none) : Sofar l s (out ++ [t[0]]) (t.extract 1 t.size) := by
  refine ⟨?_, ?_⟩
  · rw [← h.1]
    have e := cons_list t ht
    rw [e] at hb
    rw [e, ap_none hg hb, List.append_assoc]
    rfl
  · rw [ByteArray.size_extract]
    have := h.2
    omega

def RewIs (l : List Ru) (s : ByteArray) : Prop := ∀ rv B D lv w, Fdr w l rv B D lv → Calls Try.prog 43 #[.agg #[rv, .map (some B), lv], .string s] w fun e w' => e = .returned (.string ⟨(ap l s.data.toList).toArray⟩) ∧ Below w.heap.size w w'

set_option maxHeartbeats 4000000 in
set_option maxRecDepth 100000 in
theorem rew_any (l : List Ru) (hg : Good l) (s : ByteArray) (hs : s.size ≤ 262144) : RewIs l s := by
  intro rv B D lv w hF
  obtain ⟨ra, rcap, hrv, _, _⟩ := hF.rus.form
  obtain ⟨w1, HW1⟩ : ∃ w1, Hid (w1 = w.alloc (.cells #[rv, .map (some B), lv] 85)) := ⟨_, rfl⟩
  have hB1 : Below w.heap.size w w1 := by rw [HW1.out]; exact (Below.refl _ _).alloc (Nat.le_refl _) _
  have HF1 := (show Hid (∀ W, Kept w1 W → Fdr W l rv B D lv) from fun W h => (hF.below hB1).below h)
  have hn1 : w1.heap[w.heap.size]? = some (.cells #[rv, .map (some B), lv] 85 (0, 0)) := by rw [HW1.out]; exact heap_alloc_new w _
  have hlt1 : w.heap.size < w1.heap.size := (Array.getElem?_eq_some_iff.1 hn1).1
  have HGB := (show Hid (∀ W, Kept w1 W → W.heap[w.heap.size]? = some (.cells #[rv, .map (some B), lv] 85 (0, 0))) from fun W h => (h.block _ hlt1).trans hn1)
  have hsz1 : w1.heap.size = w.heap.size + 1 := by rw [HW1.out]; simp
  subst hrv
  have hlv : ∃ x y z, lv = .slice x y z := by
    rcases hF.row with ⟨_, a, cap, h⟩ | ⟨b, cap, h, _⟩
    · exact ⟨_, _, _, h⟩
    · exact ⟨_, _, _, h⟩
  obtain ⟨lx, ly, lz, rfl⟩ := hlv
  clear hF hn1
  have hf0 : Lib.IsBuilderF 119 5 w1.heap.size w1.heap.size (Lib.byteCells []) (w1.alloc (.cells #[.pointer none, .slice none 0 0] 119)) := Lib.IsBuilderF.of (Lib.fresh_isBuilder 119 5 w1)
  have hk0 : Kept w1 (w1.alloc (.cells #[.pointer none, .slice none 0 0] 119)) := (Below.refl _ _).alloc (Nat.le_refl _) _
  go_enter Try.func43, Try.ntmps43
  go_wp2
  rw [← HW1.out, ← hsz1]
  clear hsz1
  go_loopw [1] (fun x wr => ∃ (t : ByteArray) (out : List UInt8), x = .string t ∧ Kept w1 wr ∧ Lib.IsBuilderF 119 5 w1.heap.size w1.heap.size (Lib.byteCells out) wr ∧ Hid (Sofar l s out t)) (fun x _ => match x with | .string t => t.size | _ => 0)
  case atStart => exact ⟨s, [], rfl, hk0, hf0, rfl, Nat.le_refl _⟩
  case round =>
    obtain ⟨t, out, rfl, hK, hO, HS⟩ := hrel
    clear hf0 hk0
    have hlen := HS.out.len hg hs
    have hts := HS.out.2
    by_cases h0 : t.size = 0
    · have e0 : t.toList = [] := by rw [ByteArray.toList_eq]; exact List.length_eq_zero_iff.1 (by rw [list_len]; exact h0)
      have HE := (show Hid (out = ap l s.data.toList) from by
        have h1 := HS.out.1
        have h2 : t.data.toList = [] := List.length_eq_zero_iff.1 (by rw [list_len]; exact h0)
        rw [h2, ap_nil, List.append_nil] at h1
        exact h1)
      have c28 := bld.string_any w1.heap.size w1.heap.size out wr hO hK.size
      clear HS
      go_wp2_with (go_at_call 64; refine c28.mono ?_; rintro e w2 ⟨rfl, _, b2⟩)
      go_ret
      exact ⟨by rw [HE.out]; rfl, hB1.trans ((hK.trans b2).mono hB1.size)⟩
    · have hpos : 0 < t.size := by omega
      have e0 : t.toList.isEmpty = false := by rw [empty_eq]; exact beq_eq_false_iff_ne.2 h0
      have hgk := HGB.out wr hK
      have c25 := find_any l hg t (by omega) _ _ _ _ wr (HF1.out wr hK)
      cases hb : best l t.data.toList with
      | none =>
        have c25n : Calls Try.prog 61 #[.agg #[.slice ra l.length rcap, .map (some B), .slice lx ly lz], .string t] wr fun e w' => e = .returned (.int .i64 (-1)) ∧ Below wr.heap.size wr w' := by
          refine c25.mono ?_
          rintro e w' ⟨⟨n, rfl, ⟨i, _, _, h⟩ | ⟨rfl, _⟩⟩, b⟩
          · rw [hb] at h; cases h
          · exact ⟨rfl, b⟩
        have HN := (show Hid _ from HS.out.miss hg hpos hb)
        have hWB := bld.writeByte w1.heap.size w1.heap.size (Lib.byteCells out) (t[0].toNat : Int)
        rw [← byteCells_one] at hWB
        have hi0 : (0 : Int) < (t.size : Int) := by omega
        have hex : (t.extract 1 t.size).size = t.size - 1 := by rw [ByteArray.size_extract]; omega
        clear c25 HS hb
        go_wp2_with (first | (refine wpList_load_row rfl 85 (.tmp 2) rfl w.heap.size rfl 85 _ (0, 0) _ hgk Try.underlying85 rfl info85 ?_) | (go_at_call 61; refine c25n.mono ?_; rintro e w2 ⟨rfl, b2⟩; have k2 : Kept w1 w2 := chain hK b2; have c27 := hWB w2 (bld.later hO b2) (by rw [bld.byteCells_length]; omega) k2.size; clear hO) | (go_at_call 63; refine c27.mono ?_; rintro e w3 ⟨rfl, o3, b3⟩; have k3 : Kept w1 w3 := k2.trans b3))
        refine ⟨⟨_, _, rfl, k3, o3, HN⟩, ?_⟩
        show (t.extract 1 t.size).size < t.size
        omega
      | some r =>
        have c25s : Calls Try.prog 61 #[.agg #[.slice ra l.length rcap, .map (some B), .slice lx ly lz], .string t] wr fun e w' => ∃ i : Nat, e = .returned (.int .i64 (i : Int)) ∧ i < l.length ∧ best l t.data.toList = some (nth l i) ∧ Below wr.heap.size wr w' := by
          refine c25.mono ?_
          rintro e w' ⟨⟨n, rfl, ⟨i, hi, rfl, h⟩ | ⟨_, h⟩⟩, b⟩
          · exact ⟨i, rfl, hi, h, b⟩
          · rw [hb] at h; cases h
        have HSO := (show Hid (∀ i, i < l.length → best l t.data.toList = some (nth l i) → Sofar l s (out ++ (nth l i).to.data.toList) (t.extract (nth l i).fr.size t.size) ∧ (nth l i).fr.size ≤ t.size ∧ 1 ≤ (nth l i).fr.size) from fun i hi h => HS.out.hit hg hi h)
        have HTO := (show Hid (∀ i, i < l.length → (nth l i).to.size ≤ 32) from fun i hi => (bad_no.1 (hg.2.1 _ (nth_mem l i hi))).2.2)
        clear c25 hb HS
        go_wp2_with (refine wpList_load_row rfl 85 (.tmp 2) rfl w.heap.size rfl 85 _ (0, 0) _ hgk Try.underlying85 rfl info85 ?_)
        go_at_call 61
        refine c25s.mono ?_
        rintro e w2 ⟨i, rfl, hi, hbi, b2⟩
        have k2 : Kept w1 w2 := chain hK b2
        obtain ⟨hso, hf1, hf2⟩ := HSO.out i hi hbi
        have hto := HTO.out i hi
        obtain ⟨rb, roff, rcap', hre, hrl, hrm, hrlt, hr1, hr2⟩ := (HF1.out w2 k2).rus.at hi
        obtain ⟨rfl, rfl⟩ : ra = some ⟨rb, roff, none⟩ ∧ rcap = rcap' := by simpa using hre
        have hg2 : w2.cell? ⟨w.heap.size, 0, none⟩ = some (.slice (some ⟨rb, roff, none⟩) l.length rcap) := by rw [Lib.cell_of_heap (HGB.out w2 k2)]; rfl
        generalize nth l i = r2 at *
        have c26 := bld.write_any w1.heap.size w1.heap.size out r2.to (by omega) w2 (bld.later hO b2) k2.size
        have hfr1 : (r2.fr.size : Int) ≤ (t.size : Int) := by omega
        have hii : (i : Int) < (l.length : Int) := by omega
        have hi0 : (0 : Int) ≤ (i : Int) := by omega
        have hrb : rb < w1.heap.size := by
          obtain ⟨b', off', cap', he, _, _, hlt', _⟩ := (HF1.out w1 (Below.refl _ _)).rus.at hi
          have := Option.some.inj (Value.slice.inj he).1
          cases this
          exact hlt'
        have HKC := (show Hid (∀ w3, Below w1.heap.size w2 w3 → w3.cell? ⟨rb, roff + i * 2, none⟩ = some (.string r2.fr) ∧ w3.cell? ⟨w.heap.size, 0, none⟩ = some (.slice (some ⟨rb, roff, none⟩) l.length rcap)) from fun w3 b3 => ⟨by rw [b3.cell hrb]; exact hr1, by rw [b3.cell hlt1]; exact hg2⟩)
        have hex : (t.extract r2.fr.size t.size).size = t.size - r2.fr.size := by rw [ByteArray.size_extract]; omega
        have HSOF := (show Hid _ from hso)
        clear hso hbi HSO HTO c25s hre hO
        go_wp2_with (go_at_call 62; refine c26.mono ?_; rintro e w3 ⟨rfl, o3, b3, _⟩; obtain ⟨hr1', hg3⟩ := HKC.out w3 b3; have k3 : Kept w1 w3 := k2.trans b3)
        refine ⟨⟨_, _, rfl, k3, o3, HSOF⟩, ?_⟩
        show (t.extract r2.fr.size t.size).size < t.size
        omega
end Go.Proofs.Ytlmodfeiphffcaa.ru

namespace Go.Proofs.Ytlmodfeiphffcaa.ru
open Go.ChangeShapes Go.WideShapes Go.ChangeAt Go.RowKit Go.Maps
set_option linter.unusedVariables false

def txt (l : List UInt8) : ByteArray := ⟨l.toArray⟩
theorem txt_list (l : List UInt8) : (txt l).data.toList = l := rfl
/-- what Apply answers -/
def apT (l : List Ru) (s : ByteArray) : ByteArray := if Good l ∧ s.size ≤ 262144 then txt (ap l s.data.toList) else ⟨#[]⟩
def apE (l : List Ru) (s : ByteArray) : Nat := if Good l then (if s.size ≤ 262144 then 0 else 2) else rightE l

def ApIs (l : List Ru) (s : ByteArray) (t : ByteArray) (x : Nat) : Prop := ∀ v w, Rus w v l → Calls Try.prog 21 #[v, .string s] w fun e w' => e = .returned (.tuple #[.string t, .int .i64 (x : Int)]) ∧ Below w.heap.size w w'
set_option maxHeartbeats 2000000 in
set_option maxRecDepth 100000 in
theorem ap_any (l : List Ru) (s : ByteArray) (hs : s.size ≤ 9223372036854775807) (t : ByteArray) (x : Nat) (ht : t = apT l s) (hx : x = apE l s) : ApIs l s t x := by
  intro v w hv
  have c10 := right_any l _ rfl _ _ hv
  obtain ⟨a, cap, rfl, _, _⟩ := hv.form
  by_cases hg : Good l
  · rw [rightE_ok hg] at c10
    by_cases h2 : s.size ≤ 262144
    · have hN := new_any l hg
      have hR := rew_any l hg s h2
      obtain rfl : x = 0 := by rw [hx]; unfold apE; rw [if_pos hg, if_pos h2]
      have HT := (show Hid (txt (ap l s.data.toList) = t) from by show _ = _; rw [ht]; unfold apT; rw [if_pos ⟨hg, h2⟩])
      have f1 : ¬ (262144 : Int) < (s.size : Int) := by omega
      clear hx ht
      go_enter Try.func21, Try.ntmps21
      go_wp2_with (first | (go_at_call 32; refine c10.mono ?_; rintro e w1 ⟨rfl, b1⟩; have c17 := hN _ _ (hv.below b1)) | (go_at_call 44; refine c17.mono ?_; rintro e w2 ⟨B, D, lv, rfl, hF, b2⟩; have c16 := hR _ _ _ _ _ hF; clear hF) | (go_at_call 43; refine c16.mono ?_; rintro e w3 ⟨rfl, b3⟩))
      go_ret2
      exact ⟨by rw [← HT.out]; rfl, chain (chain b1 b2) b3⟩
    · obtain rfl : x = 2 := by rw [hx]; unfold apE; rw [if_pos hg, if_neg h2]
      obtain rfl : t = ⟨#[]⟩ := by rw [ht]; unfold apT; rw [if_neg (fun h => h2 h.2)]
      have f1 : (262144 : Int) < (s.size : Int) := by omega
      clear hx ht
      go_enter Try.func21, Try.ntmps21
      go_wp2_with (go_at_call 32; refine c10.mono ?_; rintro e w1 ⟨rfl, b1⟩)
      go_ret2
      exact ⟨rfl, b1⟩
  · obtain rfl : x = rightE l := by rw [hx]; unfold apE; rw [if_neg hg]
    obtain rfl : t = ⟨#[]⟩ := by rw [ht]; unfold apT; rw [if_neg (fun h => hg h.1)]
    have hne : rightE l ≠ 0 := fun h => hg (rightE_zero h)
    have hq2 : ((rightE l : Int) != 0) = true := bne_iff_ne.2 (by omega)
    clear hx ht
    generalize rightE l = r at *
    go_enter Try.func21, Try.ntmps21
    go_wp2_with (go_at_call 32; refine c10.mono ?_; rintro e w1 ⟨rfl, b1⟩)
    go_ret2
    exact ⟨rfl, b1⟩

def grN (l : List Ru) : Nat := if Good l then growN 1 l else 0
theorem growN_take (l : List Ru) (i : Nat) (h : i < l.length) : growN 1 (l.take (i + 1)) = max (growN 1 (l.take i)) (up (nth l i).fr.size (nth l i).to.size) := by
  rw [take_nth l i h]
  unfold growN
  rw [List.foldl_append]
  rfl
theorem up_int (a b : Nat) (ha : 1 ≤ a) : ((b : Int) + (a : Int) - 1).tdiv (a : Int) = (up a b : Int) := by
  unfold up
  rw [show ((b : Int) + (a : Int) - 1) = ((b + a - 1 : Nat) : Int) by omega, Int.ofNat_tdiv]

end Go.Proofs.Ytlmodfeiphffcaa.ru
