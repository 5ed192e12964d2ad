/-
  Contracts over this program: the document's text of a tree (fretsawref06.Text).
-/
import Derived.Test.YtfclidcfhadohaaDoorPi
import Derived.Test.YtfclidcfhadohaaDoorPl
namespace Go.Proofs.YtfclidcfhadohaaDoor.rp
open Go.Proofs.YtfclidcfhadohaaDoor.st
open Go.Proofs.YtfclidcfhadohaaDoor.sp (chain)
open Go.ChangeShapes Go.WideShapes Go.ChangeAt Go.RowKit
set_option linter.unusedVariables false

def TxIs (t : Tr) : Prop := ∀ (v : Value) (w : World), Is w (fun _ => True) t v → (txt t).length ≤ 4294967296 →
  Calls Tryd.prog 16 #[.agg #[.int .i64 t.kind, .int .u64 t.set.a, .int .u64 t.set.b, .int .u64 t.set.c, .int .u64 t.set.d, .int .i64 t.min, .int .i64 t.max, v]] w fun e w' => e = .returned (.string (bs (txt t))) ∧ Below w.heap.size w w'
theorem cells_old {w w' : World} {b o : Nat} {t : Tr} {v : Value} (h : Cells w b o t v) (hb : b < w.heap.size) (e : Below w.heap.size w w') : Cells w' b o t v := h.same (e.block b hb)
set_option maxHeartbeats 4000000 in
set_option maxRecDepth 100000 in
theorem tx_set (q : Q4) (hq : Fits q) (mn mx : Int) (l : List Tr) : TxIs (.node 1 q mn mx l) := by
  intro v w hI hlen
  obtain ⟨o, nn, cap, rfl⟩ := hI.shape
  simp only [Tr.kind, Tr.set, Tr.min, Tr.max]
  have he : txt (.node 1 q mn mx l) = setT q := by rw [txt_eq]; rfl
  rw [he]
  have B0 : Below w.heap.size w (w.alloc (.cells #[.int .i64 1, .int .u64 q.a, .int .u64 q.b, .int .u64 q.c, .int .u64 q.d, .int .i64 mn, .int .i64 mx, .slice o nn cap] 28)) := below_alloc _ _
  have hb0 : Box (w.alloc (.cells #[.int .i64 1, .int .u64 q.a, .int .u64 q.b, .int .u64 q.c, .int .u64 q.d, .int .i64 mn, .int .i64 mx, .slice o nn cap] 28)) w.heap.size (.node 1 q mn mx l) (.slice o nn cap) := box_new w (.node 1 q mn mx l) _
  have hs := rsettext_any q hq _ rfl
  obtain ⟨c0, c1, c2, c3, c4, c5, c6, c7⟩ := hb0.cells
  simp only [Tr.kind, Tr.set, Tr.min, Tr.max] at c0 c1 c2 c3 c4 c5 c6 c7
  unfold SetTextIs at hs
  generalize bs (setT q) = ts at *
  clear hlen he
  go_enter Tryd.func16, Tryd.ntmps16
  go_wp2_with (go_at_call 29; (with_reducible refine (hs _).mono ?_); rintro e w1 ⟨rfl, b1⟩)
  go_ret
  exact ⟨rfl, chain B0 b1⟩
set_option maxHeartbeats 4000000 in
set_option maxRecDepth 100000 in
theorem tx_cat (q : Q4) (mn mx : Int) (l : List Tr) (ih : ∀ i, i < l.length → TxIs (nthT l i)) : TxIs (.node 2 q mn mx l) := by
  intro v w hI hlen
  have IH := (show Hid (∀ i, i < l.length → TxIs (nthT l i)) from ih)
  clear ih
  obtain ⟨o, cap, b', off, vs, rfl, hcap, hk⟩ := hI.form
  simp only [Tr.kids] at hcap hk ⊢
  simp only [Tr.kind, Tr.set, Tr.min, Tr.max]
  have he : txt (.node 2 q mn mx l) = txts 2 true l := by rw [txt_eq]; rfl
  rw [he] at hlen ⊢
  have hll : l.length ≤ 9223372036854775807 := by
    by_cases h0 : 0 < l.length
    · have := (hk 0 h0).2.1; omega
    · omega
  have B0 : Below w.heap.size w (w.alloc (.cells #[.int .i64 2, .int .u64 q.a, .int .u64 q.b, .int .u64 q.c, .int .u64 q.d, .int .i64 mn, .int .i64 mx, .slice o l.length cap] 28)) := below_alloc _ _
  have hb0 : Box (w.alloc (.cells #[.int .i64 2, .int .u64 q.a, .int .u64 q.b, .int .u64 q.c, .int .u64 q.d, .int .i64 mn, .int .i64 mx, .slice o l.length cap] 28)) w.heap.size (.node 2 q mn mx l) (.slice o l.length cap) := box_new w (.node 2 q mn mx l) _
  have HBX := (show Hid (∀ W, Below (w.heap.size + 1) (w.alloc (.cells #[.int .i64 2, .int .u64 q.a, .int .u64 q.b, .int .u64 q.c, .int .u64 q.d, .int .i64 mn, .int .i64 mx, .slice o l.length cap] 28)) W → Box W w.heap.size (.node 2 q mn mx l) (.slice o l.length cap)) from fun W h => hb0.below (by simpa using h))
  obtain ⟨c0, c1, c2, c3, c4, c5, c6, c7⟩ := hb0.cells
  simp only [Tr.kind, Tr.set, Tr.min, Tr.max] at c0 c1 c2 c3 c4 c5 c6 c7
  have HL := (show Hid ((txts 2 true l).length ≤ 4294967296) from hlen)
  clear hI hb0 hlen he
  have BS : Below (w.heap.size + 1) (w.alloc (.cells #[.int .i64 2, .int .u64 q.a, .int .u64 q.b, .int .u64 q.c, .int .u64 q.d, .int .i64 mn, .int .i64 mx, .slice o l.length cap] 28)) (w.alloc (.cells #[.int .i64 2, .int .u64 q.a, .int .u64 q.b, .int .u64 q.c, .int .u64 q.d, .int .i64 mn, .int .i64 mx, .slice o l.length cap] 28)) := Below.refl _ _
  go_enter Tryd.func16, Tryd.ntmps16
  go_wp2_with (fail)
  go_loopw [4, 87] (fun y x wr => ∃ i : Nat, x = .int .i64 (i : Int) ∧ y = .string (bs (txts 2 true (l.take i))) ∧ i ≤ l.length ∧ Below w.heap.size w wr ∧ Below (w.heap.size + 1) (w.alloc (.cells #[.int .i64 2, .int .u64 q.a, .int .u64 q.b, .int .u64 q.c, .int .u64 q.d, .int .i64 mn, .int .i64 mx, .slice o l.length cap] 28)) wr) (fun _ x _ => l.length - (intOf x).toNat)
  case atStart => exact ⟨0, rfl, by simp [txts]; rfl, by omega, B0, BS⟩
  case round =>
    obtain ⟨i, rfl, rfl, hi, hBr, hBs⟩ := hrel
    clear B0 BS c0 c1 c2 c3 c4 c5 c6 c7
    by_cases hin : i < l.length
    · obtain ⟨rfl, hcm, hbl, hbB, hcells, hkid⟩ := hk i hin
      have hcells2 := cells_old hcells hbl hBr
      have hkid2 := hkid.later hBr
      obtain ⟨o2, n2, cap2, hv2⟩ := hkid.shape
      rw [hv2] at hcells2 hkid2
      obtain ⟨k0, k1, k2, k3, k4, k5, k6, k7⟩ := hcells2
      have hwi := IH.out i hin
      have HT := (show Hid (txts 2 true (l.take (i + 1)) = txts 2 true (l.take i) ++ item 2 i (nthT l i)) from txts_take 2 l i hin)
      have hlen2 : (txts 2 true (l.take (i + 1))).length ≤ 4294967296 := by
        have h2 := txts_pre 2 l (i + 1)
        have := HL.out
        omega
      rw [HT.out] at hlen2
      have hBA : Below (w.heap.size + 1) wr (wr.alloc (.cells #[.int .i64 (nthT l i).kind, .int .u64 (nthT l i).set.a, .int .u64 (nthT l i).set.b, .int .u64 (nthT l i).set.c, .int .u64 (nthT l i).set.d, .int .i64 (nthT l i).min, .int .i64 (nthT l i).max, .slice o2 n2 cap2] 28)) := (below_alloc _ _).mono (by have := hBs.size; simpa using this)
      have hbx := HBX.out (wr.alloc (.cells #[.int .i64 (nthT l i).kind, .int .u64 (nthT l i).set.a, .int .u64 (nthT l i).set.b, .int .u64 (nthT l i).set.c, .int .u64 (nthT l i).set.d, .int .i64 (nthT l i).min, .int .i64 (nthT l i).max, .slice o2 n2 cap2] 28)) (hBs.trans hBA)
      obtain ⟨d0, d1, d2, d3, d4, d5, d6, d7⟩ := hbx.cells
      simp only [Tr.kind, Tr.set, Tr.min, Tr.max] at d0 d1 d2 d3 d4 d5 d6 d7
      obtain ⟨e0, e1, e2, e3, e4, e5, e6, e7⟩ := (HBX.out wr hBs).cells
      simp only [Tr.kind, Tr.set, Tr.min, Tr.max] at e0 e1 e2 e3 e4 e5 e6 e7
      have hlt9 : w.heap.size < wr.heap.size := by have := hBs.size; simp at this; omega
      have hne9 : w.heap.size ≠ wr.heap.size := by omega
      have hne8 : ¬ wr.heap.size = w.heap.size := by omega
      clear hcells hkid hk hv2 IH HBX hbx
      generalize nthT l i = x at *
      have hlx : (txt x).length ≤ (item 2 i x).length := by
        have h1 := par_ge (decide ((2 : Int) = 2) && decide (x.kind = 3)) (txt x)
        have h2 : (item 2 i x).length = (if (2 : Int) = 3 ∧ 0 < i then ([124] : L8) else []).length + (par (decide ((2 : Int) = 2) && decide (x.kind = 3)) (txt x)).length := by
          unfold item
          exact List.length_append
        omega
      have hAI : ∀ O, Is (wr.alloc O) (fun _ => True) x (.slice o2 n2 cap2) := fun O => hkid2.later (below_alloc wr O)
      have hcall := fun O => hwi (.slice o2 n2 cap2) (wr.alloc O) (hAI O) (by simp only [List.length_append] at hlen2; omega)
      have hso := bs_size (txts 2 true (l.take i))
      have hst := bs_size (txt x)
      simp only [List.length_append] at hlen2
      by_cases h0 : 0 < i
      · have g0 : decide ((0 : Int) < (i : Int)) = true := decide_eq_true (by omega)
        by_cases h3 : x.kind = 3
        · have f3 : (x.kind == 3) = true := by simpa using h3
          have hit : item 2 i x = [40] ++ txt x ++ [41] := by unfold item; rw [if_neg (by omega)]; simp [h3, par]
          have EE : Hid (bs (txts 2 true (l.take i)) ++ (⟨#[40]⟩ : ByteArray) ++ bs (txt x) ++ (⟨#[41]⟩ : ByteArray) = bs (txts 2 true (l.take (i + 1)))) := by
            show _ = _
            rw [HT.out, hit, ← bs_append, ← bs_append, ← bs_append, show bs [40] = ⟨#[40]⟩ from rfl, show bs [41] = ⟨#[41]⟩ from rfl]
            simp only [ByteArray.append_assoc]
          rw [hit] at hlen2
          simp only [List.length_append, List.length_cons, List.length_nil] at hlen2
          have z1 : ¬ 9223372036854775807 < (txts 2 true (l.take i)).length + 1 := by omega
          have z2 : ¬ 9223372036854775807 < (txts 2 true (l.take i)).length + 1 + (txt x).length := by omega
          have z3 : ¬ 9223372036854775807 < (txts 2 true (l.take i)).length + 1 + (txt x).length + 1 := by omega
          clear HT hit h3 hlx hAI hwi
          generalize bs (txt x) = tb at *
          generalize bs (txts 2 true (l.take i)) = ta at *
          go_wp2_with (go_at_call 16; (with_reducible refine (hcall _).mono ?_); rintro e w2 ⟨rfl, b2⟩)
          go_roundw
          case rel => exact ⟨i + 1, by go_num, congrArg Value.string EE.out, by omega, chain (chain hBr (below_alloc _ _)) b2, (hBs.trans ((below_alloc _ _).mono (by have := hBs.size; simpa using this))).trans (b2.mono (by have := hBs.size; simp at this ⊢; omega))⟩
          case measure => simp [intOf]; omega
        · have f3 : (x.kind == 3) = false := by simpa using h3
          have hit : item 2 i x = txt x := by unfold item; rw [if_neg (by omega)]; simp [h3, par]
          have EE : Hid (bs (txts 2 true (l.take i)) ++ bs (txt x) = bs (txts 2 true (l.take (i + 1)))) := by
            show _ = _
            rw [HT.out, hit, ← bs_append]
          rw [hit] at hlen2
          have z1 : ¬ 9223372036854775807 < (txts 2 true (l.take i)).length + (txt x).length := by omega
          clear HT hit h3 hlx hAI hwi
          generalize bs (txt x) = tb at *
          generalize bs (txts 2 true (l.take i)) = ta at *
          go_wp2_with (go_at_call 16; (with_reducible refine (hcall _).mono ?_); rintro e w2 ⟨rfl, b2⟩)
          go_roundw
          case rel => exact ⟨i + 1, by go_num, congrArg Value.string EE.out, by omega, chain (chain hBr (below_alloc _ _)) b2, (hBs.trans ((below_alloc _ _).mono (by have := hBs.size; simpa using this))).trans (b2.mono (by have := hBs.size; simp at this ⊢; omega))⟩
          case measure => simp [intOf]; omega
      · have g0 : decide ((0 : Int) < (i : Int)) = false := decide_eq_false (by omega)
        by_cases h3 : x.kind = 3
        · have f3 : (x.kind == 3) = true := by simpa using h3
          have hit : item 2 i x = [40] ++ txt x ++ [41] := by unfold item; rw [if_neg (by omega)]; simp [h3, par]
          have EE : Hid (bs (txts 2 true (l.take i)) ++ (⟨#[40]⟩ : ByteArray) ++ bs (txt x) ++ (⟨#[41]⟩ : ByteArray) = bs (txts 2 true (l.take (i + 1)))) := by
            show _ = _
            rw [HT.out, hit, ← bs_append, ← bs_append, ← bs_append, show bs [40] = ⟨#[40]⟩ from rfl, show bs [41] = ⟨#[41]⟩ from rfl]
            simp only [ByteArray.append_assoc]
          rw [hit] at hlen2
          simp only [List.length_append, List.length_cons, List.length_nil] at hlen2
          have z1 : ¬ 9223372036854775807 < (txts 2 true (l.take i)).length + 1 := by omega
          have z2 : ¬ 9223372036854775807 < (txts 2 true (l.take i)).length + 1 + (txt x).length := by omega
          have z3 : ¬ 9223372036854775807 < (txts 2 true (l.take i)).length + 1 + (txt x).length + 1 := by omega
          clear HT hit h3 hlx hAI hwi
          generalize bs (txt x) = tb at *
          generalize bs (txts 2 true (l.take i)) = ta at *
          go_wp2_with (go_at_call 16; (with_reducible refine (hcall _).mono ?_); rintro e w2 ⟨rfl, b2⟩)
          go_roundw
          case rel => exact ⟨i + 1, by go_num, congrArg Value.string EE.out, by omega, chain (chain hBr (below_alloc _ _)) b2, (hBs.trans ((below_alloc _ _).mono (by have := hBs.size; simpa using this))).trans (b2.mono (by have := hBs.size; simp at this ⊢; omega))⟩
          case measure => simp [intOf]; omega
        · have f3 : (x.kind == 3) = false := by simpa using h3
          have hit : item 2 i x = txt x := by unfold item; rw [if_neg (by omega)]; simp [h3, par]
          have EE : Hid (bs (txts 2 true (l.take i)) ++ bs (txt x) = bs (txts 2 true (l.take (i + 1)))) := by
            show _ = _
            rw [HT.out, hit, ← bs_append]
          rw [hit] at hlen2
          have z1 : ¬ 9223372036854775807 < (txts 2 true (l.take i)).length + (txt x).length := by omega
          clear HT hit h3 hlx hAI hwi
          generalize bs (txt x) = tb at *
          generalize bs (txts 2 true (l.take i)) = ta at *
          go_wp2_with (go_at_call 16; (with_reducible refine (hcall _).mono ?_); rintro e w2 ⟨rfl, b2⟩)
          go_roundw
          case rel => exact ⟨i + 1, by go_num, congrArg Value.string EE.out, by omega, chain (chain hBr (below_alloc _ _)) b2, (hBs.trans ((below_alloc _ _).mono (by have := hBs.size; simpa using this))).trans (b2.mono (by have := hBs.size; simp at this ⊢; omega))⟩
          case measure => simp [intOf]; omega
    · obtain rfl : i = l.length := by omega
      rw [List.take_length]
      clear IH hk HBX
      go_wp2_with (fail)
      go_ret
      exact ⟨rfl, hBr⟩
set_option maxHeartbeats 4000000 in
set_option maxRecDepth 100000 in
theorem tx_alt (q : Q4) (mn mx : Int) (l : List Tr) (ih : ∀ i, i < l.length → TxIs (nthT l i)) : TxIs (.node 3 q mn mx l) := by
  intro v w hI hlen
  have IH := (show Hid (∀ i, i < l.length → TxIs (nthT l i)) from ih)
  clear ih
  obtain ⟨o, cap, b', off, vs, rfl, hcap, hk⟩ := hI.form
  simp only [Tr.kids] at hcap hk ⊢
  simp only [Tr.kind, Tr.set, Tr.min, Tr.max]
  have he : txt (.node 3 q mn mx l) = txts 3 true l := by rw [txt_eq]; rfl
  rw [he] at hlen ⊢
  have hll : l.length ≤ 9223372036854775807 := by
    by_cases h0 : 0 < l.length
    · have := (hk 0 h0).2.1; omega
    · omega
  have B0 : Below w.heap.size w (w.alloc (.cells #[.int .i64 3, .int .u64 q.a, .int .u64 q.b, .int .u64 q.c, .int .u64 q.d, .int .i64 mn, .int .i64 mx, .slice o l.length cap] 28)) := below_alloc _ _
  have hb0 : Box (w.alloc (.cells #[.int .i64 3, .int .u64 q.a, .int .u64 q.b, .int .u64 q.c, .int .u64 q.d, .int .i64 mn, .int .i64 mx, .slice o l.length cap] 28)) w.heap.size (.node 3 q mn mx l) (.slice o l.length cap) := box_new w (.node 3 q mn mx l) _
  have HBX := (show Hid (∀ W, Below (w.heap.size + 1) (w.alloc (.cells #[.int .i64 3, .int .u64 q.a, .int .u64 q.b, .int .u64 q.c, .int .u64 q.d, .int .i64 mn, .int .i64 mx, .slice o l.length cap] 28)) W → Box W w.heap.size (.node 3 q mn mx l) (.slice o l.length cap)) from fun W h => hb0.below (by simpa using h))
  obtain ⟨c0, c1, c2, c3, c4, c5, c6, c7⟩ := hb0.cells
  simp only [Tr.kind, Tr.set, Tr.min, Tr.max] at c0 c1 c2 c3 c4 c5 c6 c7
  have HL := (show Hid ((txts 3 true l).length ≤ 4294967296) from hlen)
  clear hI hb0 hlen he
  have BS : Below (w.heap.size + 1) (w.alloc (.cells #[.int .i64 3, .int .u64 q.a, .int .u64 q.b, .int .u64 q.c, .int .u64 q.d, .int .i64 mn, .int .i64 mx, .slice o l.length cap] 28)) (w.alloc (.cells #[.int .i64 3, .int .u64 q.a, .int .u64 q.b, .int .u64 q.c, .int .u64 q.d, .int .i64 mn, .int .i64 mx, .slice o l.length cap] 28)) := Below.refl _ _
  go_enter Tryd.func16, Tryd.ntmps16
  go_wp2_with (fail)
  go_loopw [4, 87] (fun y x wr => ∃ i : Nat, x = .int .i64 (i : Int) ∧ y = .string (bs (txts 3 true (l.take i))) ∧ i ≤ l.length ∧ Below w.heap.size w wr ∧ Below (w.heap.size + 1) (w.alloc (.cells #[.int .i64 3, .int .u64 q.a, .int .u64 q.b, .int .u64 q.c, .int .u64 q.d, .int .i64 mn, .int .i64 mx, .slice o l.length cap] 28)) wr) (fun _ x _ => l.length - (intOf x).toNat)
  case atStart => exact ⟨0, rfl, by simp [txts]; rfl, by omega, B0, BS⟩
  case round =>
    obtain ⟨i, rfl, rfl, hi, hBr, hBs⟩ := hrel
    clear B0 BS c0 c1 c2 c3 c4 c5 c6 c7
    by_cases hin : i < l.length
    · obtain ⟨rfl, hcm, hbl, hbB, hcells, hkid⟩ := hk i hin
      have hcells2 := cells_old hcells hbl hBr
      have hkid2 := hkid.later hBr
      obtain ⟨o2, n2, cap2, hv2⟩ := hkid.shape
      rw [hv2] at hcells2 hkid2
      obtain ⟨k0, k1, k2, k3, k4, k5, k6, k7⟩ := hcells2
      have hwi := IH.out i hin
      have HT := (show Hid (txts 3 true (l.take (i + 1)) = txts 3 true (l.take i) ++ item 3 i (nthT l i)) from txts_take 3 l i hin)
      have hlen2 : (txts 3 true (l.take (i + 1))).length ≤ 4294967296 := by
        have h2 := txts_pre 3 l (i + 1)
        have := HL.out
        omega
      rw [HT.out] at hlen2
      have hBA : Below (w.heap.size + 1) wr (wr.alloc (.cells #[.int .i64 (nthT l i).kind, .int .u64 (nthT l i).set.a, .int .u64 (nthT l i).set.b, .int .u64 (nthT l i).set.c, .int .u64 (nthT l i).set.d, .int .i64 (nthT l i).min, .int .i64 (nthT l i).max, .slice o2 n2 cap2] 28)) := (below_alloc _ _).mono (by have := hBs.size; simpa using this)
      have hbx := HBX.out (wr.alloc (.cells #[.int .i64 (nthT l i).kind, .int .u64 (nthT l i).set.a, .int .u64 (nthT l i).set.b, .int .u64 (nthT l i).set.c, .int .u64 (nthT l i).set.d, .int .i64 (nthT l i).min, .int .i64 (nthT l i).max, .slice o2 n2 cap2] 28)) (hBs.trans hBA)
      obtain ⟨d0, d1, d2, d3, d4, d5, d6, d7⟩ := hbx.cells
      simp only [Tr.kind, Tr.set, Tr.min, Tr.max] at d0 d1 d2 d3 d4 d5 d6 d7
      obtain ⟨e0, e1, e2, e3, e4, e5, e6, e7⟩ := (HBX.out wr hBs).cells
      simp only [Tr.kind, Tr.set, Tr.min, Tr.max] at e0 e1 e2 e3 e4 e5 e6 e7
      have hlt9 : w.heap.size < wr.heap.size := by have := hBs.size; simp at this; omega
      have hne9 : w.heap.size ≠ wr.heap.size := by omega
      have hne8 : ¬ wr.heap.size = w.heap.size := by omega
      clear hcells hkid hk hv2 IH HBX hbx
      generalize nthT l i = x at *
      have hlx : (txt x).length ≤ (item 3 i x).length := by
        have h1 := par_ge (decide ((3 : Int) = 2) && decide (x.kind = 3)) (txt x)
        have h2 : (item 3 i x).length = (if (3 : Int) = 3 ∧ 0 < i then ([124] : L8) else []).length + (par (decide ((3 : Int) = 2) && decide (x.kind = 3)) (txt x)).length := by
          unfold item
          exact List.length_append
        omega
      have hAI : ∀ O, Is (wr.alloc O) (fun _ => True) x (.slice o2 n2 cap2) := fun O => hkid2.later (below_alloc wr O)
      have hcall := fun O => hwi (.slice o2 n2 cap2) (wr.alloc O) (hAI O) (by simp only [List.length_append] at hlen2; omega)
      have hso := bs_size (txts 3 true (l.take i))
      have hst := bs_size (txt x)
      simp only [List.length_append] at hlen2
      by_cases h0 : 0 < i
      · have g0 : decide ((0 : Int) < (i : Int)) = true := decide_eq_true (by omega)
        have hit : item 3 i x = [124] ++ txt x := by unfold item; rw [if_pos ⟨rfl, h0⟩]; simp [par]
        have EE : Hid (bs (txts 3 true (l.take i)) ++ (⟨#[124]⟩ : ByteArray) ++ bs (txt x) = bs (txts 3 true (l.take (i + 1)))) := by
          show _ = _
          rw [HT.out, hit, ← bs_append, ← bs_append, show bs [124] = ⟨#[124]⟩ from rfl]
          simp only [ByteArray.append_assoc]
        rw [hit] at hlen2
        simp only [List.length_append, List.length_cons, List.length_nil] at hlen2
        have z1 : ¬ 9223372036854775807 < (txts 3 true (l.take i)).length + 1 := by omega
        have z2 : ¬ 9223372036854775807 < (txts 3 true (l.take i)).length + 1 + (txt x).length := by omega
        clear HT hit hlx hAI hwi
        generalize bs (txt x) = tb at *
        generalize bs (txts 3 true (l.take i)) = ta at *
        go_wp2_with (go_at_call 16; (with_reducible refine (hcall _).mono ?_); rintro e w2 ⟨rfl, b2⟩)
        go_roundw
        case rel => exact ⟨i + 1, by go_num, congrArg Value.string EE.out, by omega, chain (chain hBr (below_alloc _ _)) b2, (hBs.trans ((below_alloc _ _).mono (by have := hBs.size; simpa using this))).trans (b2.mono (by have := hBs.size; simp at this ⊢; omega))⟩
        case measure => simp [intOf]; omega
      · have g0 : decide ((0 : Int) < (i : Int)) = false := decide_eq_false (by omega)
        have hit : item 3 i x = txt x := by unfold item; rw [if_neg (by omega)]; simp [par]
        have EE : Hid (bs (txts 3 true (l.take i)) ++ bs (txt x) = bs (txts 3 true (l.take (i + 1)))) := by
          show _ = _
          rw [HT.out, hit, ← bs_append]
        rw [hit] at hlen2
        have z1 : ¬ 9223372036854775807 < (txts 3 true (l.take i)).length + (txt x).length := by omega
        clear HT hit hlx hAI hwi
        generalize bs (txt x) = tb at *
        generalize bs (txts 3 true (l.take i)) = ta at *
        go_wp2_with (go_at_call 16; (with_reducible refine (hcall _).mono ?_); rintro e w2 ⟨rfl, b2⟩)
        go_roundw
        case rel => exact ⟨i + 1, by go_num, congrArg Value.string EE.out, by omega, chain (chain hBr (below_alloc _ _)) b2, (hBs.trans ((below_alloc _ _).mono (by have := hBs.size; simpa using this))).trans (b2.mono (by have := hBs.size; simp at this ⊢; omega))⟩
        case measure => simp [intOf]; omega
    · obtain rfl : i = l.length := by omega
      rw [List.take_length]
      clear IH hk HBX
      go_wp2_with (fail)
      go_ret
      exact ⟨rfl, hBr⟩
end Go.Proofs.YtfclidcfhadohaaDoor.rp
