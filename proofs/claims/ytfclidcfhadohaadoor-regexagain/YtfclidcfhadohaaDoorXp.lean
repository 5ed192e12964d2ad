/-
  Contracts over this program: how an expression's tree is printed (regex.Print and the document's).
-/
import Derived.Test.YtfclidcfhadohaaDoorPi
import Derived.Test.YtfclidcfhadohaaDoorPl
namespace Go.Proofs.YtfclidcfhadohaaDoor.rp
open Go.Proofs.YtfclidcfhadohaaDoor.st
open Go.Proofs.YtfclidcfhadohaaDoor.sp (chain)
open Go.ChangeShapes Go.WideShapes Go.ChangeAt Go.RowKit
set_option linter.unusedVariables false

def TxIs (t : Tr) : Prop := ∀ (v : Value) (w : World), Is w (fun _ => True) t v → (txt t).length ≤ 4294967296 →
  Calls Tryd.prog 16 #[.agg #[.int .i64 t.kind, .int .u64 t.set.a, .int .u64 t.set.b, .int .u64 t.set.c, .int .u64 t.set.d, .int .i64 t.min, .int .i64 t.max, v]] w fun e w' => e = .returned (.string (bs (txt t))) ∧ Below w.heap.size w w'
theorem cells_old {w w' : World} {b o : Nat} {t : Tr} {v : Value} (h : Cells w b o t v) (hb : b < w.heap.size) (e : Below w.heap.size w w') : Cells w' b o t v := h.same (e.block b hb)
set_option maxHeartbeats 4000000 in
set_option maxRecDepth 100000 in
theorem tx_set (q : Q4) (hq : Fits q) (mn mx : Int) (l : List Tr) : TxIs (.node 1 q mn mx l) := by
  intro v w hI hlen
  obtain ⟨o, nn, cap, rfl⟩ := hI.shape
  simp only [Tr.kind, Tr.set, Tr.min, Tr.max]
  have he : txt (.node 1 q mn mx l) = setT q := by rw [txt_eq]; rfl
  rw [he]
  have B0 : Below w.heap.size w (w.alloc (.cells #[.int .i64 1, .int .u64 q.a, .int .u64 q.b, .int .u64 q.c, .int .u64 q.d, .int .i64 mn, .int .i64 mx, .slice o nn cap] 28)) := below_alloc _ _
  have hb0 : Box (w.alloc (.cells #[.int .i64 1, .int .u64 q.a, .int .u64 q.b, .int .u64 q.c, .int .u64 q.d, .int .i64 mn, .int .i64 mx, .slice o nn cap] 28)) w.heap.size (.node 1 q mn mx l) (.slice o nn cap) := box_new w (.node 1 q mn mx l) _
  have hs := rsettext_any q hq _ rfl
  obtain ⟨c0, c1, c2, c3, c4, c5, c6, c7⟩ := hb0.cells
  simp only [Tr.kind, Tr.set, Tr.min, Tr.max] at c0 c1 c2 c3 c4 c5 c6 c7
  unfold SetTextIs at hs
  generalize bs (setT q) = ts at *
  clear hlen he
  go_enter Tryd.func16, Tryd.ntmps16
  go_wp2_with (go_at_call 29; (with_reducible refine (hs _).mono ?_); rintro e w1 ⟨rfl, b1⟩)
  go_ret
  exact ⟨rfl, chain B0 b1⟩
set_option maxHeartbeats 4000000 in
set_option maxRecDepth 100000 in
theorem tx_cat (q : Q4) (mn mx : Int) (l : List Tr) (ih : ∀ i, i < l.length → TxIs (nthT l i)) : TxIs (.node 2 q mn mx l) := by
  intro v w hI hlen
  have IH := (show Hid (∀ i, i < l.length → TxIs (nthT l i)) from ih)
  clear ih
  obtain ⟨o, cap, b', off, vs, rfl, hcap, hk⟩ := hI.form
  simp only [Tr.kids] at hcap hk ⊢
  simp only [Tr.kind, Tr.set, Tr.min, Tr.max]
  have he : txt (.node 2 q mn mx l) = txts 2 true l := by rw [txt_eq]; rfl
  rw [he] at hlen ⊢
  have hll : l.length ≤ 9223372036854775807 := by
    by_cases h0 : 0 < l.length
    · have := (hk 0 h0).2.1; omega
    · omega
  have B0 : Below w.heap.size w (w.alloc (.cells #[.int .i64 2, .int .u64 q.a, .int .u64 q.b, .int .u64 q.c, .int .u64 q.d, .int .i64 mn, .int .i64 mx, .slice o l.length cap] 28)) := below_alloc _ _
  have hb0 : Box (w.alloc (.cells #[.int .i64 2, .int .u64 q.a, .int .u64 q.b, .int .u64 q.c, .int .u64 q.d, .int .i64 mn, .int .i64 mx, .slice o l.length cap] 28)) w.heap.size (.node 2 q mn mx l) (.slice o l.length cap) := box_new w (.node 2 q mn mx l) _
  have HBX := (show Hid (∀ W, Below (w.heap.size + 1) (w.alloc (.cells #[.int .i64 2, .int .u64 q.a, .int .u64 q.b, .int .u64 q.c, .int .u64 q.d, .int .i64 mn, .int .i64 mx, .slice o l.length cap] 28)) W → Box W w.heap.size (.node 2 q mn mx l) (.slice o l.length cap)) from fun W h => hb0.below (by simpa using h))
  obtain ⟨c0, c1, c2, c3, c4, c5, c6, c7⟩ := hb0.cells
  simp only [Tr.kind, Tr.set, Tr.min, Tr.max] at c0 c1 c2 c3 c4 c5 c6 c7
  have HL := (show Hid ((txts 2 true l).length ≤ 4294967296) from hlen)
  clear hI hb0 hlen he
  have BS : Below (w.heap.size + 1) (w.alloc (.cells #[.int .i64 2, .int .u64 q.a, .int .u64 q.b, .int .u64 q.c, .int .u64 q.d, .int .i64 mn, .int .i64 mx, .slice o l.length cap] 28)) (w.alloc (.cells #[.int .i64 2, .int .u64 q.a, .int .u64 q.b, .int .u64 q.c, .int .u64 q.d, .int .i64 mn, .int .i64 mx, .slice o l.length cap] 28)) := Below.refl _ _
  go_enter Tryd.func16, Tryd.ntmps16
  go_wp2_with (fail)
  go_loopw [4, 87] (fun y x wr => ∃ i : Nat, x = .int .i64 (i : Int) ∧ y = .string (bs (txts 2 true (l.take i))) ∧ i ≤ l.length ∧ Below w.heap.size w wr ∧ Below (w.heap.size + 1) (w.alloc (.cells #[.int .i64 2, .int .u64 q.a, .int .u64 q.b, .int .u64 q.c, .int .u64 q.d, .int .i64 mn, .int .i64 mx, .slice o l.length cap] 28)) wr) (fun _ x _ => l.length - (intOf x).toNat)
  case atStart => exact ⟨0, rfl, by simp [txts]; rfl, by omega, B0, BS⟩
  case round =>
    obtain ⟨i, rfl, rfl, hi, hBr, hBs⟩ := hrel
    clear B0 BS c0 c1 c2 c3 c4 c5 c6 c7
    by_cases hin : i < l.length
    · obtain ⟨rfl, hcm, hbl, hbB, hcells, hkid⟩ := hk i hin
      have hcells2 := cells_old hcells hbl hBr
      have hkid2 := hkid.later hBr
      obtain ⟨o2, n2, cap2, hv2⟩ := hkid.shape
      rw [hv2] at hcells2 hkid2
      obtain ⟨k0, k1, k2, k3, k4, k5, k6, k7⟩ := hcells2
      have hwi := IH.out i hin
      have HT := (show Hid (txts 2 true (l.take (i + 1)) = txts 2 true (l.take i) ++ item 2 i (nthT l i)) from txts_take 2 l i hin)
      have hlen2 : (txts 2 true (l.take (i + 1))).length ≤ 4294967296 := by
        have h2 := txts_pre 2 l (i + 1)
        have := HL.out
        omega
      rw [HT.out] at hlen2
      have hBA : Below (w.heap.size + 1) wr (wr.alloc (.cells #[.int .i64 (nthT l i).kind, .int .u64 (nthT l i).set.a, .int .u64 (nthT l i).set.b, .int .u64 (nthT l i).set.c, .int .u64 (nthT l i).set.d, .int .i64 (nthT l i).min, .int .i64 (nthT l i).max, .slice o2 n2 cap2] 28)) := (below_alloc _ _).mono (by have := hBs.size; simpa using this)
      have hbx := HBX.out (wr.alloc (.cells #[.int .i64 (nthT l i).kind, .int .u64 (nthT l i).set.a, .int .u64 (nthT l i).set.b, .int .u64 (nthT l i).set.c, .int .u64 (nthT l i).set.d, .int .i64 (nthT l i).min, .int .i64 (nthT l i).max, .slice o2 n2 cap2] 28)) (hBs.trans hBA)
      obtain ⟨d0, d1, d2, d3, d4, d5, d6, d7⟩ := hbx.cells
      simp only [Tr.kind, Tr.set, Tr.min, Tr.max] at d0 d1 d2 d3 d4 d5 d6 d7
      obtain ⟨e0, e1, e2, e3, e4, e5, e6, e7⟩ := (HBX.out wr hBs).cells
      simp only [Tr.kind, Tr.set, Tr.min, Tr.max] at e0 e1 e2 e3 e4 e5 e6 e7
      have hlt9 : w.heap.size < wr.heap.size := by have := hBs.size; simp at this; omega
      have hne9 : w.heap.size ≠ wr.heap.size := by omega
      have hne8 : ¬ wr.heap.size = w.heap.size := by omega
      clear hcells hkid hk hv2 IH HBX hbx
      generalize nthT l i = x at *
      have hlx : (txt x).length ≤ (item 2 i x).length := by
        have h1 := par_ge (decide ((2 : Int) = 2) && decide (x.kind = 3)) (txt x)
        have h2 : (item 2 i x).length = (if (2 : Int) = 3 ∧ 0 < i then ([124] : L8) else []).length + (par (decide ((2 : Int) = 2) && decide (x.kind = 3)) (txt x)).length := by
          unfold item
          exact List.length_append
        omega
      have hAI : ∀ O, Is (wr.alloc O) (fun _ => True) x (.slice o2 n2 cap2) := fun O => hkid2.later (below_alloc wr O)
      have hcall := fun O => hwi (.slice o2 n2 cap2) (wr.alloc O) (hAI O) (by simp only [List.length_append] at hlen2; omega)
      have hso := bs_size (txts 2 true (l.take i))
      have hst := bs_size (txt x)
      simp only [List.length_append] at hlen2
      by_cases h0 : 0 < i
      · have g0 : decide ((0 : Int) < (i : Int)) = true := decide_eq_true (by omega)
        by_cases h3 : x.kind = 3
        · have f3 : (x.kind == 3) = true := by simpa using h3
          have hit : item 2 i x = [40] ++ txt x ++ [41] := by unfold item; rw [if_neg (by omega)]; simp [h3, par]
          have EE : Hid (bs (txts 2 true (l.take i)) ++ (⟨#[40]⟩ : ByteArray) ++ bs (txt x) ++ (⟨#[41]⟩ : ByteArray) = bs (txts 2 true (l.take (i + 1)))) := by
            show _ = _
            rw [HT.out, hit, ← bs_append, ← bs_append, ← bs_append, show bs [40] = ⟨#[40]⟩ from rfl, show bs [41] = ⟨#[41]⟩ from rfl]
            simp only [ByteArray.append_assoc]
          rw [hit] at hlen2
          simp only [List.length_append, List.length_cons, List.length_nil] at hlen2
          have z1 : ¬ 9223372036854775807 < (txts 2 true (l.take i)).length + 1 := by omega
          have z2 : ¬ 9223372036854775807 < (txts 2 true (l.take i)).length + 1 + (txt x).length := by omega
          have z3 : ¬ 9223372036854775807 < (txts 2 true (l.take i)).length + 1 + (txt x).length + 1 := by omega
          clear HT hit h3 hlx hAI hwi
          generalize bs (txt x) = tb at *
          generalize bs (txts 2 true (l.take i)) = ta at *
          go_wp2_with (go_at_call 16; (with_reducible refine (hcall _).mono ?_); rintro e w2 ⟨rfl, b2⟩)
          go_roundw
          case rel => exact ⟨i + 1, by go_num, congrArg Value.string EE.out, by omega, chain (chain hBr (below_alloc _ _)) b2, (hBs.trans ((below_alloc _ _).mono (by have := hBs.size; simpa using this))).trans (b2.mono (by have := hBs.size; simp at this ⊢; omega))⟩
          case measure => simp [intOf]; omega
        · have f3 : (x.kind == 3) = false := by simpa using h3
          have hit : item 2 i x = txt x := by unfold item; rw [if_neg (by omega)]; simp [h3, par]
          have EE : Hid (bs (txts 2 true (l.take i)) ++ bs (txt x) = bs (txts 2 true (l.take (i + 1)))) := by
            show _ = _
            rw [HT.out, hit, ← bs_append]
          rw [hit] at hlen2
          have z1 : ¬ 9223372036854775807 < (txts 2 true (l.take i)).length + (txt x).length := by omega
          clear HT hit h3 hlx hAI hwi
          generalize bs (txt x) = tb at *
          generalize bs (txts 2 true (l.take i)) = ta at *
          go_wp2_with (go_at_call 16; (with_reducible refine (hcall _).mono ?_); rintro e w2 ⟨rfl, b2⟩)
          go_roundw
          case rel => exact ⟨i + 1, by go_num, congrArg Value.string EE.out, by omega, chain (chain hBr (below_alloc _ _)) b2, (hBs.trans ((below_alloc _ _).mono (by have := hBs.size; simpa using this))).trans (b2.mono (by have := hBs.size; simp at this ⊢; omega))⟩
          case measure => simp [intOf]; omega
      · have g0 : decide ((0 : Int) < (i : Int)) = false := decide_eq_false (by omega)
        by_cases h3 : x.kind = 3
        · have f3 : (x.kind == 3) = true := by simpa using h3
          have hit : item 2 i x = [40] ++ txt x ++ [41] := by unfold item; rw [if_neg (by omega)]; simp [h3, par]
          have EE : Hid (bs (txts 2 true (l.take i)) ++ (⟨#[40]⟩ : ByteArray) ++ bs (txt x) ++ (⟨#[41]⟩ : ByteArray) = bs (txts 2 true (l.take (i + 1)))) := by
            show _ = _
            rw [HT.out, hit, ← bs_append, ← bs_append, ← bs_append, show bs [40] = ⟨#[40]⟩ from rfl, show bs [41] = ⟨#[41]⟩ from rfl]
            simp only [ByteArray.append_assoc]
          rw [hit] at hlen2
          simp only [List.length_append, List.length_cons, List.length_nil] at hlen2
          have z1 : ¬ 9223372036854775807 < (txts 2 true (l.take i)).length + 1 := by omega
          have z2 : ¬ 9223372036854775807 < (txts 2 true (l.take i)).length + 1 + (txt x).length := by omega
          have z3 : ¬ 9223372036854775807 < (txts 2 true (l.take i)).length + 1 + (txt x).length + 1 := by omega
          clear HT hit h3 hlx hAI hwi
          generalize bs (txt x) = tb at *
          generalize bs (txts 2 true (l.take i)) = ta at *
          go_wp2_with (go_at_call 16; (with_reducible refine (hcall _).mono ?_); rintro e w2 ⟨rfl, b2⟩)
          go_roundw
          case rel => exact ⟨i + 1, by go_num, congrArg Value.string EE.out, by omega, chain (chain hBr (below_alloc _ _)) b2, (hBs.trans ((below_alloc _ _).mono (by have := hBs.size; simpa using this))).trans (b2.mono (by have := hBs.size; simp at this ⊢; omega))⟩
          case measure => simp [intOf]; omega
        · have f3 : (x.kind == 3) = false := by simpa using h3
          have hit : item 2 i x = txt x := by unfold item; rw [if_neg (by omega)]; simp [h3, par]
          have EE : Hid (bs (txts 2 true (l.take i)) ++ bs (txt x) = bs (txts 2 true (l.take (i + 1)))) := by
            show _ = _
            rw [HT.out, hit, ← bs_append]
          rw [hit] at hlen2
          have z1 : ¬ 9223372036854775807 < (txts 2 true (l.take i)).length + (txt x).length := by omega
          clear HT hit h3 hlx hAI hwi
          generalize bs (txt x) = tb at *
          generalize bs (txts 2 true (l.take i)) = ta at *
          go_wp2_with (go_at_call 16; (with_reducible refine (hcall _).mono ?_); rintro e w2 ⟨rfl, b2⟩)
          go_roundw
          case rel => exact ⟨i + 1, by go_num, congrArg Value.string EE.out, by omega, chain (chain hBr (below_alloc _ _)) b2, (hBs.trans ((below_alloc _ _).mono (by have := hBs.size; simpa using this))).trans (b2.mono (by have := hBs.size; simp at this ⊢; omega))⟩
          case measure => simp [intOf]; omega
    · obtain rfl : i = l.length := by omega
      rw [List.take_length]
      clear IH hk HBX
      go_wp2_with (fail)
      go_ret
      exact ⟨rfl, hBr⟩
set_option maxHeartbeats 4000000 in
set_option maxRecDepth 100000 in
theorem tx_alt (q : Q4) (mn mx : Int) (l : List Tr) (ih : ∀ i, i < l.length → TxIs (nthT l i)) : TxIs (.node 3 q mn mx l) := by
  intro v w hI hlen
  have IH := (show Hid (∀ i, i < l.length → TxIs (nthT l i)) from ih)
  clear ih
  obtain ⟨o, cap, b', off, vs, rfl, hcap, hk⟩ := hI.form
  simp only [Tr.kids] at hcap hk ⊢
  simp only [Tr.kind, Tr.set, Tr.min, Tr.max]
  have he : txt (.node 3 q mn mx l) = txts 3 true l := by rw [txt_eq]; rfl
  rw [he] at hlen ⊢
  have hll : l.length ≤ 9223372036854775807 := by
    by_cases h0 : 0 < l.length
    · have := (hk 0 h0).2.1; omega
    · omega
  have B0 : Below w.heap.size w (w.alloc (.cells #[.int .i64 3, .int .u64 q.a, .int .u64 q.b, .int .u64 q.c, .int .u64 q.d, .int .i64 mn, .int .i64 mx, .slice o l.length cap] 28)) := below_alloc _ _
  have hb0 : Box (w.alloc (.cells #[.int .i64 3, .int .u64 q.a, .int .u64 q.b, .int .u64 q.c, .int .u64 q.d, .int .i64 mn, .int .i64 mx, .slice o l.length cap] 28)) w.heap.size (.node 3 q mn mx l) (.slice o l.length cap) := box_new w (.node 3 q mn mx l) _
  have HBX := (show Hid (∀ W, Below (w.heap.size + 1) (w.alloc (.cells #[.int .i64 3, .int .u64 q.a, .int .u64 q.b, .int .u64 q.c, .int .u64 q.d, .int .i64 mn, .int .i64 mx, .slice o l.length cap] 28)) W → Box W w.heap.size (.node 3 q mn mx l) (.slice o l.length cap)) from fun W h => hb0.below (by simpa using h))
  obtain ⟨c0, c1, c2, c3, c4, c5, c6, c7⟩ := hb0.cells
  simp only [Tr.kind, Tr.set, Tr.min, Tr.max] at c0 c1 c2 c3 c4 c5 c6 c7
  have HL := (show Hid ((txts 3 true l).length ≤ 4294967296) from hlen)
  clear hI hb0 hlen he
  have BS : Below (w.heap.size + 1) (w.alloc (.cells #[.int .i64 3, .int .u64 q.a, .int .u64 q.b, .int .u64 q.c, .int .u64 q.d, .int .i64 mn, .int .i64 mx, .slice o l.length cap] 28)) (w.alloc (.cells #[.int .i64 3, .int .u64 q.a, .int .u64 q.b, .int .u64 q.c, .int .u64 q.d, .int .i64 mn, .int .i64 mx, .slice o l.length cap] 28)) := Below.refl _ _
  go_enter Tryd.func16, Tryd.ntmps16
  go_wp2_with (fail)
  go_loopw [4, 87] (fun y x wr => ∃ i : Nat, x = .int .i64 (i : Int) ∧ y = .string (bs (txts 3 true (l.take i))) ∧ i ≤ l.length ∧ Below w.heap.size w wr ∧ Below (w.heap.size + 1) (w.alloc (.cells #[.int .i64 3, .int .u64 q.a, .int .u64 q.b, .int .u64 q.c, .int .u64 q.d, .int .i64 mn, .int .i64 mx, .slice o l.length cap] 28)) wr) (fun _ x _ => l.length - (intOf x).toNat)
  case atStart => exact ⟨0, rfl, by simp [txts]; rfl, by omega, B0, BS⟩
  case round =>
    obtain ⟨i, rfl, rfl, hi, hBr, hBs⟩ := hrel
    clear B0 BS c0 c1 c2 c3 c4 c5 c6 c7
    by_cases hin : i < l.length
    · obtain ⟨rfl, hcm, hbl, hbB, hcells, hkid⟩ := hk i hin
      have hcells2 := cells_old hcells hbl hBr
      have hkid2 := hkid.later hBr
      obtain ⟨o2, n2, cap2, hv2⟩ := hkid.shape
      rw [hv2] at hcells2 hkid2
      obtain ⟨k0, k1, k2, k3, k4, k5, k6, k7⟩ := hcells2
      have hwi := IH.out i hin
      have HT := (show Hid (txts 3 true (l.take (i + 1)) = txts 3 true (l.take i) ++ item 3 i (nthT l i)) from txts_take 3 l i hin)
      have hlen2 : (txts 3 true (l.take (i + 1))).length ≤ 4294967296 := by
        have h2 := txts_pre 3 l (i + 1)
        have := HL.out
        omega
      rw [HT.out] at hlen2
      have hBA : Below (w.heap.size + 1) wr (wr.alloc (.cells #[.int .i64 (nthT l i).kind, .int .u64 (nthT l i).set.a, .int .u64 (nthT l i).set.b, .int .u64 (nthT l i).set.c, .int .u64 (nthT l i).set.d, .int .i64 (nthT l i).min, .int .i64 (nthT l i).max, .slice o2 n2 cap2] 28)) := (below_alloc _ _).mono (by have := hBs.size; simpa using this)
      have hbx := HBX.out (wr.alloc (.cells #[.int .i64 (nthT l i).kind, .int .u64 (nthT l i).set.a, .int .u64 (nthT l i).set.b, .int .u64 (nthT l i).set.c, .int .u64 (nthT l i).set.d, .int .i64 (nthT l i).min, .int .i64 (nthT l i).max, .slice o2 n2 cap2] 28)) (hBs.trans hBA)
      obtain ⟨d0, d1, d2, d3, d4, d5, d6, d7⟩ := hbx.cells
      simp only [Tr.kind, Tr.set, Tr.min, Tr.max] at d0 d1 d2 d3 d4 d5 d6 d7
      obtain ⟨e0, e1, e2, e3, e4, e5, e6, e7⟩ := (HBX.out wr hBs).cells
      simp only [Tr.kind, Tr.set, Tr.min, Tr.max] at e0 e1 e2 e3 e4 e5 e6 e7
      have hlt9 : w.heap.size < wr.heap.size := by have := hBs.size; simp at this; omega
      have hne9 : w.heap.size ≠ wr.heap.size := by omega
      have hne8 : ¬ wr.heap.size = w.heap.size := by omega
      clear hcells hkid hk hv2 IH HBX hbx
      generalize nthT l i = x at *
      have hlx : (txt x).length ≤ (item 3 i x).length := by
        have h1 := par_ge (decide ((3 : Int) = 2) && decide (x.kind = 3)) (txt x)
        have h2 : (item 3 i x).length = (if (3 : Int) = 3 ∧ 0 < i then ([124] : L8) else []).length + (par (decide ((3 : Int) = 2) && decide (x.kind = 3)) (txt x)).length := by
          unfold item
          exact List.length_append
        omega
      have hAI : ∀ O, Is (wr.alloc O) (fun _ => True) x (.slice o2 n2 cap2) := fun O => hkid2.later (below_alloc wr O)
      have hcall := fun O => hwi (.slice o2 n2 cap2) (wr.alloc O) (hAI O) (by simp only [List.length_append] at hlen2; omega)
      have hso := bs_size (txts 3 true (l.take i))
      have hst := bs_size (txt x)
      simp only [List.length_append] at hlen2
      by_cases h0 : 0 < i
      · have g0 : decide ((0 : Int) < (i : Int)) = true := decide_eq_true (by omega)
        have hit : item 3 i x = [124] ++ txt x := by unfold item; rw [if_pos ⟨rfl, h0⟩]; simp [par]
        have EE : Hid (bs (txts 3 true (l.take i)) ++ (⟨#[124]⟩ : ByteArray) ++ bs (txt x) = bs (txts 3 true (l.take (i + 1)))) := by
          show _ = _
          rw [HT.out, hit, ← bs_append, ← bs_append, show bs [124] = ⟨#[124]⟩ from rfl]
          simp only [ByteArray.append_assoc]
        rw [hit] at hlen2
        simp only [List.length_append, List.length_cons, List.length_nil] at hlen2
        have z1 : ¬ 9223372036854775807 < (txts 3 true (l.take i)).length + 1 := by omega
        have z2 : ¬ 9223372036854775807 < (txts 3 true (l.take i)).length + 1 + (txt x).length := by omega
        clear HT hit hlx hAI hwi
        generalize bs (txt x) = tb at *
        generalize bs (txts 3 true (l.take i)) = ta at *
        go_wp2_with (go_at_call 16; (with_reducible refine (hcall _).mono ?_); rintro e w2 ⟨rfl, b2⟩)
        go_roundw
        case rel => exact ⟨i + 1, by go_num, congrArg Value.string EE.out, by omega, chain (chain hBr (below_alloc _ _)) b2, (hBs.trans ((below_alloc _ _).mono (by have := hBs.size; simpa using this))).trans (b2.mono (by have := hBs.size; simp at this ⊢; omega))⟩
        case measure => simp [intOf]; omega
      · have g0 : decide ((0 : Int) < (i : Int)) = false := decide_eq_false (by omega)
        have hit : item 3 i x = txt x := by unfold item; rw [if_neg (by omega)]; simp [par]
        have EE : Hid (bs (txts 3 true (l.take i)) ++ bs (txt x) = bs (txts 3 true (l.take (i + 1)))) := by
          show _ = _
          rw [HT.out, hit, ← bs_append]
        rw [hit] at hlen2
        have z1 : ¬ 9223372036854775807 < (txts 3 true (l.take i)).length + (txt x).length := by omega
        clear HT hit hlx hAI hwi
        generalize bs (txt x) = tb at *
        generalize bs (txts 3 true (l.take i)) = ta at *
        go_wp2_with (go_at_call 16; (with_reducible refine (hcall _).mono ?_); rintro e w2 ⟨rfl, b2⟩)
        go_roundw
        case rel => exact ⟨i + 1, by go_num, congrArg Value.string EE.out, by omega, chain (chain hBr (below_alloc _ _)) b2, (hBs.trans ((below_alloc _ _).mono (by have := hBs.size; simpa using this))).trans (b2.mono (by have := hBs.size; simp at this ⊢; omega))⟩
        case measure => simp [intOf]; omega
    · obtain rfl : i = l.length := by omega
      rw [List.take_length]
      clear IH hk HBX
      go_wp2_with (fail)
      go_ret
      exact ⟨rfl, hBr⟩
end Go.Proofs.YtfclidcfhadohaaDoor.rp

namespace Go.Proofs.YtfclidcfhadohaaDoor.rp
open Go.Proofs.YtfclidcfhadohaaDoor.st
open Go.Proofs.YtfclidcfhadohaaDoor.sp (chain)
open Go.ChangeShapes Go.WideShapes Go.ChangeAt Go.RowKit
set_option linter.unusedVariables false

set_option maxHeartbeats 4000000 in
set_option maxRecDepth 100000 in
theorem tr1p (q : Q4) (l : List Tr)  (h1 : l.length = 1) (hkd : decide ((nthT l 0).kind = 1) = false) (ih : TxIs (nthT l 0)) : TxIs (.node 4 q (0) (-1) l) := by
  intro v w hI hlen
  obtain ⟨o, cap, b', off, vs, rfl, hcap, hk⟩ := hI.form
  simp only [Tr.kids] at hcap hk ⊢
  simp only [Tr.kind, Tr.set, Tr.min, Tr.max]
  have hr : timesT (0) (-1) = [42] := by rfl
  have he : txt (.node 4 q (0) (-1) l) = par (!decide ((nthT l 0).kind = 1)) (txt (nthT l 0)) ++ timesT (0) (-1) := by
    rw [txt_eq]
    match l, h1 with
    | [x], _ => rfl
  rw [he, hkd, hr] at hlen ⊢
  obtain ⟨rfl, hcm, hbl, hbB, hcells, hkid⟩ := hk 0 (by omega)
  rw [h1]
  have B0 : Below w.heap.size w (w.alloc (.cells #[.int .i64 4, .int .u64 q.a, .int .u64 q.b, .int .u64 q.c, .int .u64 q.d, .int .i64 (0), .int .i64 (-1), .slice (some ⟨b', off, none⟩) 1 cap] 28)) := below_alloc _ _
  have hb0 : Box (w.alloc (.cells #[.int .i64 4, .int .u64 q.a, .int .u64 q.b, .int .u64 q.c, .int .u64 q.d, .int .i64 (0), .int .i64 (-1), .slice (some ⟨b', off, none⟩) 1 cap] 28)) w.heap.size (.node 4 q (0) (-1) l) (.slice (some ⟨b', off, none⟩) 1 cap) := box_new w (.node 4 q (0) (-1) l) _
  have c := hb0.cells
  obtain ⟨c0, c1, c2, c3, c4, c5, c6, c7⟩ := c
  simp only [Tr.kind, Tr.set, Tr.min, Tr.max] at c0 c1 c2 c3 c4 c5 c6 c7
  have hkid2 := hkid.later B0
  have hcells2 : Cells (w.alloc (.cells #[.int .i64 4, .int .u64 q.a, .int .u64 q.b, .int .u64 q.c, .int .u64 q.d, .int .i64 (0), .int .i64 (-1), .slice (some ⟨b', off, none⟩) 1 cap] 28)) b' (off + 0 * 8) (nthT l 0) (vs 0) := cells_old hcells hbl B0
  obtain ⟨o2, n2, cap2, hv2⟩ := hkid.shape
  rw [hv2] at hcells2 hkid2
  obtain ⟨k0, k1, k2, k3, k4, k5, k6, k7⟩ := hcells2
  have hst := bs_size (txt (nthT l 0))
  have hn0 : (txt (nthT l 0)).length ≤ 4294967296 := by
    have := hlen
    simp only [List.length_append, rp.par] at this
    simp at this
    omega
  have hcall := ih (.slice o2 n2 cap2) (w.alloc (.cells #[.int .i64 4, .int .u64 q.a, .int .u64 q.b, .int .u64 q.c, .int .u64 q.d, .int .i64 (0), .int .i64 (-1), .slice (some ⟨b', off, none⟩) 1 cap] 28)) hkid2 hn0
  have HB := (show Hid (∀ W, Below (w.alloc (.cells #[.int .i64 4, .int .u64 q.a, .int .u64 q.b, .int .u64 q.c, .int .u64 q.d, .int .i64 (0), .int .i64 (-1), .slice (some ⟨b', off, none⟩) 1 cap] 28)).heap.size (w.alloc (.cells #[.int .i64 4, .int .u64 q.a, .int .u64 q.b, .int .u64 q.c, .int .u64 q.d, .int .i64 (0), .int .i64 (-1), .slice (some ⟨b', off, none⟩) 1 cap] 28)) W → Box W w.heap.size (.node 4 q (0) (-1) l) (.slice (some ⟨b', off, none⟩) 1 cap) ∧ Cells W b' (off + 0 * 8) (nthT l 0) (.slice o2 n2 cap2)) from fun W h => ⟨hb0.below h, by
    have := (cells_old hcells hbl B0)
    rw [hv2] at this
    exact cells_old this (by simp; omega) h⟩)
  have hkk : ((nthT l 0).kind != 1) = !false := by rw [← hkd]; rfl
  have EE : Hid (((⟨#[40]⟩ : ByteArray) ++ bs (txt (nthT l 0)) ++ ⟨#[41]⟩) ++ (⟨#[42]⟩ : ByteArray) = bs (par (!false) (txt (nthT l 0)) ++ ([42]))) := by
    show _ = _
    have e1 : par (!false) (txt (nthT l 0)) = [40] ++ txt (nthT l 0) ++ [41] := rfl
    rw [e1]
    simp only [← bs_append, ByteArray.append_assoc]
    rfl
  rw [← EE.out]
  have z0 : ¬ 9223372036854775807 < 1 + (txt (nthT l 0)).length := by omega
  have z1 : ¬ 9223372036854775807 < 1 + (txt (nthT l 0)).length + 1 := by omega
  have z2 : ¬ 9223372036854775807 < 1 + (txt (nthT l 0)).length + 1 + 1 := by omega
  clear EE hr he hlen hI hk hcells hkid hv2 ih hb0 hkd
  unfold TxIs at *
  generalize txt (nthT l 0) = tl at *
  generalize bs tl = ts at *
  generalize nthT l 0 = x at *
  simp only [Nat.zero_mul, Nat.add_zero] at k0 k1 k2 k3 k4 k5 k6 k7
  go_enter Tryd.func16, Tryd.ntmps16
  go_wp2_with (first | (go_at_call 16; (with_reducible refine hcall.mono ?_); rintro e w1 ⟨rfl, b1⟩; have hbw := HB.out w1 b1; obtain ⟨d0, d1, d2, d3, d4, d5, d6, d7⟩ := hbw.1.cells; simp only [Tr.kind, Tr.min, Tr.max] at d0 d5 d6 d7; obtain ⟨m0, m1, m2, m3, m4, m5, m6, m7⟩ := hbw.2; simp only [Nat.zero_mul, Nat.add_zero] at m0))
  go_ret
  exact ⟨rfl, chain B0 b1⟩
set_option maxHeartbeats 4000000 in
set_option maxRecDepth 100000 in
theorem tr1n (q : Q4) (l : List Tr)  (h1 : l.length = 1) (hkd : decide ((nthT l 0).kind = 1) = true) (ih : TxIs (nthT l 0)) : TxIs (.node 4 q (0) (-1) l) := by
  intro v w hI hlen
  obtain ⟨o, cap, b', off, vs, rfl, hcap, hk⟩ := hI.form
  simp only [Tr.kids] at hcap hk ⊢
  simp only [Tr.kind, Tr.set, Tr.min, Tr.max]
  have hr : timesT (0) (-1) = [42] := by rfl
  have he : txt (.node 4 q (0) (-1) l) = par (!decide ((nthT l 0).kind = 1)) (txt (nthT l 0)) ++ timesT (0) (-1) := by
    rw [txt_eq]
    match l, h1 with
    | [x], _ => rfl
  rw [he, hkd, hr] at hlen ⊢
  obtain ⟨rfl, hcm, hbl, hbB, hcells, hkid⟩ := hk 0 (by omega)
  rw [h1]
  have B0 : Below w.heap.size w (w.alloc (.cells #[.int .i64 4, .int .u64 q.a, .int .u64 q.b, .int .u64 q.c, .int .u64 q.d, .int .i64 (0), .int .i64 (-1), .slice (some ⟨b', off, none⟩) 1 cap] 28)) := below_alloc _ _
  have hb0 : Box (w.alloc (.cells #[.int .i64 4, .int .u64 q.a, .int .u64 q.b, .int .u64 q.c, .int .u64 q.d, .int .i64 (0), .int .i64 (-1), .slice (some ⟨b', off, none⟩) 1 cap] 28)) w.heap.size (.node 4 q (0) (-1) l) (.slice (some ⟨b', off, none⟩) 1 cap) := box_new w (.node 4 q (0) (-1) l) _
  have c := hb0.cells
  obtain ⟨c0, c1, c2, c3, c4, c5, c6, c7⟩ := c
  simp only [Tr.kind, Tr.set, Tr.min, Tr.max] at c0 c1 c2 c3 c4 c5 c6 c7
  have hkid2 := hkid.later B0
  have hcells2 : Cells (w.alloc (.cells #[.int .i64 4, .int .u64 q.a, .int .u64 q.b, .int .u64 q.c, .int .u64 q.d, .int .i64 (0), .int .i64 (-1), .slice (some ⟨b', off, none⟩) 1 cap] 28)) b' (off + 0 * 8) (nthT l 0) (vs 0) := cells_old hcells hbl B0
  obtain ⟨o2, n2, cap2, hv2⟩ := hkid.shape
  rw [hv2] at hcells2 hkid2
  obtain ⟨k0, k1, k2, k3, k4, k5, k6, k7⟩ := hcells2
  have hst := bs_size (txt (nthT l 0))
  have hn0 : (txt (nthT l 0)).length ≤ 4294967296 := by
    have := hlen
    simp only [List.length_append, rp.par] at this
    simp at this
    omega
  have hcall := ih (.slice o2 n2 cap2) (w.alloc (.cells #[.int .i64 4, .int .u64 q.a, .int .u64 q.b, .int .u64 q.c, .int .u64 q.d, .int .i64 (0), .int .i64 (-1), .slice (some ⟨b', off, none⟩) 1 cap] 28)) hkid2 hn0
  have HB := (show Hid (∀ W, Below (w.alloc (.cells #[.int .i64 4, .int .u64 q.a, .int .u64 q.b, .int .u64 q.c, .int .u64 q.d, .int .i64 (0), .int .i64 (-1), .slice (some ⟨b', off, none⟩) 1 cap] 28)).heap.size (w.alloc (.cells #[.int .i64 4, .int .u64 q.a, .int .u64 q.b, .int .u64 q.c, .int .u64 q.d, .int .i64 (0), .int .i64 (-1), .slice (some ⟨b', off, none⟩) 1 cap] 28)) W → Box W w.heap.size (.node 4 q (0) (-1) l) (.slice (some ⟨b', off, none⟩) 1 cap) ∧ Cells W b' (off + 0 * 8) (nthT l 0) (.slice o2 n2 cap2)) from fun W h => ⟨hb0.below h, by
    have := (cells_old hcells hbl B0)
    rw [hv2] at this
    exact cells_old this (by simp; omega) h⟩)
  have hkk : ((nthT l 0).kind != 1) = !true := by rw [← hkd]; rfl
  have EE : Hid (bs (txt (nthT l 0)) ++ (⟨#[42]⟩ : ByteArray) = bs (par (!true) (txt (nthT l 0)) ++ ([42]))) := by
    show _ = _
    have e1 : par (!true) (txt (nthT l 0)) = txt (nthT l 0) := rfl
    rw [e1]
    simp only [← bs_append]
    rfl
  rw [← EE.out]
  have z0 : ¬ 9223372036854775807 < (txt (nthT l 0)).length + 1 := by omega
  clear EE hr he hlen hI hk hcells hkid hv2 ih hb0 hkd
  unfold TxIs at *
  generalize txt (nthT l 0) = tl at *
  generalize bs tl = ts at *
  generalize nthT l 0 = x at *
  simp only [Nat.zero_mul, Nat.add_zero] at k0 k1 k2 k3 k4 k5 k6 k7
  go_enter Tryd.func16, Tryd.ntmps16
  go_wp2_with (first | (go_at_call 16; (with_reducible refine hcall.mono ?_); rintro e w1 ⟨rfl, b1⟩; have hbw := HB.out w1 b1; obtain ⟨d0, d1, d2, d3, d4, d5, d6, d7⟩ := hbw.1.cells; simp only [Tr.kind, Tr.min, Tr.max] at d0 d5 d6 d7; obtain ⟨m0, m1, m2, m3, m4, m5, m6, m7⟩ := hbw.2; simp only [Nat.zero_mul, Nat.add_zero] at m0))
  go_ret
  exact ⟨rfl, chain B0 b1⟩
set_option maxHeartbeats 4000000 in
set_option maxRecDepth 100000 in
theorem tr2p (q : Q4) (l : List Tr)  (h1 : l.length = 1) (hkd : decide ((nthT l 0).kind = 1) = false) (ih : TxIs (nthT l 0)) : TxIs (.node 4 q (1) (-1) l) := by
  intro v w hI hlen
  obtain ⟨o, cap, b', off, vs, rfl, hcap, hk⟩ := hI.form
  simp only [Tr.kids] at hcap hk ⊢
  simp only [Tr.kind, Tr.set, Tr.min, Tr.max]
  have hr : timesT (1) (-1) = [43] := by rfl
  have he : txt (.node 4 q (1) (-1) l) = par (!decide ((nthT l 0).kind = 1)) (txt (nthT l 0)) ++ timesT (1) (-1) := by
    rw [txt_eq]
    match l, h1 with
    | [x], _ => rfl
  rw [he, hkd, hr] at hlen ⊢
  obtain ⟨rfl, hcm, hbl, hbB, hcells, hkid⟩ := hk 0 (by omega)
  rw [h1]
  have B0 : Below w.heap.size w (w.alloc (.cells #[.int .i64 4, .int .u64 q.a, .int .u64 q.b, .int .u64 q.c, .int .u64 q.d, .int .i64 (1), .int .i64 (-1), .slice (some ⟨b', off, none⟩) 1 cap] 28)) := below_alloc _ _
  have hb0 : Box (w.alloc (.cells #[.int .i64 4, .int .u64 q.a, .int .u64 q.b, .int .u64 q.c, .int .u64 q.d, .int .i64 (1), .int .i64 (-1), .slice (some ⟨b', off, none⟩) 1 cap] 28)) w.heap.size (.node 4 q (1) (-1) l) (.slice (some ⟨b', off, none⟩) 1 cap) := box_new w (.node 4 q (1) (-1) l) _
  have c := hb0.cells
  obtain ⟨c0, c1, c2, c3, c4, c5, c6, c7⟩ := c
  simp only [Tr.kind, Tr.set, Tr.min, Tr.max] at c0 c1 c2 c3 c4 c5 c6 c7
  have hkid2 := hkid.later B0
  have hcells2 : Cells (w.alloc (.cells #[.int .i64 4, .int .u64 q.a, .int .u64 q.b, .int .u64 q.c, .int .u64 q.d, .int .i64 (1), .int .i64 (-1), .slice (some ⟨b', off, none⟩) 1 cap] 28)) b' (off + 0 * 8) (nthT l 0) (vs 0) := cells_old hcells hbl B0
  obtain ⟨o2, n2, cap2, hv2⟩ := hkid.shape
  rw [hv2] at hcells2 hkid2
  obtain ⟨k0, k1, k2, k3, k4, k5, k6, k7⟩ := hcells2
  have hst := bs_size (txt (nthT l 0))
  have hn0 : (txt (nthT l 0)).length ≤ 4294967296 := by
    have := hlen
    simp only [List.length_append, rp.par] at this
    simp at this
    omega
  have hcall := ih (.slice o2 n2 cap2) (w.alloc (.cells #[.int .i64 4, .int .u64 q.a, .int .u64 q.b, .int .u64 q.c, .int .u64 q.d, .int .i64 (1), .int .i64 (-1), .slice (some ⟨b', off, none⟩) 1 cap] 28)) hkid2 hn0
  have HB := (show Hid (∀ W, Below (w.alloc (.cells #[.int .i64 4, .int .u64 q.a, .int .u64 q.b, .int .u64 q.c, .int .u64 q.d, .int .i64 (1), .int .i64 (-1), .slice (some ⟨b', off, none⟩) 1 cap] 28)).heap.size (w.alloc (.cells #[.int .i64 4, .int .u64 q.a, .int .u64 q.b, .int .u64 q.c, .int .u64 q.d, .int .i64 (1), .int .i64 (-1), .slice (some ⟨b', off, none⟩) 1 cap] 28)) W → Box W w.heap.size (.node 4 q (1) (-1) l) (.slice (some ⟨b', off, none⟩) 1 cap) ∧ Cells W b' (off + 0 * 8) (nthT l 0) (.slice o2 n2 cap2)) from fun W h => ⟨hb0.below h, by
    have := (cells_old hcells hbl B0)
    rw [hv2] at this
    exact cells_old this (by simp; omega) h⟩)
  have hkk : ((nthT l 0).kind != 1) = !false := by rw [← hkd]; rfl
  have EE : Hid (((⟨#[40]⟩ : ByteArray) ++ bs (txt (nthT l 0)) ++ ⟨#[41]⟩) ++ (⟨#[43]⟩ : ByteArray) = bs (par (!false) (txt (nthT l 0)) ++ ([43]))) := by
    show _ = _
    have e1 : par (!false) (txt (nthT l 0)) = [40] ++ txt (nthT l 0) ++ [41] := rfl
    rw [e1]
    simp only [← bs_append, ByteArray.append_assoc]
    rfl
  rw [← EE.out]
  have z0 : ¬ 9223372036854775807 < 1 + (txt (nthT l 0)).length := by omega
  have z1 : ¬ 9223372036854775807 < 1 + (txt (nthT l 0)).length + 1 := by omega
  have z2 : ¬ 9223372036854775807 < 1 + (txt (nthT l 0)).length + 1 + 1 := by omega
  clear EE hr he hlen hI hk hcells hkid hv2 ih hb0 hkd
  unfold TxIs at *
  generalize txt (nthT l 0) = tl at *
  generalize bs tl = ts at *
  generalize nthT l 0 = x at *
  simp only [Nat.zero_mul, Nat.add_zero] at k0 k1 k2 k3 k4 k5 k6 k7
  go_enter Tryd.func16, Tryd.ntmps16
  go_wp2_with (first | (go_at_call 16; (with_reducible refine hcall.mono ?_); rintro e w1 ⟨rfl, b1⟩; have hbw := HB.out w1 b1; obtain ⟨d0, d1, d2, d3, d4, d5, d6, d7⟩ := hbw.1.cells; simp only [Tr.kind, Tr.min, Tr.max] at d0 d5 d6 d7; obtain ⟨m0, m1, m2, m3, m4, m5, m6, m7⟩ := hbw.2; simp only [Nat.zero_mul, Nat.add_zero] at m0))
  go_ret
  exact ⟨rfl, chain B0 b1⟩
set_option maxHeartbeats 4000000 in
set_option maxRecDepth 100000 in
theorem tr2n (q : Q4) (l : List Tr)  (h1 : l.length = 1) (hkd : decide ((nthT l 0).kind = 1) = true) (ih : TxIs (nthT l 0)) : TxIs (.node 4 q (1) (-1) l) := by
  intro v w hI hlen
  obtain ⟨o, cap, b', off, vs, rfl, hcap, hk⟩ := hI.form
  simp only [Tr.kids] at hcap hk ⊢
  simp only [Tr.kind, Tr.set, Tr.min, Tr.max]
  have hr : timesT (1) (-1) = [43] := by rfl
  have he : txt (.node 4 q (1) (-1) l) = par (!decide ((nthT l 0).kind = 1)) (txt (nthT l 0)) ++ timesT (1) (-1) := by
    rw [txt_eq]
    match l, h1 with
    | [x], _ => rfl
  rw [he, hkd, hr] at hlen ⊢
  obtain ⟨rfl, hcm, hbl, hbB, hcells, hkid⟩ := hk 0 (by omega)
  rw [h1]
  have B0 : Below w.heap.size w (w.alloc (.cells #[.int .i64 4, .int .u64 q.a, .int .u64 q.b, .int .u64 q.c, .int .u64 q.d, .int .i64 (1), .int .i64 (-1), .slice (some ⟨b', off, none⟩) 1 cap] 28)) := below_alloc _ _
  have hb0 : Box (w.alloc (.cells #[.int .i64 4, .int .u64 q.a, .int .u64 q.b, .int .u64 q.c, .int .u64 q.d, .int .i64 (1), .int .i64 (-1), .slice (some ⟨b', off, none⟩) 1 cap] 28)) w.heap.size (.node 4 q (1) (-1) l) (.slice (some ⟨b', off, none⟩) 1 cap) := box_new w (.node 4 q (1) (-1) l) _
  have c := hb0.cells
  obtain ⟨c0, c1, c2, c3, c4, c5, c6, c7⟩ := c
  simp only [Tr.kind, Tr.set, Tr.min, Tr.max] at c0 c1 c2 c3 c4 c5 c6 c7
  have hkid2 := hkid.later B0
  have hcells2 : Cells (w.alloc (.cells #[.int .i64 4, .int .u64 q.a, .int .u64 q.b, .int .u64 q.c, .int .u64 q.d, .int .i64 (1), .int .i64 (-1), .slice (some ⟨b', off, none⟩) 1 cap] 28)) b' (off + 0 * 8) (nthT l 0) (vs 0) := cells_old hcells hbl B0
  obtain ⟨o2, n2, cap2, hv2⟩ := hkid.shape
  rw [hv2] at hcells2 hkid2
  obtain ⟨k0, k1, k2, k3, k4, k5, k6, k7⟩ := hcells2
  have hst := bs_size (txt (nthT l 0))
  have hn0 : (txt (nthT l 0)).length ≤ 4294967296 := by
    have := hlen
    simp only [List.length_append, rp.par] at this
    simp at this
    omega
  have hcall := ih (.slice o2 n2 cap2) (w.alloc (.cells #[.int .i64 4, .int .u64 q.a, .int .u64 q.b, .int .u64 q.c, .int .u64 q.d, .int .i64 (1), .int .i64 (-1), .slice (some ⟨b', off, none⟩) 1 cap] 28)) hkid2 hn0
  have HB := (show Hid (∀ W, Below (w.alloc (.cells #[.int .i64 4, .int .u64 q.a, .int .u64 q.b, .int .u64 q.c, .int .u64 q.d, .int .i64 (1), .int .i64 (-1), .slice (some ⟨b', off, none⟩) 1 cap] 28)).heap.size (w.alloc (.cells #[.int .i64 4, .int .u64 q.a, .int .u64 q.b, .int .u64 q.c, .int .u64 q.d, .int .i64 (1), .int .i64 (-1), .slice (some ⟨b', off, none⟩) 1 cap] 28)) W → Box W w.heap.size (.node 4 q (1) (-1) l) (.slice (some ⟨b', off, none⟩) 1 cap) ∧ Cells W b' (off + 0 * 8) (nthT l 0) (.slice o2 n2 cap2)) from fun W h => ⟨hb0.below h, by
    have := (cells_old hcells hbl B0)
    rw [hv2] at this
    exact cells_old this (by simp; omega) h⟩)
  have hkk : ((nthT l 0).kind != 1) = !true := by rw [← hkd]; rfl
  have EE : Hid (bs (txt (nthT l 0)) ++ (⟨#[43]⟩ : ByteArray) = bs (par (!true) (txt (nthT l 0)) ++ ([43]))) := by
    show _ = _
    have e1 : par (!true) (txt (nthT l 0)) = txt (nthT l 0) := rfl
    rw [e1]
    simp only [← bs_append]
    rfl
  rw [← EE.out]
  have z0 : ¬ 9223372036854775807 < (txt (nthT l 0)).length + 1 := by omega
  clear EE hr he hlen hI hk hcells hkid hv2 ih hb0 hkd
  unfold TxIs at *
  generalize txt (nthT l 0) = tl at *
  generalize bs tl = ts at *
  generalize nthT l 0 = x at *
  simp only [Nat.zero_mul, Nat.add_zero] at k0 k1 k2 k3 k4 k5 k6 k7
  go_enter Tryd.func16, Tryd.ntmps16
  go_wp2_with (first | (go_at_call 16; (with_reducible refine hcall.mono ?_); rintro e w1 ⟨rfl, b1⟩; have hbw := HB.out w1 b1; obtain ⟨d0, d1, d2, d3, d4, d5, d6, d7⟩ := hbw.1.cells; simp only [Tr.kind, Tr.min, Tr.max] at d0 d5 d6 d7; obtain ⟨m0, m1, m2, m3, m4, m5, m6, m7⟩ := hbw.2; simp only [Nat.zero_mul, Nat.add_zero] at m0))
  go_ret
  exact ⟨rfl, chain B0 b1⟩
set_option maxHeartbeats 4000000 in
set_option maxRecDepth 100000 in
theorem tr3p (q : Q4) (l : List Tr)  (h1 : l.length = 1) (hkd : decide ((nthT l 0).kind = 1) = false) (ih : TxIs (nthT l 0)) : TxIs (.node 4 q (0) (1) l) := by
  intro v w hI hlen
  obtain ⟨o, cap, b', off, vs, rfl, hcap, hk⟩ := hI.form
  simp only [Tr.kids] at hcap hk ⊢
  simp only [Tr.kind, Tr.set, Tr.min, Tr.max]
  have hr : timesT (0) (1) = [63] := by rfl
  have he : txt (.node 4 q (0) (1) l) = par (!decide ((nthT l 0).kind = 1)) (txt (nthT l 0)) ++ timesT (0) (1) := by
    rw [txt_eq]
    match l, h1 with
    | [x], _ => rfl
  rw [he, hkd, hr] at hlen ⊢
  obtain ⟨rfl, hcm, hbl, hbB, hcells, hkid⟩ := hk 0 (by omega)
  rw [h1]
  have B0 : Below w.heap.size w (w.alloc (.cells #[.int .i64 4, .int .u64 q.a, .int .u64 q.b, .int .u64 q.c, .int .u64 q.d, .int .i64 (0), .int .i64 (1), .slice (some ⟨b', off, none⟩) 1 cap] 28)) := below_alloc _ _
  have hb0 : Box (w.alloc (.cells #[.int .i64 4, .int .u64 q.a, .int .u64 q.b, .int .u64 q.c, .int .u64 q.d, .int .i64 (0), .int .i64 (1), .slice (some ⟨b', off, none⟩) 1 cap] 28)) w.heap.size (.node 4 q (0) (1) l) (.slice (some ⟨b', off, none⟩) 1 cap) := box_new w (.node 4 q (0) (1) l) _
  have c := hb0.cells
  obtain ⟨c0, c1, c2, c3, c4, c5, c6, c7⟩ := c
  simp only [Tr.kind, Tr.set, Tr.min, Tr.max] at c0 c1 c2 c3 c4 c5 c6 c7
  have hkid2 := hkid.later B0
  have hcells2 : Cells (w.alloc (.cells #[.int .i64 4, .int .u64 q.a, .int .u64 q.b, .int .u64 q.c, .int .u64 q.d, .int .i64 (0), .int .i64 (1), .slice (some ⟨b', off, none⟩) 1 cap] 28)) b' (off + 0 * 8) (nthT l 0) (vs 0) := cells_old hcells hbl B0
  obtain ⟨o2, n2, cap2, hv2⟩ := hkid.shape
  rw [hv2] at hcells2 hkid2
  obtain ⟨k0, k1, k2, k3, k4, k5, k6, k7⟩ := hcells2
  have hst := bs_size (txt (nthT l 0))
  have hn0 : (txt (nthT l 0)).length ≤ 4294967296 := by
    have := hlen
    simp only [List.length_append, rp.par] at this
    simp at this
    omega
  have hcall := ih (.slice o2 n2 cap2) (w.alloc (.cells #[.int .i64 4, .int .u64 q.a, .int .u64 q.b, .int .u64 q.c, .int .u64 q.d, .int .i64 (0), .int .i64 (1), .slice (some ⟨b', off, none⟩) 1 cap] 28)) hkid2 hn0
  have HB := (show Hid (∀ W, Below (w.alloc (.cells #[.int .i64 4, .int .u64 q.a, .int .u64 q.b, .int .u64 q.c, .int .u64 q.d, .int .i64 (0), .int .i64 (1), .slice (some ⟨b', off, none⟩) 1 cap] 28)).heap.size (w.alloc (.cells #[.int .i64 4, .int .u64 q.a, .int .u64 q.b, .int .u64 q.c, .int .u64 q.d, .int .i64 (0), .int .i64 (1), .slice (some ⟨b', off, none⟩) 1 cap] 28)) W → Box W w.heap.size (.node 4 q (0) (1) l) (.slice (some ⟨b', off, none⟩) 1 cap) ∧ Cells W b' (off + 0 * 8) (nthT l 0) (.slice o2 n2 cap2)) from fun W h => ⟨hb0.below h, by
    have := (cells_old hcells hbl B0)
    rw [hv2] at this
    exact cells_old this (by simp; omega) h⟩)
  have hkk : ((nthT l 0).kind != 1) = !false := by rw [← hkd]; rfl
  have EE : Hid (((⟨#[40]⟩ : ByteArray) ++ bs (txt (nthT l 0)) ++ ⟨#[41]⟩) ++ (⟨#[63]⟩ : ByteArray) = bs (par (!false) (txt (nthT l 0)) ++ ([63]))) := by
    show _ = _
    have e1 : par (!false) (txt (nthT l 0)) = [40] ++ txt (nthT l 0) ++ [41] := rfl
    rw [e1]
    simp only [← bs_append, ByteArray.append_assoc]
    rfl
  rw [← EE.out]
  have z0 : ¬ 9223372036854775807 < 1 + (txt (nthT l 0)).length := by omega
  have z1 : ¬ 9223372036854775807 < 1 + (txt (nthT l 0)).length + 1 := by omega
  have z2 : ¬ 9223372036854775807 < 1 + (txt (nthT l 0)).length + 1 + 1 := by omega
  clear EE hr he hlen hI hk hcells hkid hv2 ih hb0 hkd
  unfold TxIs at *
  generalize txt (nthT l 0) = tl at *
  generalize bs tl = ts at *
  generalize nthT l 0 = x at *
  simp only [Nat.zero_mul, Nat.add_zero] at k0 k1 k2 k3 k4 k5 k6 k7
  go_enter Tryd.func16, Tryd.ntmps16
  go_wp2_with (first | (go_at_call 16; (with_reducible refine hcall.mono ?_); rintro e w1 ⟨rfl, b1⟩; have hbw := HB.out w1 b1; obtain ⟨d0, d1, d2, d3, d4, d5, d6, d7⟩ := hbw.1.cells; simp only [Tr.kind, Tr.min, Tr.max] at d0 d5 d6 d7; obtain ⟨m0, m1, m2, m3, m4, m5, m6, m7⟩ := hbw.2; simp only [Nat.zero_mul, Nat.add_zero] at m0))
  go_ret
  exact ⟨rfl, chain B0 b1⟩
set_option maxHeartbeats 4000000 in
set_option maxRecDepth 100000 in
theorem tr3n (q : Q4) (l : List Tr)  (h1 : l.length = 1) (hkd : decide ((nthT l 0).kind = 1) = true) (ih : TxIs (nthT l 0)) : TxIs (.node 4 q (0) (1) l) := by
  intro v w hI hlen
  obtain ⟨o, cap, b', off, vs, rfl, hcap, hk⟩ := hI.form
  simp only [Tr.kids] at hcap hk ⊢
  simp only [Tr.kind, Tr.set, Tr.min, Tr.max]
  have hr : timesT (0) (1) = [63] := by rfl
  have he : txt (.node 4 q (0) (1) l) = par (!decide ((nthT l 0).kind = 1)) (txt (nthT l 0)) ++ timesT (0) (1) := by
    rw [txt_eq]
    match l, h1 with
    | [x], _ => rfl
  rw [he, hkd, hr] at hlen ⊢
  obtain ⟨rfl, hcm, hbl, hbB, hcells, hkid⟩ := hk 0 (by omega)
  rw [h1]
  have B0 : Below w.heap.size w (w.alloc (.cells #[.int .i64 4, .int .u64 q.a, .int .u64 q.b, .int .u64 q.c, .int .u64 q.d, .int .i64 (0), .int .i64 (1), .slice (some ⟨b', off, none⟩) 1 cap] 28)) := below_alloc _ _
  have hb0 : Box (w.alloc (.cells #[.int .i64 4, .int .u64 q.a, .int .u64 q.b, .int .u64 q.c, .int .u64 q.d, .int .i64 (0), .int .i64 (1), .slice (some ⟨b', off, none⟩) 1 cap] 28)) w.heap.size (.node 4 q (0) (1) l) (.slice (some ⟨b', off, none⟩) 1 cap) := box_new w (.node 4 q (0) (1) l) _
  have c := hb0.cells
  obtain ⟨c0, c1, c2, c3, c4, c5, c6, c7⟩ := c
  simp only [Tr.kind, Tr.set, Tr.min, Tr.max] at c0 c1 c2 c3 c4 c5 c6 c7
  have hkid2 := hkid.later B0
  have hcells2 : Cells (w.alloc (.cells #[.int .i64 4, .int .u64 q.a, .int .u64 q.b, .int .u64 q.c, .int .u64 q.d, .int .i64 (0), .int .i64 (1), .slice (some ⟨b', off, none⟩) 1 cap] 28)) b' (off + 0 * 8) (nthT l 0) (vs 0) := cells_old hcells hbl B0
  obtain ⟨o2, n2, cap2, hv2⟩ := hkid.shape
  rw [hv2] at hcells2 hkid2
  obtain ⟨k0, k1, k2, k3, k4, k5, k6, k7⟩ := hcells2
  have hst := bs_size (txt (nthT l 0))
  have hn0 : (txt (nthT l 0)).length ≤ 4294967296 := by
    have := hlen
    simp only [List.length_append, rp.par] at this
    simp at this
    omega
  have hcall := ih (.slice o2 n2 cap2) (w.alloc (.cells #[.int .i64 4, .int .u64 q.a, .int .u64 q.b, .int .u64 q.c, .int .u64 q.d, .int .i64 (0), .int .i64 (1), .slice (some ⟨b', off, none⟩) 1 cap] 28)) hkid2 hn0
  have HB := (show Hid (∀ W, Below (w.alloc (.cells #[.int .i64 4, .int .u64 q.a, .int .u64 q.b, .int .u64 q.c, .int .u64 q.d, .int .i64 (0), .int .i64 (1), .slice (some ⟨b', off, none⟩) 1 cap] 28)).heap.size (w.alloc (.cells #[.int .i64 4, .int .u64 q.a, .int .u64 q.b, .int .u64 q.c, .int .u64 q.d, .int .i64 (0), .int .i64 (1), .slice (some ⟨b', off, none⟩) 1 cap] 28)) W → Box W w.heap.size (.node 4 q (0) (1) l) (.slice (some ⟨b', off, none⟩) 1 cap) ∧ Cells W b' (off + 0 * 8) (nthT l 0) (.slice o2 n2 cap2)) from fun W h => ⟨hb0.below h, by
    have := (cells_old hcells hbl B0)
    rw [hv2] at this
    exact cells_old this (by simp; omega) h⟩)
  have hkk : ((nthT l 0).kind != 1) = !true := by rw [← hkd]; rfl
  have EE : Hid (bs (txt (nthT l 0)) ++ (⟨#[63]⟩ : ByteArray) = bs (par (!true) (txt (nthT l 0)) ++ ([63]))) := by
    show _ = _
    have e1 : par (!true) (txt (nthT l 0)) = txt (nthT l 0) := rfl
    rw [e1]
    simp only [← bs_append]
    rfl
  rw [← EE.out]
  have z0 : ¬ 9223372036854775807 < (txt (nthT l 0)).length + 1 := by omega
  clear EE hr he hlen hI hk hcells hkid hv2 ih hb0 hkd
  unfold TxIs at *
  generalize txt (nthT l 0) = tl at *
  generalize bs tl = ts at *
  generalize nthT l 0 = x at *
  simp only [Nat.zero_mul, Nat.add_zero] at k0 k1 k2 k3 k4 k5 k6 k7
  go_enter Tryd.func16, Tryd.ntmps16
  go_wp2_with (first | (go_at_call 16; (with_reducible refine hcall.mono ?_); rintro e w1 ⟨rfl, b1⟩; have hbw := HB.out w1 b1; obtain ⟨d0, d1, d2, d3, d4, d5, d6, d7⟩ := hbw.1.cells; simp only [Tr.kind, Tr.min, Tr.max] at d0 d5 d6 d7; obtain ⟨m0, m1, m2, m3, m4, m5, m6, m7⟩ := hbw.2; simp only [Nat.zero_mul, Nat.add_zero] at m0))
  go_ret
  exact ⟨rfl, chain B0 b1⟩
set_option maxHeartbeats 4000000 in
set_option maxRecDepth 100000 in
theorem tr4p (q : Q4) (l : List Tr) (mn : Int) (h0 : 0 ≤ mn) (h20 : mn ≤ 20) (n0 : ¬ mn = 0) (n1 : ¬ mn = 1) (h1 : l.length = 1) (hkd : decide ((nthT l 0).kind = 1) = false) (ih : TxIs (nthT l 0)) : TxIs (.node 4 q (mn) (-1) l) := by
  intro v w hI hlen
  obtain ⟨o, cap, b', off, vs, rfl, hcap, hk⟩ := hI.form
  simp only [Tr.kids] at hcap hk ⊢
  simp only [Tr.kind, Tr.set, Tr.min, Tr.max]
  have hr : timesT (mn) (-1) = [123] ++ dec mn ++ [44, 125] := by unfold timesT; rw [if_neg (by omega), if_neg (by omega), if_neg (by omega), if_pos rfl]; rfl
  have he : txt (.node 4 q (mn) (-1) l) = par (!decide ((nthT l 0).kind = 1)) (txt (nthT l 0)) ++ timesT (mn) (-1) := by
    rw [txt_eq]
    match l, h1 with
    | [x], _ => rfl
  rw [he, hkd, hr] at hlen ⊢
  obtain ⟨rfl, hcm, hbl, hbB, hcells, hkid⟩ := hk 0 (by omega)
  rw [h1]
  have B0 : Below w.heap.size w (w.alloc (.cells #[.int .i64 4, .int .u64 q.a, .int .u64 q.b, .int .u64 q.c, .int .u64 q.d, .int .i64 (mn), .int .i64 (-1), .slice (some ⟨b', off, none⟩) 1 cap] 28)) := below_alloc _ _
  have hb0 : Box (w.alloc (.cells #[.int .i64 4, .int .u64 q.a, .int .u64 q.b, .int .u64 q.c, .int .u64 q.d, .int .i64 (mn), .int .i64 (-1), .slice (some ⟨b', off, none⟩) 1 cap] 28)) w.heap.size (.node 4 q (mn) (-1) l) (.slice (some ⟨b', off, none⟩) 1 cap) := box_new w (.node 4 q (mn) (-1) l) _
  have c := hb0.cells
  obtain ⟨c0, c1, c2, c3, c4, c5, c6, c7⟩ := c
  simp only [Tr.kind, Tr.set, Tr.min, Tr.max] at c0 c1 c2 c3 c4 c5 c6 c7
  have hkid2 := hkid.later B0
  have hcells2 : Cells (w.alloc (.cells #[.int .i64 4, .int .u64 q.a, .int .u64 q.b, .int .u64 q.c, .int .u64 q.d, .int .i64 (mn), .int .i64 (-1), .slice (some ⟨b', off, none⟩) 1 cap] 28)) b' (off + 0 * 8) (nthT l 0) (vs 0) := cells_old hcells hbl B0
  obtain ⟨o2, n2, cap2, hv2⟩ := hkid.shape
  rw [hv2] at hcells2 hkid2
  obtain ⟨k0, k1, k2, k3, k4, k5, k6, k7⟩ := hcells2
  have hst := bs_size (txt (nthT l 0))
  have hn0 : (txt (nthT l 0)).length ≤ 4294967296 := by
    have := hlen
    simp only [List.length_append, rp.par] at this
    simp at this
    omega
  have hcall := ih (.slice o2 n2 cap2) (w.alloc (.cells #[.int .i64 4, .int .u64 q.a, .int .u64 q.b, .int .u64 q.c, .int .u64 q.d, .int .i64 (mn), .int .i64 (-1), .slice (some ⟨b', off, none⟩) 1 cap] 28)) hkid2 hn0
  have HB := (show Hid (∀ W, Below (w.alloc (.cells #[.int .i64 4, .int .u64 q.a, .int .u64 q.b, .int .u64 q.c, .int .u64 q.d, .int .i64 (mn), .int .i64 (-1), .slice (some ⟨b', off, none⟩) 1 cap] 28)).heap.size (w.alloc (.cells #[.int .i64 4, .int .u64 q.a, .int .u64 q.b, .int .u64 q.c, .int .u64 q.d, .int .i64 (mn), .int .i64 (-1), .slice (some ⟨b', off, none⟩) 1 cap] 28)) W → Box W w.heap.size (.node 4 q (mn) (-1) l) (.slice (some ⟨b', off, none⟩) 1 cap) ∧ Cells W b' (off + 0 * 8) (nthT l 0) (.slice o2 n2 cap2)) from fun W h => ⟨hb0.below h, by
    have := (cells_old hcells hbl B0)
    rw [hv2] at this
    exact cells_old this (by simp; omega) h⟩)
  have hkk : ((nthT l 0).kind != 1) = !false := by rw [← hkd]; rfl
  have f0 := beqn n0
  have f1 := beqn n1
  have hIt := itoa_any (mn) (by omega) (by omega)
  have hl := dec_len (mn) (by omega)
  have hs := bs_size (dec (mn))
  unfold ItoaIs at hIt
  have EE : Hid (((⟨#[40]⟩ : ByteArray) ++ bs (txt (nthT l 0)) ++ ⟨#[41]⟩) ++ (⟨#[123]⟩ : ByteArray) ++ bs (dec (mn)) ++ (⟨#[44, 125]⟩ : ByteArray) = bs (par (!false) (txt (nthT l 0)) ++ ([123] ++ dec mn ++ [44, 125]))) := by
    show _ = _
    have e1 : par (!false) (txt (nthT l 0)) = [40] ++ txt (nthT l 0) ++ [41] := rfl
    rw [e1]
    simp only [← bs_append, ByteArray.append_assoc]
    rfl
  rw [← EE.out]
  have z0 : ¬ 9223372036854775807 < 1 + (txt (nthT l 0)).length := by omega
  have z1 : ¬ 9223372036854775807 < 1 + (txt (nthT l 0)).length + 1 := by omega
  have z2 : ¬ 9223372036854775807 < 1 + (txt (nthT l 0)).length + 1 + 1 := by omega
  have z3 : ¬ 9223372036854775807 < 1 + (txt (nthT l 0)).length + 1 + 1 + (dec (mn)).length := by omega
  have z4 : ¬ 9223372036854775807 < 1 + (txt (nthT l 0)).length + 1 + 1 + (dec (mn)).length + 2 := by omega
  clear EE hr he hlen hI hk hcells hkid hv2 ih hb0 hkd
  unfold TxIs at *
  generalize txt (nthT l 0) = tl at *
  generalize bs tl = ts at *
  generalize nthT l 0 = x at *
  generalize dec (mn) = p at *
  generalize bs p = t1 at *
  simp only [Nat.zero_mul, Nat.add_zero] at k0 k1 k2 k3 k4 k5 k6 k7
  go_enter Tryd.func16, Tryd.ntmps16
  go_wp2_with (first | (go_at_call 16; (with_reducible refine hcall.mono ?_); rintro e w1 ⟨rfl, b1⟩; have hbw := HB.out w1 b1; obtain ⟨d0, d1, d2, d3, d4, d5, d6, d7⟩ := hbw.1.cells; simp only [Tr.kind, Tr.min, Tr.max] at d0 d5 d6 d7; obtain ⟨m0, m1, m2, m3, m4, m5, m6, m7⟩ := hbw.2; simp only [Nat.zero_mul, Nat.add_zero] at m0) | (go_at_call 30; go_loud ((with_reducible refine (hIt _).mono ?_); rintro e w2 ⟨rfl, hw2⟩; obtain rfl := hw2.symm)))
  go_ret
  exact ⟨rfl, chain B0 b1⟩
set_option maxHeartbeats 4000000 in
set_option maxRecDepth 100000 in
theorem tr4n (q : Q4) (l : List Tr) (mn : Int) (h0 : 0 ≤ mn) (h20 : mn ≤ 20) (n0 : ¬ mn = 0) (n1 : ¬ mn = 1) (h1 : l.length = 1) (hkd : decide ((nthT l 0).kind = 1) = true) (ih : TxIs (nthT l 0)) : TxIs (.node 4 q (mn) (-1) l) := by
  intro v w hI hlen
  obtain ⟨o, cap, b', off, vs, rfl, hcap, hk⟩ := hI.form
  simp only [Tr.kids] at hcap hk ⊢
  simp only [Tr.kind, Tr.set, Tr.min, Tr.max]
  have hr : timesT (mn) (-1) = [123] ++ dec mn ++ [44, 125] := by unfold timesT; rw [if_neg (by omega), if_neg (by omega), if_neg (by omega), if_pos rfl]; rfl
  have he : txt (.node 4 q (mn) (-1) l) = par (!decide ((nthT l 0).kind = 1)) (txt (nthT l 0)) ++ timesT (mn) (-1) := by
    rw [txt_eq]
    match l, h1 with
    | [x], _ => rfl
  rw [he, hkd, hr] at hlen ⊢
  obtain ⟨rfl, hcm, hbl, hbB, hcells, hkid⟩ := hk 0 (by omega)
  rw [h1]
  have B0 : Below w.heap.size w (w.alloc (.cells #[.int .i64 4, .int .u64 q.a, .int .u64 q.b, .int .u64 q.c, .int .u64 q.d, .int .i64 (mn), .int .i64 (-1), .slice (some ⟨b', off, none⟩) 1 cap] 28)) := below_alloc _ _
  have hb0 : Box (w.alloc (.cells #[.int .i64 4, .int .u64 q.a, .int .u64 q.b, .int .u64 q.c, .int .u64 q.d, .int .i64 (mn), .int .i64 (-1), .slice (some ⟨b', off, none⟩) 1 cap] 28)) w.heap.size (.node 4 q (mn) (-1) l) (.slice (some ⟨b', off, none⟩) 1 cap) := box_new w (.node 4 q (mn) (-1) l) _
  have c := hb0.cells
  obtain ⟨c0, c1, c2, c3, c4, c5, c6, c7⟩ := c
  simp only [Tr.kind, Tr.set, Tr.min, Tr.max] at c0 c1 c2 c3 c4 c5 c6 c7
  have hkid2 := hkid.later B0
  have hcells2 : Cells (w.alloc (.cells #[.int .i64 4, .int .u64 q.a, .int .u64 q.b, .int .u64 q.c, .int .u64 q.d, .int .i64 (mn), .int .i64 (-1), .slice (some ⟨b', off, none⟩) 1 cap] 28)) b' (off + 0 * 8) (nthT l 0) (vs 0) := cells_old hcells hbl B0
  obtain ⟨o2, n2, cap2, hv2⟩ := hkid.shape
  rw [hv2] at hcells2 hkid2
  obtain ⟨k0, k1, k2, k3, k4, k5, k6, k7⟩ := hcells2
  have hst := bs_size (txt (nthT l 0))
  have hn0 : (txt (nthT l 0)).length ≤ 4294967296 := by
    have := hlen
    simp only [List.length_append, rp.par] at this
    simp at this
    omega
  have hcall := ih (.slice o2 n2 cap2) (w.alloc (.cells #[.int .i64 4, .int .u64 q.a, .int .u64 q.b, .int .u64 q.c, .int .u64 q.d, .int .i64 (mn), .int .i64 (-1), .slice (some ⟨b', off, none⟩) 1 cap] 28)) hkid2 hn0
  have HB := (show Hid (∀ W, Below (w.alloc (.cells #[.int .i64 4, .int .u64 q.a, .int .u64 q.b, .int .u64 q.c, .int .u64 q.d, .int .i64 (mn), .int .i64 (-1), .slice (some ⟨b', off, none⟩) 1 cap] 28)).heap.size (w.alloc (.cells #[.int .i64 4, .int .u64 q.a, .int .u64 q.b, .int .u64 q.c, .int .u64 q.d, .int .i64 (mn), .int .i64 (-1), .slice (some ⟨b', off, none⟩) 1 cap] 28)) W → Box W w.heap.size (.node 4 q (mn) (-1) l) (.slice (some ⟨b', off, none⟩) 1 cap) ∧ Cells W b' (off + 0 * 8) (nthT l 0) (.slice o2 n2 cap2)) from fun W h => ⟨hb0.below h, by
    have := (cells_old hcells hbl B0)
    rw [hv2] at this
    exact cells_old this (by simp; omega) h⟩)
  have hkk : ((nthT l 0).kind != 1) = !true := by rw [← hkd]; rfl
  have f0 := beqn n0
  have f1 := beqn n1
  have hIt := itoa_any (mn) (by omega) (by omega)
  have hl := dec_len (mn) (by omega)
  have hs := bs_size (dec (mn))
  unfold ItoaIs at hIt
  have EE : Hid (bs (txt (nthT l 0)) ++ (⟨#[123]⟩ : ByteArray) ++ bs (dec (mn)) ++ (⟨#[44, 125]⟩ : ByteArray) = bs (par (!true) (txt (nthT l 0)) ++ ([123] ++ dec mn ++ [44, 125]))) := by
    show _ = _
    have e1 : par (!true) (txt (nthT l 0)) = txt (nthT l 0) := rfl
    rw [e1]
    simp only [← bs_append, ByteArray.append_assoc]
    rfl
  rw [← EE.out]
  have z0 : ¬ 9223372036854775807 < (txt (nthT l 0)).length + 1 := by omega
  have z1 : ¬ 9223372036854775807 < (txt (nthT l 0)).length + 1 + (dec (mn)).length := by omega
  have z2 : ¬ 9223372036854775807 < (txt (nthT l 0)).length + 1 + (dec (mn)).length + 2 := by omega
  clear EE hr he hlen hI hk hcells hkid hv2 ih hb0 hkd
  unfold TxIs at *
  generalize txt (nthT l 0) = tl at *
  generalize bs tl = ts at *
  generalize nthT l 0 = x at *
  generalize dec (mn) = p at *
  generalize bs p = t1 at *
  simp only [Nat.zero_mul, Nat.add_zero] at k0 k1 k2 k3 k4 k5 k6 k7
  go_enter Tryd.func16, Tryd.ntmps16
  go_wp2_with (first | (go_at_call 16; (with_reducible refine hcall.mono ?_); rintro e w1 ⟨rfl, b1⟩; have hbw := HB.out w1 b1; obtain ⟨d0, d1, d2, d3, d4, d5, d6, d7⟩ := hbw.1.cells; simp only [Tr.kind, Tr.min, Tr.max] at d0 d5 d6 d7; obtain ⟨m0, m1, m2, m3, m4, m5, m6, m7⟩ := hbw.2; simp only [Nat.zero_mul, Nat.add_zero] at m0) | (go_at_call 30; go_loud ((with_reducible refine (hIt _).mono ?_); rintro e w2 ⟨rfl, hw2⟩; obtain rfl := hw2.symm)))
  go_ret
  exact ⟨rfl, chain B0 b1⟩
set_option maxHeartbeats 4000000 in
set_option maxRecDepth 100000 in
theorem tr5ap (q : Q4) (l : List Tr)  (h1 : l.length = 1) (hkd : decide ((nthT l 0).kind = 1) = false) (ih : TxIs (nthT l 0)) : TxIs (.node 4 q (0) (0) l) := by
  intro v w hI hlen
  obtain ⟨o, cap, b', off, vs, rfl, hcap, hk⟩ := hI.form
  simp only [Tr.kids] at hcap hk ⊢
  simp only [Tr.kind, Tr.set, Tr.min, Tr.max]
  have hr : timesT (0) (0) = [123] ++ dec 0 ++ [125] := by rfl
  have he : txt (.node 4 q (0) (0) l) = par (!decide ((nthT l 0).kind = 1)) (txt (nthT l 0)) ++ timesT (0) (0) := by
    rw [txt_eq]
    match l, h1 with
    | [x], _ => rfl
  rw [he, hkd, hr] at hlen ⊢
  obtain ⟨rfl, hcm, hbl, hbB, hcells, hkid⟩ := hk 0 (by omega)
  rw [h1]
  have B0 : Below w.heap.size w (w.alloc (.cells #[.int .i64 4, .int .u64 q.a, .int .u64 q.b, .int .u64 q.c, .int .u64 q.d, .int .i64 (0), .int .i64 (0), .slice (some ⟨b', off, none⟩) 1 cap] 28)) := below_alloc _ _
  have hb0 : Box (w.alloc (.cells #[.int .i64 4, .int .u64 q.a, .int .u64 q.b, .int .u64 q.c, .int .u64 q.d, .int .i64 (0), .int .i64 (0), .slice (some ⟨b', off, none⟩) 1 cap] 28)) w.heap.size (.node 4 q (0) (0) l) (.slice (some ⟨b', off, none⟩) 1 cap) := box_new w (.node 4 q (0) (0) l) _
  have c := hb0.cells
  obtain ⟨c0, c1, c2, c3, c4, c5, c6, c7⟩ := c
  simp only [Tr.kind, Tr.set, Tr.min, Tr.max] at c0 c1 c2 c3 c4 c5 c6 c7
  have hkid2 := hkid.later B0
  have hcells2 : Cells (w.alloc (.cells #[.int .i64 4, .int .u64 q.a, .int .u64 q.b, .int .u64 q.c, .int .u64 q.d, .int .i64 (0), .int .i64 (0), .slice (some ⟨b', off, none⟩) 1 cap] 28)) b' (off + 0 * 8) (nthT l 0) (vs 0) := cells_old hcells hbl B0
  obtain ⟨o2, n2, cap2, hv2⟩ := hkid.shape
  rw [hv2] at hcells2 hkid2
  obtain ⟨k0, k1, k2, k3, k4, k5, k6, k7⟩ := hcells2
  have hst := bs_size (txt (nthT l 0))
  have hn0 : (txt (nthT l 0)).length ≤ 4294967296 := by
    have := hlen
    simp only [List.length_append, rp.par] at this
    simp at this
    omega
  have hcall := ih (.slice o2 n2 cap2) (w.alloc (.cells #[.int .i64 4, .int .u64 q.a, .int .u64 q.b, .int .u64 q.c, .int .u64 q.d, .int .i64 (0), .int .i64 (0), .slice (some ⟨b', off, none⟩) 1 cap] 28)) hkid2 hn0
  have HB := (show Hid (∀ W, Below (w.alloc (.cells #[.int .i64 4, .int .u64 q.a, .int .u64 q.b, .int .u64 q.c, .int .u64 q.d, .int .i64 (0), .int .i64 (0), .slice (some ⟨b', off, none⟩) 1 cap] 28)).heap.size (w.alloc (.cells #[.int .i64 4, .int .u64 q.a, .int .u64 q.b, .int .u64 q.c, .int .u64 q.d, .int .i64 (0), .int .i64 (0), .slice (some ⟨b', off, none⟩) 1 cap] 28)) W → Box W w.heap.size (.node 4 q (0) (0) l) (.slice (some ⟨b', off, none⟩) 1 cap) ∧ Cells W b' (off + 0 * 8) (nthT l 0) (.slice o2 n2 cap2)) from fun W h => ⟨hb0.below h, by
    have := (cells_old hcells hbl B0)
    rw [hv2] at this
    exact cells_old this (by simp; omega) h⟩)
  have hkk : ((nthT l 0).kind != 1) = !false := by rw [← hkd]; rfl
  have hIt := itoa_any (0) (by omega) (by omega)
  have hl := dec_len (0) (by omega)
  have hs := bs_size (dec (0))
  unfold ItoaIs at hIt
  have EE : Hid (((⟨#[40]⟩ : ByteArray) ++ bs (txt (nthT l 0)) ++ ⟨#[41]⟩) ++ (⟨#[123]⟩ : ByteArray) ++ bs (dec (0)) ++ (⟨#[125]⟩ : ByteArray) = bs (par (!false) (txt (nthT l 0)) ++ ([123] ++ dec 0 ++ [125]))) := by
    show _ = _
    have e1 : par (!false) (txt (nthT l 0)) = [40] ++ txt (nthT l 0) ++ [41] := rfl
    rw [e1]
    simp only [← bs_append, ByteArray.append_assoc]
    rfl
  rw [← EE.out]
  have z0 : ¬ 9223372036854775807 < 1 + (txt (nthT l 0)).length := by omega
  have z1 : ¬ 9223372036854775807 < 1 + (txt (nthT l 0)).length + 1 := by omega
  have z2 : ¬ 9223372036854775807 < 1 + (txt (nthT l 0)).length + 1 + 1 := by omega
  have z3 : ¬ 9223372036854775807 < 1 + (txt (nthT l 0)).length + 1 + 1 + (dec (0)).length := by omega
  have z4 : ¬ 9223372036854775807 < 1 + (txt (nthT l 0)).length + 1 + 1 + (dec (0)).length + 1 := by omega
  clear EE hr he hlen hI hk hcells hkid hv2 ih hb0 hkd
  unfold TxIs at *
  generalize txt (nthT l 0) = tl at *
  generalize bs tl = ts at *
  generalize nthT l 0 = x at *
  generalize dec (0) = p at *
  generalize bs p = t1 at *
  simp only [Nat.zero_mul, Nat.add_zero] at k0 k1 k2 k3 k4 k5 k6 k7
  go_enter Tryd.func16, Tryd.ntmps16
  go_wp2_with (first | (go_at_call 16; (with_reducible refine hcall.mono ?_); rintro e w1 ⟨rfl, b1⟩; have hbw := HB.out w1 b1; obtain ⟨d0, d1, d2, d3, d4, d5, d6, d7⟩ := hbw.1.cells; simp only [Tr.kind, Tr.min, Tr.max] at d0 d5 d6 d7; obtain ⟨m0, m1, m2, m3, m4, m5, m6, m7⟩ := hbw.2; simp only [Nat.zero_mul, Nat.add_zero] at m0) | (go_at_call 30; go_loud ((with_reducible refine (hIt _).mono ?_); rintro e w2 ⟨rfl, hw2⟩; obtain rfl := hw2.symm)))
  go_ret
  exact ⟨rfl, chain B0 b1⟩
set_option maxHeartbeats 4000000 in
set_option maxRecDepth 100000 in
theorem tr5an (q : Q4) (l : List Tr)  (h1 : l.length = 1) (hkd : decide ((nthT l 0).kind = 1) = true) (ih : TxIs (nthT l 0)) : TxIs (.node 4 q (0) (0) l) := by
  intro v w hI hlen
  obtain ⟨o, cap, b', off, vs, rfl, hcap, hk⟩ := hI.form
  simp only [Tr.kids] at hcap hk ⊢
  simp only [Tr.kind, Tr.set, Tr.min, Tr.max]
  have hr : timesT (0) (0) = [123] ++ dec 0 ++ [125] := by rfl
  have he : txt (.node 4 q (0) (0) l) = par (!decide ((nthT l 0).kind = 1)) (txt (nthT l 0)) ++ timesT (0) (0) := by
    rw [txt_eq]
    match l, h1 with
    | [x], _ => rfl
  rw [he, hkd, hr] at hlen ⊢
  obtain ⟨rfl, hcm, hbl, hbB, hcells, hkid⟩ := hk 0 (by omega)
  rw [h1]
  have B0 : Below w.heap.size w (w.alloc (.cells #[.int .i64 4, .int .u64 q.a, .int .u64 q.b, .int .u64 q.c, .int .u64 q.d, .int .i64 (0), .int .i64 (0), .slice (some ⟨b', off, none⟩) 1 cap] 28)) := below_alloc _ _
  have hb0 : Box (w.alloc (.cells #[.int .i64 4, .int .u64 q.a, .int .u64 q.b, .int .u64 q.c, .int .u64 q.d, .int .i64 (0), .int .i64 (0), .slice (some ⟨b', off, none⟩) 1 cap] 28)) w.heap.size (.node 4 q (0) (0) l) (.slice (some ⟨b', off, none⟩) 1 cap) := box_new w (.node 4 q (0) (0) l) _
  have c := hb0.cells
  obtain ⟨c0, c1, c2, c3, c4, c5, c6, c7⟩ := c
  simp only [Tr.kind, Tr.set, Tr.min, Tr.max] at c0 c1 c2 c3 c4 c5 c6 c7
  have hkid2 := hkid.later B0
  have hcells2 : Cells (w.alloc (.cells #[.int .i64 4, .int .u64 q.a, .int .u64 q.b, .int .u64 q.c, .int .u64 q.d, .int .i64 (0), .int .i64 (0), .slice (some ⟨b', off, none⟩) 1 cap] 28)) b' (off + 0 * 8) (nthT l 0) (vs 0) := cells_old hcells hbl B0
  obtain ⟨o2, n2, cap2, hv2⟩ := hkid.shape
  rw [hv2] at hcells2 hkid2
  obtain ⟨k0, k1, k2, k3, k4, k5, k6, k7⟩ := hcells2
  have hst := bs_size (txt (nthT l 0))
  have hn0 : (txt (nthT l 0)).length ≤ 4294967296 := by
    have := hlen
    simp only [List.length_append, rp.par] at this
    simp at this
    omega
  have hcall := ih (.slice o2 n2 cap2) (w.alloc (.cells #[.int .i64 4, .int .u64 q.a, .int .u64 q.b, .int .u64 q.c, .int .u64 q.d, .int .i64 (0), .int .i64 (0), .slice (some ⟨b', off, none⟩) 1 cap] 28)) hkid2 hn0
  have HB := (show Hid (∀ W, Below (w.alloc (.cells #[.int .i64 4, .int .u64 q.a, .int .u64 q.b, .int .u64 q.c, .int .u64 q.d, .int .i64 (0), .int .i64 (0), .slice (some ⟨b', off, none⟩) 1 cap] 28)).heap.size (w.alloc (.cells #[.int .i64 4, .int .u64 q.a, .int .u64 q.b, .int .u64 q.c, .int .u64 q.d, .int .i64 (0), .int .i64 (0), .slice (some ⟨b', off, none⟩) 1 cap] 28)) W → Box W w.heap.size (.node 4 q (0) (0) l) (.slice (some ⟨b', off, none⟩) 1 cap) ∧ Cells W b' (off + 0 * 8) (nthT l 0) (.slice o2 n2 cap2)) from fun W h => ⟨hb0.below h, by
    have := (cells_old hcells hbl B0)
    rw [hv2] at this
    exact cells_old this (by simp; omega) h⟩)
  have hkk : ((nthT l 0).kind != 1) = !true := by rw [← hkd]; rfl
  have hIt := itoa_any (0) (by omega) (by omega)
  have hl := dec_len (0) (by omega)
  have hs := bs_size (dec (0))
  unfold ItoaIs at hIt
  have EE : Hid (bs (txt (nthT l 0)) ++ (⟨#[123]⟩ : ByteArray) ++ bs (dec (0)) ++ (⟨#[125]⟩ : ByteArray) = bs (par (!true) (txt (nthT l 0)) ++ ([123] ++ dec 0 ++ [125]))) := by
    show _ = _
    have e1 : par (!true) (txt (nthT l 0)) = txt (nthT l 0) := rfl
    rw [e1]
    simp only [← bs_append, ByteArray.append_assoc]
    rfl
  rw [← EE.out]
  have z0 : ¬ 9223372036854775807 < (txt (nthT l 0)).length + 1 := by omega
  have z1 : ¬ 9223372036854775807 < (txt (nthT l 0)).length + 1 + (dec (0)).length := by omega
  have z2 : ¬ 9223372036854775807 < (txt (nthT l 0)).length + 1 + (dec (0)).length + 1 := by omega
  clear EE hr he hlen hI hk hcells hkid hv2 ih hb0 hkd
  unfold TxIs at *
  generalize txt (nthT l 0) = tl at *
  generalize bs tl = ts at *
  generalize nthT l 0 = x at *
  generalize dec (0) = p at *
  generalize bs p = t1 at *
  simp only [Nat.zero_mul, Nat.add_zero] at k0 k1 k2 k3 k4 k5 k6 k7
  go_enter Tryd.func16, Tryd.ntmps16
  go_wp2_with (first | (go_at_call 16; (with_reducible refine hcall.mono ?_); rintro e w1 ⟨rfl, b1⟩; have hbw := HB.out w1 b1; obtain ⟨d0, d1, d2, d3, d4, d5, d6, d7⟩ := hbw.1.cells; simp only [Tr.kind, Tr.min, Tr.max] at d0 d5 d6 d7; obtain ⟨m0, m1, m2, m3, m4, m5, m6, m7⟩ := hbw.2; simp only [Nat.zero_mul, Nat.add_zero] at m0) | (go_at_call 30; go_loud ((with_reducible refine (hIt _).mono ?_); rintro e w2 ⟨rfl, hw2⟩; obtain rfl := hw2.symm)))
  go_ret
  exact ⟨rfl, chain B0 b1⟩
set_option maxHeartbeats 4000000 in
set_option maxRecDepth 100000 in
theorem tr5bp (q : Q4) (l : List Tr)  (h1 : l.length = 1) (hkd : decide ((nthT l 0).kind = 1) = false) (ih : TxIs (nthT l 0)) : TxIs (.node 4 q (1) (1) l) := by
  intro v w hI hlen
  obtain ⟨o, cap, b', off, vs, rfl, hcap, hk⟩ := hI.form
  simp only [Tr.kids] at hcap hk ⊢
  simp only [Tr.kind, Tr.set, Tr.min, Tr.max]
  have hr : timesT (1) (1) = [123] ++ dec 1 ++ [125] := by rfl
  have he : txt (.node 4 q (1) (1) l) = par (!decide ((nthT l 0).kind = 1)) (txt (nthT l 0)) ++ timesT (1) (1) := by
    rw [txt_eq]
    match l, h1 with
    | [x], _ => rfl
  rw [he, hkd, hr] at hlen ⊢
  obtain ⟨rfl, hcm, hbl, hbB, hcells, hkid⟩ := hk 0 (by omega)
  rw [h1]
  have B0 : Below w.heap.size w (w.alloc (.cells #[.int .i64 4, .int .u64 q.a, .int .u64 q.b, .int .u64 q.c, .int .u64 q.d, .int .i64 (1), .int .i64 (1), .slice (some ⟨b', off, none⟩) 1 cap] 28)) := below_alloc _ _
  have hb0 : Box (w.alloc (.cells #[.int .i64 4, .int .u64 q.a, .int .u64 q.b, .int .u64 q.c, .int .u64 q.d, .int .i64 (1), .int .i64 (1), .slice (some ⟨b', off, none⟩) 1 cap] 28)) w.heap.size (.node 4 q (1) (1) l) (.slice (some ⟨b', off, none⟩) 1 cap) := box_new w (.node 4 q (1) (1) l) _
  have c := hb0.cells
  obtain ⟨c0, c1, c2, c3, c4, c5, c6, c7⟩ := c
  simp only [Tr.kind, Tr.set, Tr.min, Tr.max] at c0 c1 c2 c3 c4 c5 c6 c7
  have hkid2 := hkid.later B0
  have hcells2 : Cells (w.alloc (.cells #[.int .i64 4, .int .u64 q.a, .int .u64 q.b, .int .u64 q.c, .int .u64 q.d, .int .i64 (1), .int .i64 (1), .slice (some ⟨b', off, none⟩) 1 cap] 28)) b' (off + 0 * 8) (nthT l 0) (vs 0) := cells_old hcells hbl B0
  obtain ⟨o2, n2, cap2, hv2⟩ := hkid.shape
  rw [hv2] at hcells2 hkid2
  obtain ⟨k0, k1, k2, k3, k4, k5, k6, k7⟩ := hcells2
  have hst := bs_size (txt (nthT l 0))
  have hn0 : (txt (nthT l 0)).length ≤ 4294967296 := by
    have := hlen
    simp only [List.length_append, rp.par] at this
    simp at this
    omega
  have hcall := ih (.slice o2 n2 cap2) (w.alloc (.cells #[.int .i64 4, .int .u64 q.a, .int .u64 q.b, .int .u64 q.c, .int .u64 q.d, .int .i64 (1), .int .i64 (1), .slice (some ⟨b', off, none⟩) 1 cap] 28)) hkid2 hn0
  have HB := (show Hid (∀ W, Below (w.alloc (.cells #[.int .i64 4, .int .u64 q.a, .int .u64 q.b, .int .u64 q.c, .int .u64 q.d, .int .i64 (1), .int .i64 (1), .slice (some ⟨b', off, none⟩) 1 cap] 28)).heap.size (w.alloc (.cells #[.int .i64 4, .int .u64 q.a, .int .u64 q.b, .int .u64 q.c, .int .u64 q.d, .int .i64 (1), .int .i64 (1), .slice (some ⟨b', off, none⟩) 1 cap] 28)) W → Box W w.heap.size (.node 4 q (1) (1) l) (.slice (some ⟨b', off, none⟩) 1 cap) ∧ Cells W b' (off + 0 * 8) (nthT l 0) (.slice o2 n2 cap2)) from fun W h => ⟨hb0.below h, by
    have := (cells_old hcells hbl B0)
    rw [hv2] at this
    exact cells_old this (by simp; omega) h⟩)
  have hkk : ((nthT l 0).kind != 1) = !false := by rw [← hkd]; rfl
  have hIt := itoa_any (1) (by omega) (by omega)
  have hl := dec_len (1) (by omega)
  have hs := bs_size (dec (1))
  unfold ItoaIs at hIt
  have EE : Hid (((⟨#[40]⟩ : ByteArray) ++ bs (txt (nthT l 0)) ++ ⟨#[41]⟩) ++ (⟨#[123]⟩ : ByteArray) ++ bs (dec (1)) ++ (⟨#[125]⟩ : ByteArray) = bs (par (!false) (txt (nthT l 0)) ++ ([123] ++ dec 1 ++ [125]))) := by
    show _ = _
    have e1 : par (!false) (txt (nthT l 0)) = [40] ++ txt (nthT l 0) ++ [41] := rfl
    rw [e1]
    simp only [← bs_append, ByteArray.append_assoc]
    rfl
  rw [← EE.out]
  have z0 : ¬ 9223372036854775807 < 1 + (txt (nthT l 0)).length := by omega
  have z1 : ¬ 9223372036854775807 < 1 + (txt (nthT l 0)).length + 1 := by omega
  have z2 : ¬ 9223372036854775807 < 1 + (txt (nthT l 0)).length + 1 + 1 := by omega
  have z3 : ¬ 9223372036854775807 < 1 + (txt (nthT l 0)).length + 1 + 1 + (dec (1)).length := by omega
  have z4 : ¬ 9223372036854775807 < 1 + (txt (nthT l 0)).length + 1 + 1 + (dec (1)).length + 1 := by omega
  clear EE hr he hlen hI hk hcells hkid hv2 ih hb0 hkd
  unfold TxIs at *
  generalize txt (nthT l 0) = tl at *
  generalize bs tl = ts at *
  generalize nthT l 0 = x at *
  generalize dec (1) = p at *
  generalize bs p = t1 at *
  simp only [Nat.zero_mul, Nat.add_zero] at k0 k1 k2 k3 k4 k5 k6 k7
  go_enter Tryd.func16, Tryd.ntmps16
  go_wp2_with (first | (go_at_call 16; (with_reducible refine hcall.mono ?_); rintro e w1 ⟨rfl, b1⟩; have hbw := HB.out w1 b1; obtain ⟨d0, d1, d2, d3, d4, d5, d6, d7⟩ := hbw.1.cells; simp only [Tr.kind, Tr.min, Tr.max] at d0 d5 d6 d7; obtain ⟨m0, m1, m2, m3, m4, m5, m6, m7⟩ := hbw.2; simp only [Nat.zero_mul, Nat.add_zero] at m0) | (go_at_call 30; go_loud ((with_reducible refine (hIt _).mono ?_); rintro e w2 ⟨rfl, hw2⟩; obtain rfl := hw2.symm)))
  go_ret
  exact ⟨rfl, chain B0 b1⟩
set_option maxHeartbeats 4000000 in
set_option maxRecDepth 100000 in
theorem tr5bn (q : Q4) (l : List Tr)  (h1 : l.length = 1) (hkd : decide ((nthT l 0).kind = 1) = true) (ih : TxIs (nthT l 0)) : TxIs (.node 4 q (1) (1) l) := by
  intro v w hI hlen
  obtain ⟨o, cap, b', off, vs, rfl, hcap, hk⟩ := hI.form
  simp only [Tr.kids] at hcap hk ⊢
  simp only [Tr.kind, Tr.set, Tr.min, Tr.max]
  have hr : timesT (1) (1) = [123] ++ dec 1 ++ [125] := by rfl
  have he : txt (.node 4 q (1) (1) l) = par (!decide ((nthT l 0).kind = 1)) (txt (nthT l 0)) ++ timesT (1) (1) := by
    rw [txt_eq]
    match l, h1 with
    | [x], _ => rfl
  rw [he, hkd, hr] at hlen ⊢
  obtain ⟨rfl, hcm, hbl, hbB, hcells, hkid⟩ := hk 0 (by omega)
  rw [h1]
  have B0 : Below w.heap.size w (w.alloc (.cells #[.int .i64 4, .int .u64 q.a, .int .u64 q.b, .int .u64 q.c, .int .u64 q.d, .int .i64 (1), .int .i64 (1), .slice (some ⟨b', off, none⟩) 1 cap] 28)) := below_alloc _ _
  have hb0 : Box (w.alloc (.cells #[.int .i64 4, .int .u64 q.a, .int .u64 q.b, .int .u64 q.c, .int .u64 q.d, .int .i64 (1), .int .i64 (1), .slice (some ⟨b', off, none⟩) 1 cap] 28)) w.heap.size (.node 4 q (1) (1) l) (.slice (some ⟨b', off, none⟩) 1 cap) := box_new w (.node 4 q (1) (1) l) _
  have c := hb0.cells
  obtain ⟨c0, c1, c2, c3, c4, c5, c6, c7⟩ := c
  simp only [Tr.kind, Tr.set, Tr.min, Tr.max] at c0 c1 c2 c3 c4 c5 c6 c7
  have hkid2 := hkid.later B0
  have hcells2 : Cells (w.alloc (.cells #[.int .i64 4, .int .u64 q.a, .int .u64 q.b, .int .u64 q.c, .int .u64 q.d, .int .i64 (1), .int .i64 (1), .slice (some ⟨b', off, none⟩) 1 cap] 28)) b' (off + 0 * 8) (nthT l 0) (vs 0) := cells_old hcells hbl B0
  obtain ⟨o2, n2, cap2, hv2⟩ := hkid.shape
  rw [hv2] at hcells2 hkid2
  obtain ⟨k0, k1, k2, k3, k4, k5, k6, k7⟩ := hcells2
  have hst := bs_size (txt (nthT l 0))
  have hn0 : (txt (nthT l 0)).length ≤ 4294967296 := by
    have := hlen
    simp only [List.length_append, rp.par] at this
    simp at this
    omega
  have hcall := ih (.slice o2 n2 cap2) (w.alloc (.cells #[.int .i64 4, .int .u64 q.a, .int .u64 q.b, .int .u64 q.c, .int .u64 q.d, .int .i64 (1), .int .i64 (1), .slice (some ⟨b', off, none⟩) 1 cap] 28)) hkid2 hn0
  have HB := (show Hid (∀ W, Below (w.alloc (.cells #[.int .i64 4, .int .u64 q.a, .int .u64 q.b, .int .u64 q.c, .int .u64 q.d, .int .i64 (1), .int .i64 (1), .slice (some ⟨b', off, none⟩) 1 cap] 28)).heap.size (w.alloc (.cells #[.int .i64 4, .int .u64 q.a, .int .u64 q.b, .int .u64 q.c, .int .u64 q.d, .int .i64 (1), .int .i64 (1), .slice (some ⟨b', off, none⟩) 1 cap] 28)) W → Box W w.heap.size (.node 4 q (1) (1) l) (.slice (some ⟨b', off, none⟩) 1 cap) ∧ Cells W b' (off + 0 * 8) (nthT l 0) (.slice o2 n2 cap2)) from fun W h => ⟨hb0.below h, by
    have := (cells_old hcells hbl B0)
    rw [hv2] at this
    exact cells_old this (by simp; omega) h⟩)
  have hkk : ((nthT l 0).kind != 1) = !true := by rw [← hkd]; rfl
  have hIt := itoa_any (1) (by omega) (by omega)
  have hl := dec_len (1) (by omega)
  have hs := bs_size (dec (1))
  unfold ItoaIs at hIt
  have EE : Hid (bs (txt (nthT l 0)) ++ (⟨#[123]⟩ : ByteArray) ++ bs (dec (1)) ++ (⟨#[125]⟩ : ByteArray) = bs (par (!true) (txt (nthT l 0)) ++ ([123] ++ dec 1 ++ [125]))) := by
    show _ = _
    have e1 : par (!true) (txt (nthT l 0)) = txt (nthT l 0) := rfl
    rw [e1]
    simp only [← bs_append, ByteArray.append_assoc]
    rfl
  rw [← EE.out]
  have z0 : ¬ 9223372036854775807 < (txt (nthT l 0)).length + 1 := by omega
  have z1 : ¬ 9223372036854775807 < (txt (nthT l 0)).length + 1 + (dec (1)).length := by omega
  have z2 : ¬ 9223372036854775807 < (txt (nthT l 0)).length + 1 + (dec (1)).length + 1 := by omega
  clear EE hr he hlen hI hk hcells hkid hv2 ih hb0 hkd
  unfold TxIs at *
  generalize txt (nthT l 0) = tl at *
  generalize bs tl = ts at *
  generalize nthT l 0 = x at *
  generalize dec (1) = p at *
  generalize bs p = t1 at *
  simp only [Nat.zero_mul, Nat.add_zero] at k0 k1 k2 k3 k4 k5 k6 k7
  go_enter Tryd.func16, Tryd.ntmps16
  go_wp2_with (first | (go_at_call 16; (with_reducible refine hcall.mono ?_); rintro e w1 ⟨rfl, b1⟩; have hbw := HB.out w1 b1; obtain ⟨d0, d1, d2, d3, d4, d5, d6, d7⟩ := hbw.1.cells; simp only [Tr.kind, Tr.min, Tr.max] at d0 d5 d6 d7; obtain ⟨m0, m1, m2, m3, m4, m5, m6, m7⟩ := hbw.2; simp only [Nat.zero_mul, Nat.add_zero] at m0) | (go_at_call 30; go_loud ((with_reducible refine (hIt _).mono ?_); rintro e w2 ⟨rfl, hw2⟩; obtain rfl := hw2.symm)))
  go_ret
  exact ⟨rfl, chain B0 b1⟩
set_option maxHeartbeats 4000000 in
set_option maxRecDepth 100000 in
theorem tr5cp (q : Q4) (l : List Tr) (mn : Int) (h0 : 0 ≤ mn) (h20 : mn ≤ 20) (n0 : ¬ mn = 0) (n1 : ¬ mn = 1) (h1 : l.length = 1) (hkd : decide ((nthT l 0).kind = 1) = false) (ih : TxIs (nthT l 0)) : TxIs (.node 4 q (mn) (mn) l) := by
  intro v w hI hlen
  obtain ⟨o, cap, b', off, vs, rfl, hcap, hk⟩ := hI.form
  simp only [Tr.kids] at hcap hk ⊢
  simp only [Tr.kind, Tr.set, Tr.min, Tr.max]
  have hr : timesT (mn) (mn) = [123] ++ dec mn ++ [125] := by unfold timesT; rw [if_neg (by omega), if_neg (by omega), if_neg (by omega), if_neg (by omega), if_pos rfl]; rfl
  have he : txt (.node 4 q (mn) (mn) l) = par (!decide ((nthT l 0).kind = 1)) (txt (nthT l 0)) ++ timesT (mn) (mn) := by
    rw [txt_eq]
    match l, h1 with
    | [x], _ => rfl
  rw [he, hkd, hr] at hlen ⊢
  obtain ⟨rfl, hcm, hbl, hbB, hcells, hkid⟩ := hk 0 (by omega)
  rw [h1]
  have B0 : Below w.heap.size w (w.alloc (.cells #[.int .i64 4, .int .u64 q.a, .int .u64 q.b, .int .u64 q.c, .int .u64 q.d, .int .i64 (mn), .int .i64 (mn), .slice (some ⟨b', off, none⟩) 1 cap] 28)) := below_alloc _ _
  have hb0 : Box (w.alloc (.cells #[.int .i64 4, .int .u64 q.a, .int .u64 q.b, .int .u64 q.c, .int .u64 q.d, .int .i64 (mn), .int .i64 (mn), .slice (some ⟨b', off, none⟩) 1 cap] 28)) w.heap.size (.node 4 q (mn) (mn) l) (.slice (some ⟨b', off, none⟩) 1 cap) := box_new w (.node 4 q (mn) (mn) l) _
  have c := hb0.cells
  obtain ⟨c0, c1, c2, c3, c4, c5, c6, c7⟩ := c
  simp only [Tr.kind, Tr.set, Tr.min, Tr.max] at c0 c1 c2 c3 c4 c5 c6 c7
  have hkid2 := hkid.later B0
  have hcells2 : Cells (w.alloc (.cells #[.int .i64 4, .int .u64 q.a, .int .u64 q.b, .int .u64 q.c, .int .u64 q.d, .int .i64 (mn), .int .i64 (mn), .slice (some ⟨b', off, none⟩) 1 cap] 28)) b' (off + 0 * 8) (nthT l 0) (vs 0) := cells_old hcells hbl B0
  obtain ⟨o2, n2, cap2, hv2⟩ := hkid.shape
  rw [hv2] at hcells2 hkid2
  obtain ⟨k0, k1, k2, k3, k4, k5, k6, k7⟩ := hcells2
  have hst := bs_size (txt (nthT l 0))
  have hn0 : (txt (nthT l 0)).length ≤ 4294967296 := by
    have := hlen
    simp only [List.length_append, rp.par] at this
    simp at this
    omega
  have hcall := ih (.slice o2 n2 cap2) (w.alloc (.cells #[.int .i64 4, .int .u64 q.a, .int .u64 q.b, .int .u64 q.c, .int .u64 q.d, .int .i64 (mn), .int .i64 (mn), .slice (some ⟨b', off, none⟩) 1 cap] 28)) hkid2 hn0
  have HB := (show Hid (∀ W, Below (w.alloc (.cells #[.int .i64 4, .int .u64 q.a, .int .u64 q.b, .int .u64 q.c, .int .u64 q.d, .int .i64 (mn), .int .i64 (mn), .slice (some ⟨b', off, none⟩) 1 cap] 28)).heap.size (w.alloc (.cells #[.int .i64 4, .int .u64 q.a, .int .u64 q.b, .int .u64 q.c, .int .u64 q.d, .int .i64 (mn), .int .i64 (mn), .slice (some ⟨b', off, none⟩) 1 cap] 28)) W → Box W w.heap.size (.node 4 q (mn) (mn) l) (.slice (some ⟨b', off, none⟩) 1 cap) ∧ Cells W b' (off + 0 * 8) (nthT l 0) (.slice o2 n2 cap2)) from fun W h => ⟨hb0.below h, by
    have := (cells_old hcells hbl B0)
    rw [hv2] at this
    exact cells_old this (by simp; omega) h⟩)
  have hkk : ((nthT l 0).kind != 1) = !false := by rw [← hkd]; rfl
  have f0 := beqn n0
  have f1 := beqn n1
  have f2 : (mn == -1) = false := beqn (by omega)
  have f6 : (mn != mn) = false := by simp
  have hIt := itoa_any (mn) (by omega) (by omega)
  have hl := dec_len (mn) (by omega)
  have hs := bs_size (dec (mn))
  unfold ItoaIs at hIt
  have EE : Hid (((⟨#[40]⟩ : ByteArray) ++ bs (txt (nthT l 0)) ++ ⟨#[41]⟩) ++ (⟨#[123]⟩ : ByteArray) ++ bs (dec (mn)) ++ (⟨#[125]⟩ : ByteArray) = bs (par (!false) (txt (nthT l 0)) ++ ([123] ++ dec mn ++ [125]))) := by
    show _ = _
    have e1 : par (!false) (txt (nthT l 0)) = [40] ++ txt (nthT l 0) ++ [41] := rfl
    rw [e1]
    simp only [← bs_append, ByteArray.append_assoc]
    rfl
  rw [← EE.out]
  have z0 : ¬ 9223372036854775807 < 1 + (txt (nthT l 0)).length := by omega
  have z1 : ¬ 9223372036854775807 < 1 + (txt (nthT l 0)).length + 1 := by omega
  have z2 : ¬ 9223372036854775807 < 1 + (txt (nthT l 0)).length + 1 + 1 := by omega
  have z3 : ¬ 9223372036854775807 < 1 + (txt (nthT l 0)).length + 1 + 1 + (dec (mn)).length := by omega
  have z4 : ¬ 9223372036854775807 < 1 + (txt (nthT l 0)).length + 1 + 1 + (dec (mn)).length + 1 := by omega
  clear EE hr he hlen hI hk hcells hkid hv2 ih hb0 hkd
  unfold TxIs at *
  generalize txt (nthT l 0) = tl at *
  generalize bs tl = ts at *
  generalize nthT l 0 = x at *
  generalize dec (mn) = p at *
  generalize bs p = t1 at *
  simp only [Nat.zero_mul, Nat.add_zero] at k0 k1 k2 k3 k4 k5 k6 k7
  go_enter Tryd.func16, Tryd.ntmps16
  go_wp2_with (first | (go_at_call 16; (with_reducible refine hcall.mono ?_); rintro e w1 ⟨rfl, b1⟩; have hbw := HB.out w1 b1; obtain ⟨d0, d1, d2, d3, d4, d5, d6, d7⟩ := hbw.1.cells; simp only [Tr.kind, Tr.min, Tr.max] at d0 d5 d6 d7; obtain ⟨m0, m1, m2, m3, m4, m5, m6, m7⟩ := hbw.2; simp only [Nat.zero_mul, Nat.add_zero] at m0) | (go_at_call 30; go_loud ((with_reducible refine (hIt _).mono ?_); rintro e w2 ⟨rfl, hw2⟩; obtain rfl := hw2.symm)))
  go_ret
  exact ⟨rfl, chain B0 b1⟩
set_option maxHeartbeats 4000000 in
set_option maxRecDepth 100000 in
theorem tr5cn (q : Q4) (l : List Tr) (mn : Int) (h0 : 0 ≤ mn) (h20 : mn ≤ 20) (n0 : ¬ mn = 0) (n1 : ¬ mn = 1) (h1 : l.length = 1) (hkd : decide ((nthT l 0).kind = 1) = true) (ih : TxIs (nthT l 0)) : TxIs (.node 4 q (mn) (mn) l) := by
  intro v w hI hlen
  obtain ⟨o, cap, b', off, vs, rfl, hcap, hk⟩ := hI.form
  simp only [Tr.kids] at hcap hk ⊢
  simp only [Tr.kind, Tr.set, Tr.min, Tr.max]
  have hr : timesT (mn) (mn) = [123] ++ dec mn ++ [125] := by unfold timesT; rw [if_neg (by omega), if_neg (by omega), if_neg (by omega), if_neg (by omega), if_pos rfl]; rfl
  have he : txt (.node 4 q (mn) (mn) l) = par (!decide ((nthT l 0).kind = 1)) (txt (nthT l 0)) ++ timesT (mn) (mn) := by
    rw [txt_eq]
    match l, h1 with
    | [x], _ => rfl
  rw [he, hkd, hr] at hlen ⊢
  obtain ⟨rfl, hcm, hbl, hbB, hcells, hkid⟩ := hk 0 (by omega)
  rw [h1]
  have B0 : Below w.heap.size w (w.alloc (.cells #[.int .i64 4, .int .u64 q.a, .int .u64 q.b, .int .u64 q.c, .int .u64 q.d, .int .i64 (mn), .int .i64 (mn), .slice (some ⟨b', off, none⟩) 1 cap] 28)) := below_alloc _ _
  have hb0 : Box (w.alloc (.cells #[.int .i64 4, .int .u64 q.a, .int .u64 q.b, .int .u64 q.c, .int .u64 q.d, .int .i64 (mn), .int .i64 (mn), .slice (some ⟨b', off, none⟩) 1 cap] 28)) w.heap.size (.node 4 q (mn) (mn) l) (.slice (some ⟨b', off, none⟩) 1 cap) := box_new w (.node 4 q (mn) (mn) l) _
  have c := hb0.cells
  obtain ⟨c0, c1, c2, c3, c4, c5, c6, c7⟩ := c
  simp only [Tr.kind, Tr.set, Tr.min, Tr.max] at c0 c1 c2 c3 c4 c5 c6 c7
  have hkid2 := hkid.later B0
  have hcells2 : Cells (w.alloc (.cells #[.int .i64 4, .int .u64 q.a, .int .u64 q.b, .int .u64 q.c, .int .u64 q.d, .int .i64 (mn), .int .i64 (mn), .slice (some ⟨b', off, none⟩) 1 cap] 28)) b' (off + 0 * 8) (nthT l 0) (vs 0) := cells_old hcells hbl B0
  obtain ⟨o2, n2, cap2, hv2⟩ := hkid.shape
  rw [hv2] at hcells2 hkid2
  obtain ⟨k0, k1, k2, k3, k4, k5, k6, k7⟩ := hcells2
  have hst := bs_size (txt (nthT l 0))
  have hn0 : (txt (nthT l 0)).length ≤ 4294967296 := by
    have := hlen
    simp only [List.length_append, rp.par] at this
    simp at this
    omega
  have hcall := ih (.slice o2 n2 cap2) (w.alloc (.cells #[.int .i64 4, .int .u64 q.a, .int .u64 q.b, .int .u64 q.c, .int .u64 q.d, .int .i64 (mn), .int .i64 (mn), .slice (some ⟨b', off, none⟩) 1 cap] 28)) hkid2 hn0
  have HB := (show Hid (∀ W, Below (w.alloc (.cells #[.int .i64 4, .int .u64 q.a, .int .u64 q.b, .int .u64 q.c, .int .u64 q.d, .int .i64 (mn), .int .i64 (mn), .slice (some ⟨b', off, none⟩) 1 cap] 28)).heap.size (w.alloc (.cells #[.int .i64 4, .int .u64 q.a, .int .u64 q.b, .int .u64 q.c, .int .u64 q.d, .int .i64 (mn), .int .i64 (mn), .slice (some ⟨b', off, none⟩) 1 cap] 28)) W → Box W w.heap.size (.node 4 q (mn) (mn) l) (.slice (some ⟨b', off, none⟩) 1 cap) ∧ Cells W b' (off + 0 * 8) (nthT l 0) (.slice o2 n2 cap2)) from fun W h => ⟨hb0.below h, by
    have := (cells_old hcells hbl B0)
    rw [hv2] at this
    exact cells_old this (by simp; omega) h⟩)
  have hkk : ((nthT l 0).kind != 1) = !true := by rw [← hkd]; rfl
  have f0 := beqn n0
  have f1 := beqn n1
  have f2 : (mn == -1) = false := beqn (by omega)
  have f6 : (mn != mn) = false := by simp
  have hIt := itoa_any (mn) (by omega) (by omega)
  have hl := dec_len (mn) (by omega)
  have hs := bs_size (dec (mn))
  unfold ItoaIs at hIt
  have EE : Hid (bs (txt (nthT l 0)) ++ (⟨#[123]⟩ : ByteArray) ++ bs (dec (mn)) ++ (⟨#[125]⟩ : ByteArray) = bs (par (!true) (txt (nthT l 0)) ++ ([123] ++ dec mn ++ [125]))) := by
    show _ = _
    have e1 : par (!true) (txt (nthT l 0)) = txt (nthT l 0) := rfl
    rw [e1]
    simp only [← bs_append, ByteArray.append_assoc]
    rfl
  rw [← EE.out]
  have z0 : ¬ 9223372036854775807 < (txt (nthT l 0)).length + 1 := by omega
  have z1 : ¬ 9223372036854775807 < (txt (nthT l 0)).length + 1 + (dec (mn)).length := by omega
  have z2 : ¬ 9223372036854775807 < (txt (nthT l 0)).length + 1 + (dec (mn)).length + 1 := by omega
  clear EE hr he hlen hI hk hcells hkid hv2 ih hb0 hkd
  unfold TxIs at *
  generalize txt (nthT l 0) = tl at *
  generalize bs tl = ts at *
  generalize nthT l 0 = x at *
  generalize dec (mn) = p at *
  generalize bs p = t1 at *
  simp only [Nat.zero_mul, Nat.add_zero] at k0 k1 k2 k3 k4 k5 k6 k7
  go_enter Tryd.func16, Tryd.ntmps16
  go_wp2_with (first | (go_at_call 16; (with_reducible refine hcall.mono ?_); rintro e w1 ⟨rfl, b1⟩; have hbw := HB.out w1 b1; obtain ⟨d0, d1, d2, d3, d4, d5, d6, d7⟩ := hbw.1.cells; simp only [Tr.kind, Tr.min, Tr.max] at d0 d5 d6 d7; obtain ⟨m0, m1, m2, m3, m4, m5, m6, m7⟩ := hbw.2; simp only [Nat.zero_mul, Nat.add_zero] at m0) | (go_at_call 30; go_loud ((with_reducible refine (hIt _).mono ?_); rintro e w2 ⟨rfl, hw2⟩; obtain rfl := hw2.symm)))
  go_ret
  exact ⟨rfl, chain B0 b1⟩
set_option maxHeartbeats 4000000 in
set_option maxRecDepth 100000 in
theorem tr6ap (q : Q4) (l : List Tr) (mx : Int) (h0 : 0 ≤ mx) (h20 : mx ≤ 20) (n0 : ¬ mx = 0) (n1 : ¬ mx = 1) (h1 : l.length = 1) (hkd : decide ((nthT l 0).kind = 1) = false) (ih : TxIs (nthT l 0)) : TxIs (.node 4 q (0) (mx) l) := by
  intro v w hI hlen
  obtain ⟨o, cap, b', off, vs, rfl, hcap, hk⟩ := hI.form
  simp only [Tr.kids] at hcap hk ⊢
  simp only [Tr.kind, Tr.set, Tr.min, Tr.max]
  have hr : timesT (0) (mx) = [123] ++ dec 0 ++ [44] ++ dec mx ++ [125] := by unfold timesT; rw [if_neg (by omega), if_neg (by omega), if_neg (by omega), if_neg (by omega), if_neg (by omega)]; simp
  have he : txt (.node 4 q (0) (mx) l) = par (!decide ((nthT l 0).kind = 1)) (txt (nthT l 0)) ++ timesT (0) (mx) := by
    rw [txt_eq]
    match l, h1 with
    | [x], _ => rfl
  rw [he, hkd, hr] at hlen ⊢
  obtain ⟨rfl, hcm, hbl, hbB, hcells, hkid⟩ := hk 0 (by omega)
  rw [h1]
  have B0 : Below w.heap.size w (w.alloc (.cells #[.int .i64 4, .int .u64 q.a, .int .u64 q.b, .int .u64 q.c, .int .u64 q.d, .int .i64 (0), .int .i64 (mx), .slice (some ⟨b', off, none⟩) 1 cap] 28)) := below_alloc _ _
  have hb0 : Box (w.alloc (.cells #[.int .i64 4, .int .u64 q.a, .int .u64 q.b, .int .u64 q.c, .int .u64 q.d, .int .i64 (0), .int .i64 (mx), .slice (some ⟨b', off, none⟩) 1 cap] 28)) w.heap.size (.node 4 q (0) (mx) l) (.slice (some ⟨b', off, none⟩) 1 cap) := box_new w (.node 4 q (0) (mx) l) _
  have c := hb0.cells
  obtain ⟨c0, c1, c2, c3, c4, c5, c6, c7⟩ := c
  simp only [Tr.kind, Tr.set, Tr.min, Tr.max] at c0 c1 c2 c3 c4 c5 c6 c7
  have hkid2 := hkid.later B0
  have hcells2 : Cells (w.alloc (.cells #[.int .i64 4, .int .u64 q.a, .int .u64 q.b, .int .u64 q.c, .int .u64 q.d, .int .i64 (0), .int .i64 (mx), .slice (some ⟨b', off, none⟩) 1 cap] 28)) b' (off + 0 * 8) (nthT l 0) (vs 0) := cells_old hcells hbl B0
  obtain ⟨o2, n2, cap2, hv2⟩ := hkid.shape
  rw [hv2] at hcells2 hkid2
  obtain ⟨k0, k1, k2, k3, k4, k5, k6, k7⟩ := hcells2
  have hst := bs_size (txt (nthT l 0))
  have hn0 : (txt (nthT l 0)).length ≤ 4294967296 := by
    have := hlen
    simp only [List.length_append, rp.par] at this
    simp at this
    omega
  have hcall := ih (.slice o2 n2 cap2) (w.alloc (.cells #[.int .i64 4, .int .u64 q.a, .int .u64 q.b, .int .u64 q.c, .int .u64 q.d, .int .i64 (0), .int .i64 (mx), .slice (some ⟨b', off, none⟩) 1 cap] 28)) hkid2 hn0
  have HB := (show Hid (∀ W, Below (w.alloc (.cells #[.int .i64 4, .int .u64 q.a, .int .u64 q.b, .int .u64 q.c, .int .u64 q.d, .int .i64 (0), .int .i64 (mx), .slice (some ⟨b', off, none⟩) 1 cap] 28)).heap.size (w.alloc (.cells #[.int .i64 4, .int .u64 q.a, .int .u64 q.b, .int .u64 q.c, .int .u64 q.d, .int .i64 (0), .int .i64 (mx), .slice (some ⟨b', off, none⟩) 1 cap] 28)) W → Box W w.heap.size (.node 4 q (0) (mx) l) (.slice (some ⟨b', off, none⟩) 1 cap) ∧ Cells W b' (off + 0 * 8) (nthT l 0) (.slice o2 n2 cap2)) from fun W h => ⟨hb0.below h, by
    have := (cells_old hcells hbl B0)
    rw [hv2] at this
    exact cells_old this (by simp; omega) h⟩)
  have hkk : ((nthT l 0).kind != 1) = !false := by rw [← hkd]; rfl
  have f0 := beqn n0
  have f1 := beqn n1
  have f2 : (mx == -1) = false := beqn (by omega)
  have f6 : (mx != 0) = true := by simpa using n0
  have hIt := itoa_any (0) (by omega) (by omega)
  have hl := dec_len (0) (by omega)
  have hs := bs_size (dec (0))
  unfold ItoaIs at hIt
  have hJt := itoa_any (mx) (by omega) (by omega)
  have hl2 := dec_len (mx) (by omega)
  have hs2 := bs_size (dec (mx))
  unfold ItoaIs at hJt
  have EE : Hid (((⟨#[40]⟩ : ByteArray) ++ bs (txt (nthT l 0)) ++ ⟨#[41]⟩) ++ (⟨#[123]⟩ : ByteArray) ++ bs (dec (0)) ++ (⟨#[44]⟩ : ByteArray) ++ bs (dec (mx)) ++ (⟨#[125]⟩ : ByteArray) = bs (par (!false) (txt (nthT l 0)) ++ ([123] ++ dec 0 ++ [44] ++ dec mx ++ [125]))) := by
    show _ = _
    have e1 : par (!false) (txt (nthT l 0)) = [40] ++ txt (nthT l 0) ++ [41] := rfl
    rw [e1]
    simp only [← bs_append, ByteArray.append_assoc]
    rfl
  rw [← EE.out]
  have z0 : ¬ 9223372036854775807 < 1 + (txt (nthT l 0)).length := by omega
  have z1 : ¬ 9223372036854775807 < 1 + (txt (nthT l 0)).length + 1 := by omega
  have z2 : ¬ 9223372036854775807 < 1 + (txt (nthT l 0)).length + 1 + 1 := by omega
  have z3 : ¬ 9223372036854775807 < 1 + (txt (nthT l 0)).length + 1 + 1 + (dec (0)).length := by omega
  have z4 : ¬ 9223372036854775807 < 1 + (txt (nthT l 0)).length + 1 + 1 + (dec (0)).length + 1 := by omega
  have z5 : ¬ 9223372036854775807 < 1 + (txt (nthT l 0)).length + 1 + 1 + (dec (0)).length + 1 + (dec (mx)).length := by omega
  have z6 : ¬ 9223372036854775807 < 1 + (txt (nthT l 0)).length + 1 + 1 + (dec (0)).length + 1 + (dec (mx)).length + 1 := by omega
  clear EE hr he hlen hI hk hcells hkid hv2 ih hb0 hkd
  unfold TxIs at *
  generalize txt (nthT l 0) = tl at *
  generalize bs tl = ts at *
  generalize nthT l 0 = x at *
  generalize dec (0) = p at *
  generalize dec (mx) = p2 at *
  generalize bs p2 = t2 at *
  generalize bs p = t1 at *
  simp only [Nat.zero_mul, Nat.add_zero] at k0 k1 k2 k3 k4 k5 k6 k7
  go_enter Tryd.func16, Tryd.ntmps16
  go_wp2_with (first | (go_at_call 16; (with_reducible refine hcall.mono ?_); rintro e w1 ⟨rfl, b1⟩; have hbw := HB.out w1 b1; obtain ⟨d0, d1, d2, d3, d4, d5, d6, d7⟩ := hbw.1.cells; simp only [Tr.kind, Tr.min, Tr.max] at d0 d5 d6 d7; obtain ⟨m0, m1, m2, m3, m4, m5, m6, m7⟩ := hbw.2; simp only [Nat.zero_mul, Nat.add_zero] at m0) | (go_at_call 30; go_loud ((with_reducible refine (hIt _).mono ?_); rintro e w2 ⟨rfl, hw2⟩; obtain rfl := hw2.symm)) | (go_at_call 30; (with_reducible refine (hJt _).mono ?_); rintro e w3 ⟨rfl, hw3⟩; obtain rfl := hw3.symm))
  go_ret
  exact ⟨rfl, chain B0 b1⟩
set_option maxHeartbeats 4000000 in
set_option maxRecDepth 100000 in
theorem tr6an (q : Q4) (l : List Tr) (mx : Int) (h0 : 0 ≤ mx) (h20 : mx ≤ 20) (n0 : ¬ mx = 0) (n1 : ¬ mx = 1) (h1 : l.length = 1) (hkd : decide ((nthT l 0).kind = 1) = true) (ih : TxIs (nthT l 0)) : TxIs (.node 4 q (0) (mx) l) := by
  intro v w hI hlen
  obtain ⟨o, cap, b', off, vs, rfl, hcap, hk⟩ := hI.form
  simp only [Tr.kids] at hcap hk ⊢
  simp only [Tr.kind, Tr.set, Tr.min, Tr.max]
  have hr : timesT (0) (mx) = [123] ++ dec 0 ++ [44] ++ dec mx ++ [125] := by unfold timesT; rw [if_neg (by omega), if_neg (by omega), if_neg (by omega), if_neg (by omega), if_neg (by omega)]; simp
  have he : txt (.node 4 q (0) (mx) l) = par (!decide ((nthT l 0).kind = 1)) (txt (nthT l 0)) ++ timesT (0) (mx) := by
    rw [txt_eq]
    match l, h1 with
    | [x], _ => rfl
  rw [he, hkd, hr] at hlen ⊢
  obtain ⟨rfl, hcm, hbl, hbB, hcells, hkid⟩ := hk 0 (by omega)
  rw [h1]
  have B0 : Below w.heap.size w (w.alloc (.cells #[.int .i64 4, .int .u64 q.a, .int .u64 q.b, .int .u64 q.c, .int .u64 q.d, .int .i64 (0), .int .i64 (mx), .slice (some ⟨b', off, none⟩) 1 cap] 28)) := below_alloc _ _
  have hb0 : Box (w.alloc (.cells #[.int .i64 4, .int .u64 q.a, .int .u64 q.b, .int .u64 q.c, .int .u64 q.d, .int .i64 (0), .int .i64 (mx), .slice (some ⟨b', off, none⟩) 1 cap] 28)) w.heap.size (.node 4 q (0) (mx) l) (.slice (some ⟨b', off, none⟩) 1 cap) := box_new w (.node 4 q (0) (mx) l) _
  have c := hb0.cells
  obtain ⟨c0, c1, c2, c3, c4, c5, c6, c7⟩ := c
  simp only [Tr.kind, Tr.set, Tr.min, Tr.max] at c0 c1 c2 c3 c4 c5 c6 c7
  have hkid2 := hkid.later B0
  have hcells2 : Cells (w.alloc (.cells #[.int .i64 4, .int .u64 q.a, .int .u64 q.b, .int .u64 q.c, .int .u64 q.d, .int .i64 (0), .int .i64 (mx), .slice (some ⟨b', off, none⟩) 1 cap] 28)) b' (off + 0 * 8) (nthT l 0) (vs 0) := cells_old hcells hbl B0
  obtain ⟨o2, n2, cap2, hv2⟩ := hkid.shape
  rw [hv2] at hcells2 hkid2
  obtain ⟨k0, k1, k2, k3, k4, k5, k6, k7⟩ := hcells2
  have hst := bs_size (txt (nthT l 0))
  have hn0 : (txt (nthT l 0)).length ≤ 4294967296 := by
    have := hlen
    simp only [List.length_append, rp.par] at this
    simp at this
    omega
  have hcall := ih (.slice o2 n2 cap2) (w.alloc (.cells #[.int .i64 4, .int .u64 q.a, .int .u64 q.b, .int .u64 q.c, .int .u64 q.d, .int .i64 (0), .int .i64 (mx), .slice (some ⟨b', off, none⟩) 1 cap] 28)) hkid2 hn0
  have HB := (show Hid (∀ W, Below (w.alloc (.cells #[.int .i64 4, .int .u64 q.a, .int .u64 q.b, .int .u64 q.c, .int .u64 q.d, .int .i64 (0), .int .i64 (mx), .slice (some ⟨b', off, none⟩) 1 cap] 28)).heap.size (w.alloc (.cells #[.int .i64 4, .int .u64 q.a, .int .u64 q.b, .int .u64 q.c, .int .u64 q.d, .int .i64 (0), .int .i64 (mx), .slice (some ⟨b', off, none⟩) 1 cap] 28)) W → Box W w.heap.size (.node 4 q (0) (mx) l) (.slice (some ⟨b', off, none⟩) 1 cap) ∧ Cells W b' (off + 0 * 8) (nthT l 0) (.slice o2 n2 cap2)) from fun W h => ⟨hb0.below h, by
    have := (cells_old hcells hbl B0)
    rw [hv2] at this
    exact cells_old this (by simp; omega) h⟩)
  have hkk : ((nthT l 0).kind != 1) = !true := by rw [← hkd]; rfl
  have f0 := beqn n0
  have f1 := beqn n1
  have f2 : (mx == -1) = false := beqn (by omega)
  have f6 : (mx != 0) = true := by simpa using n0
  have hIt := itoa_any (0) (by omega) (by omega)
  have hl := dec_len (0) (by omega)
  have hs := bs_size (dec (0))
  unfold ItoaIs at hIt
  have hJt := itoa_any (mx) (by omega) (by omega)
  have hl2 := dec_len (mx) (by omega)
  have hs2 := bs_size (dec (mx))
  unfold ItoaIs at hJt
  have EE : Hid (bs (txt (nthT l 0)) ++ (⟨#[123]⟩ : ByteArray) ++ bs (dec (0)) ++ (⟨#[44]⟩ : ByteArray) ++ bs (dec (mx)) ++ (⟨#[125]⟩ : ByteArray) = bs (par (!true) (txt (nthT l 0)) ++ ([123] ++ dec 0 ++ [44] ++ dec mx ++ [125]))) := by
    show _ = _
    have e1 : par (!true) (txt (nthT l 0)) = txt (nthT l 0) := rfl
    rw [e1]
    simp only [← bs_append, ByteArray.append_assoc]
    rfl
  rw [← EE.out]
  have z0 : ¬ 9223372036854775807 < (txt (nthT l 0)).length + 1 := by omega
  have z1 : ¬ 9223372036854775807 < (txt (nthT l 0)).length + 1 + (dec (0)).length := by omega
  have z2 : ¬ 9223372036854775807 < (txt (nthT l 0)).length + 1 + (dec (0)).length + 1 := by omega
  have z3 : ¬ 9223372036854775807 < (txt (nthT l 0)).length + 1 + (dec (0)).length + 1 + (dec (mx)).length := by omega
  have z4 : ¬ 9223372036854775807 < (txt (nthT l 0)).length + 1 + (dec (0)).length + 1 + (dec (mx)).length + 1 := by omega
  clear EE hr he hlen hI hk hcells hkid hv2 ih hb0 hkd
  unfold TxIs at *
  generalize txt (nthT l 0) = tl at *
  generalize bs tl = ts at *
  generalize nthT l 0 = x at *
  generalize dec (0) = p at *
  generalize dec (mx) = p2 at *
  generalize bs p2 = t2 at *
  generalize bs p = t1 at *
  simp only [Nat.zero_mul, Nat.add_zero] at k0 k1 k2 k3 k4 k5 k6 k7
  go_enter Tryd.func16, Tryd.ntmps16
  go_wp2_with (first | (go_at_call 16; (with_reducible refine hcall.mono ?_); rintro e w1 ⟨rfl, b1⟩; have hbw := HB.out w1 b1; obtain ⟨d0, d1, d2, d3, d4, d5, d6, d7⟩ := hbw.1.cells; simp only [Tr.kind, Tr.min, Tr.max] at d0 d5 d6 d7; obtain ⟨m0, m1, m2, m3, m4, m5, m6, m7⟩ := hbw.2; simp only [Nat.zero_mul, Nat.add_zero] at m0) | (go_at_call 30; go_loud ((with_reducible refine (hIt _).mono ?_); rintro e w2 ⟨rfl, hw2⟩; obtain rfl := hw2.symm)) | (go_at_call 30; (with_reducible refine (hJt _).mono ?_); rintro e w3 ⟨rfl, hw3⟩; obtain rfl := hw3.symm))
  go_ret
  exact ⟨rfl, chain B0 b1⟩
set_option maxHeartbeats 4000000 in
set_option maxRecDepth 100000 in
theorem tr6bp (q : Q4) (l : List Tr) (mx : Int) (h0 : 0 ≤ mx) (h20 : mx ≤ 20) (n1 : ¬ mx = 1) (h1 : l.length = 1) (hkd : decide ((nthT l 0).kind = 1) = false) (ih : TxIs (nthT l 0)) : TxIs (.node 4 q (1) (mx) l) := by
  intro v w hI hlen
  obtain ⟨o, cap, b', off, vs, rfl, hcap, hk⟩ := hI.form
  simp only [Tr.kids] at hcap hk ⊢
  simp only [Tr.kind, Tr.set, Tr.min, Tr.max]
  have hr : timesT (1) (mx) = [123] ++ dec 1 ++ [44] ++ dec mx ++ [125] := by unfold timesT; rw [if_neg (by omega), if_neg (by omega), if_neg (by omega), if_neg (by omega), if_neg (by omega)]; simp
  have he : txt (.node 4 q (1) (mx) l) = par (!decide ((nthT l 0).kind = 1)) (txt (nthT l 0)) ++ timesT (1) (mx) := by
    rw [txt_eq]
    match l, h1 with
    | [x], _ => rfl
  rw [he, hkd, hr] at hlen ⊢
  obtain ⟨rfl, hcm, hbl, hbB, hcells, hkid⟩ := hk 0 (by omega)
  rw [h1]
  have B0 : Below w.heap.size w (w.alloc (.cells #[.int .i64 4, .int .u64 q.a, .int .u64 q.b, .int .u64 q.c, .int .u64 q.d, .int .i64 (1), .int .i64 (mx), .slice (some ⟨b', off, none⟩) 1 cap] 28)) := below_alloc _ _
  have hb0 : Box (w.alloc (.cells #[.int .i64 4, .int .u64 q.a, .int .u64 q.b, .int .u64 q.c, .int .u64 q.d, .int .i64 (1), .int .i64 (mx), .slice (some ⟨b', off, none⟩) 1 cap] 28)) w.heap.size (.node 4 q (1) (mx) l) (.slice (some ⟨b', off, none⟩) 1 cap) := box_new w (.node 4 q (1) (mx) l) _
  have c := hb0.cells
  obtain ⟨c0, c1, c2, c3, c4, c5, c6, c7⟩ := c
  simp only [Tr.kind, Tr.set, Tr.min, Tr.max] at c0 c1 c2 c3 c4 c5 c6 c7
  have hkid2 := hkid.later B0
  have hcells2 : Cells (w.alloc (.cells #[.int .i64 4, .int .u64 q.a, .int .u64 q.b, .int .u64 q.c, .int .u64 q.d, .int .i64 (1), .int .i64 (mx), .slice (some ⟨b', off, none⟩) 1 cap] 28)) b' (off + 0 * 8) (nthT l 0) (vs 0) := cells_old hcells hbl B0
  obtain ⟨o2, n2, cap2, hv2⟩ := hkid.shape
  rw [hv2] at hcells2 hkid2
  obtain ⟨k0, k1, k2, k3, k4, k5, k6, k7⟩ := hcells2
  have hst := bs_size (txt (nthT l 0))
  have hn0 : (txt (nthT l 0)).length ≤ 4294967296 := by
    have := hlen
    simp only [List.length_append, rp.par] at this
    simp at this
    omega
  have hcall := ih (.slice o2 n2 cap2) (w.alloc (.cells #[.int .i64 4, .int .u64 q.a, .int .u64 q.b, .int .u64 q.c, .int .u64 q.d, .int .i64 (1), .int .i64 (mx), .slice (some ⟨b', off, none⟩) 1 cap] 28)) hkid2 hn0
  have HB := (show Hid (∀ W, Below (w.alloc (.cells #[.int .i64 4, .int .u64 q.a, .int .u64 q.b, .int .u64 q.c, .int .u64 q.d, .int .i64 (1), .int .i64 (mx), .slice (some ⟨b', off, none⟩) 1 cap] 28)).heap.size (w.alloc (.cells #[.int .i64 4, .int .u64 q.a, .int .u64 q.b, .int .u64 q.c, .int .u64 q.d, .int .i64 (1), .int .i64 (mx), .slice (some ⟨b', off, none⟩) 1 cap] 28)) W → Box W w.heap.size (.node 4 q (1) (mx) l) (.slice (some ⟨b', off, none⟩) 1 cap) ∧ Cells W b' (off + 0 * 8) (nthT l 0) (.slice o2 n2 cap2)) from fun W h => ⟨hb0.below h, by
    have := (cells_old hcells hbl B0)
    rw [hv2] at this
    exact cells_old this (by simp; omega) h⟩)
  have hkk : ((nthT l 0).kind != 1) = !false := by rw [← hkd]; rfl
  have f1 := beqn n1
  have f2 : (mx == -1) = false := beqn (by omega)
  have f6 : (mx != 1) = true := by simpa using n1
  have hIt := itoa_any (1) (by omega) (by omega)
  have hl := dec_len (1) (by omega)
  have hs := bs_size (dec (1))
  unfold ItoaIs at hIt
  have hJt := itoa_any (mx) (by omega) (by omega)
  have hl2 := dec_len (mx) (by omega)
  have hs2 := bs_size (dec (mx))
  unfold ItoaIs at hJt
  have EE : Hid (((⟨#[40]⟩ : ByteArray) ++ bs (txt (nthT l 0)) ++ ⟨#[41]⟩) ++ (⟨#[123]⟩ : ByteArray) ++ bs (dec (1)) ++ (⟨#[44]⟩ : ByteArray) ++ bs (dec (mx)) ++ (⟨#[125]⟩ : ByteArray) = bs (par (!false) (txt (nthT l 0)) ++ ([123] ++ dec 1 ++ [44] ++ dec mx ++ [125]))) := by
    show _ = _
    have e1 : par (!false) (txt (nthT l 0)) = [40] ++ txt (nthT l 0) ++ [41] := rfl
    rw [e1]
    simp only [← bs_append, ByteArray.append_assoc]
    rfl
  rw [← EE.out]
  have z0 : ¬ 9223372036854775807 < 1 + (txt (nthT l 0)).length := by omega
  have z1 : ¬ 9223372036854775807 < 1 + (txt (nthT l 0)).length + 1 := by omega
  have z2 : ¬ 9223372036854775807 < 1 + (txt (nthT l 0)).length + 1 + 1 := by omega
  have z3 : ¬ 9223372036854775807 < 1 + (txt (nthT l 0)).length + 1 + 1 + (dec (1)).length := by omega
  have z4 : ¬ 9223372036854775807 < 1 + (txt (nthT l 0)).length + 1 + 1 + (dec (1)).length + 1 := by omega
  have z5 : ¬ 9223372036854775807 < 1 + (txt (nthT l 0)).length + 1 + 1 + (dec (1)).length + 1 + (dec (mx)).length := by omega
  have z6 : ¬ 9223372036854775807 < 1 + (txt (nthT l 0)).length + 1 + 1 + (dec (1)).length + 1 + (dec (mx)).length + 1 := by omega
  clear EE hr he hlen hI hk hcells hkid hv2 ih hb0 hkd
  unfold TxIs at *
  generalize txt (nthT l 0) = tl at *
  generalize bs tl = ts at *
  generalize nthT l 0 = x at *
  generalize dec (1) = p at *
  generalize dec (mx) = p2 at *
  generalize bs p2 = t2 at *
  generalize bs p = t1 at *
  simp only [Nat.zero_mul, Nat.add_zero] at k0 k1 k2 k3 k4 k5 k6 k7
  go_enter Tryd.func16, Tryd.ntmps16
  go_wp2_with (first | (go_at_call 16; (with_reducible refine hcall.mono ?_); rintro e w1 ⟨rfl, b1⟩; have hbw := HB.out w1 b1; obtain ⟨d0, d1, d2, d3, d4, d5, d6, d7⟩ := hbw.1.cells; simp only [Tr.kind, Tr.min, Tr.max] at d0 d5 d6 d7; obtain ⟨m0, m1, m2, m3, m4, m5, m6, m7⟩ := hbw.2; simp only [Nat.zero_mul, Nat.add_zero] at m0) | (go_at_call 30; go_loud ((with_reducible refine (hIt _).mono ?_); rintro e w2 ⟨rfl, hw2⟩; obtain rfl := hw2.symm)) | (go_at_call 30; (with_reducible refine (hJt _).mono ?_); rintro e w3 ⟨rfl, hw3⟩; obtain rfl := hw3.symm))
  go_ret
  exact ⟨rfl, chain B0 b1⟩
set_option maxHeartbeats 4000000 in
set_option maxRecDepth 100000 in
theorem tr6bn (q : Q4) (l : List Tr) (mx : Int) (h0 : 0 ≤ mx) (h20 : mx ≤ 20) (n1 : ¬ mx = 1) (h1 : l.length = 1) (hkd : decide ((nthT l 0).kind = 1) = true) (ih : TxIs (nthT l 0)) : TxIs (.node 4 q (1) (mx) l) := by
  intro v w hI hlen
  obtain ⟨o, cap, b', off, vs, rfl, hcap, hk⟩ := hI.form
  simp only [Tr.kids] at hcap hk ⊢
  simp only [Tr.kind, Tr.set, Tr.min, Tr.max]
  have hr : timesT (1) (mx) = [123] ++ dec 1 ++ [44] ++ dec mx ++ [125] := by unfold timesT; rw [if_neg (by omega), if_neg (by omega), if_neg (by omega), if_neg (by omega), if_neg (by omega)]; simp
  have he : txt (.node 4 q (1) (mx) l) = par (!decide ((nthT l 0).kind = 1)) (txt (nthT l 0)) ++ timesT (1) (mx) := by
    rw [txt_eq]
    match l, h1 with
    | [x], _ => rfl
  rw [he, hkd, hr] at hlen ⊢
  obtain ⟨rfl, hcm, hbl, hbB, hcells, hkid⟩ := hk 0 (by omega)
  rw [h1]
  have B0 : Below w.heap.size w (w.alloc (.cells #[.int .i64 4, .int .u64 q.a, .int .u64 q.b, .int .u64 q.c, .int .u64 q.d, .int .i64 (1), .int .i64 (mx), .slice (some ⟨b', off, none⟩) 1 cap] 28)) := below_alloc _ _
  have hb0 : Box (w.alloc (.cells #[.int .i64 4, .int .u64 q.a, .int .u64 q.b, .int .u64 q.c, .int .u64 q.d, .int .i64 (1), .int .i64 (mx), .slice (some ⟨b', off, none⟩) 1 cap] 28)) w.heap.size (.node 4 q (1) (mx) l) (.slice (some ⟨b', off, none⟩) 1 cap) := box_new w (.node 4 q (1) (mx) l) _
  have c := hb0.cells
  obtain ⟨c0, c1, c2, c3, c4, c5, c6, c7⟩ := c
  simp only [Tr.kind, Tr.set, Tr.min, Tr.max] at c0 c1 c2 c3 c4 c5 c6 c7
  have hkid2 := hkid.later B0
  have hcells2 : Cells (w.alloc (.cells #[.int .i64 4, .int .u64 q.a, .int .u64 q.b, .int .u64 q.c, .int .u64 q.d, .int .i64 (1), .int .i64 (mx), .slice (some ⟨b', off, none⟩) 1 cap] 28)) b' (off + 0 * 8) (nthT l 0) (vs 0) := cells_old hcells hbl B0
  obtain ⟨o2, n2, cap2, hv2⟩ := hkid.shape
  rw [hv2] at hcells2 hkid2
  obtain ⟨k0, k1, k2, k3, k4, k5, k6, k7⟩ := hcells2
  have hst := bs_size (txt (nthT l 0))
  have hn0 : (txt (nthT l 0)).length ≤ 4294967296 := by
    have := hlen
    simp only [List.length_append, rp.par] at this
    simp at this
    omega
  have hcall := ih (.slice o2 n2 cap2) (w.alloc (.cells #[.int .i64 4, .int .u64 q.a, .int .u64 q.b, .int .u64 q.c, .int .u64 q.d, .int .i64 (1), .int .i64 (mx), .slice (some ⟨b', off, none⟩) 1 cap] 28)) hkid2 hn0
  have HB := (show Hid (∀ W, Below (w.alloc (.cells #[.int .i64 4, .int .u64 q.a, .int .u64 q.b, .int .u64 q.c, .int .u64 q.d, .int .i64 (1), .int .i64 (mx), .slice (some ⟨b', off, none⟩) 1 cap] 28)).heap.size (w.alloc (.cells #[.int .i64 4, .int .u64 q.a, .int .u64 q.b, .int .u64 q.c, .int .u64 q.d, .int .i64 (1), .int .i64 (mx), .slice (some ⟨b', off, none⟩) 1 cap] 28)) W → Box W w.heap.size (.node 4 q (1) (mx) l) (.slice (some ⟨b', off, none⟩) 1 cap) ∧ Cells W b' (off + 0 * 8) (nthT l 0) (.slice o2 n2 cap2)) from fun W h => ⟨hb0.below h, by
    have := (cells_old hcells hbl B0)
    rw [hv2] at this
    exact cells_old this (by simp; omega) h⟩)
  have hkk : ((nthT l 0).kind != 1) = !true := by rw [← hkd]; rfl
  have f1 := beqn n1
  have f2 : (mx == -1) = false := beqn (by omega)
  have f6 : (mx != 1) = true := by simpa using n1
  have hIt := itoa_any (1) (by omega) (by omega)
  have hl := dec_len (1) (by omega)
  have hs := bs_size (dec (1))
  unfold ItoaIs at hIt
  have hJt := itoa_any (mx) (by omega) (by omega)
  have hl2 := dec_len (mx) (by omega)
  have hs2 := bs_size (dec (mx))
  unfold ItoaIs at hJt
  have EE : Hid (bs (txt (nthT l 0)) ++ (⟨#[123]⟩ : ByteArray) ++ bs (dec (1)) ++ (⟨#[44]⟩ : ByteArray) ++ bs (dec (mx)) ++ (⟨#[125]⟩ : ByteArray) = bs (par (!true) (txt (nthT l 0)) ++ ([123] ++ dec 1 ++ [44] ++ dec mx ++ [125]))) := by
    show _ = _
    have e1 : par (!true) (txt (nthT l 0)) = txt (nthT l 0) := rfl
    rw [e1]
    simp only [← bs_append, ByteArray.append_assoc]
    rfl
  rw [← EE.out]
  have z0 : ¬ 9223372036854775807 < (txt (nthT l 0)).length + 1 := by omega
  have z1 : ¬ 9223372036854775807 < (txt (nthT l 0)).length + 1 + (dec (1)).length := by omega
  have z2 : ¬ 9223372036854775807 < (txt (nthT l 0)).length + 1 + (dec (1)).length + 1 := by omega
  have z3 : ¬ 9223372036854775807 < (txt (nthT l 0)).length + 1 + (dec (1)).length + 1 + (dec (mx)).length := by omega
  have z4 : ¬ 9223372036854775807 < (txt (nthT l 0)).length + 1 + (dec (1)).length + 1 + (dec (mx)).length + 1 := by omega
  clear EE hr he hlen hI hk hcells hkid hv2 ih hb0 hkd
  unfold TxIs at *
  generalize txt (nthT l 0) = tl at *
  generalize bs tl = ts at *
  generalize nthT l 0 = x at *
  generalize dec (1) = p at *
  generalize dec (mx) = p2 at *
  generalize bs p2 = t2 at *
  generalize bs p = t1 at *
  simp only [Nat.zero_mul, Nat.add_zero] at k0 k1 k2 k3 k4 k5 k6 k7
  go_enter Tryd.func16, Tryd.ntmps16
  go_wp2_with (first | (go_at_call 16; (with_reducible refine hcall.mono ?_); rintro e w1 ⟨rfl, b1⟩; have hbw := HB.out w1 b1; obtain ⟨d0, d1, d2, d3, d4, d5, d6, d7⟩ := hbw.1.cells; simp only [Tr.kind, Tr.min, Tr.max] at d0 d5 d6 d7; obtain ⟨m0, m1, m2, m3, m4, m5, m6, m7⟩ := hbw.2; simp only [Nat.zero_mul, Nat.add_zero] at m0) | (go_at_call 30; go_loud ((with_reducible refine (hIt _).mono ?_); rintro e w2 ⟨rfl, hw2⟩; obtain rfl := hw2.symm)) | (go_at_call 30; (with_reducible refine (hJt _).mono ?_); rintro e w3 ⟨rfl, hw3⟩; obtain rfl := hw3.symm))
  go_ret
  exact ⟨rfl, chain B0 b1⟩
set_option maxHeartbeats 4000000 in
set_option maxRecDepth 100000 in
theorem tr6cp (q : Q4) (l : List Tr) (mn : Int) (g0 : 0 ≤ mn) (g20 : mn ≤ 20) (m0 : ¬ mn = 0) (m1 : ¬ mn = 1) (mx : Int) (h0 : 0 ≤ mx) (h20 : mx ≤ 20) (nm : ¬ mx = mn) (x1 : ¬ mx = 1) (h1 : l.length = 1) (hkd : decide ((nthT l 0).kind = 1) = false) (ih : TxIs (nthT l 0)) : TxIs (.node 4 q (mn) (mx) l) := by
  intro v w hI hlen
  obtain ⟨o, cap, b', off, vs, rfl, hcap, hk⟩ := hI.form
  simp only [Tr.kids] at hcap hk ⊢
  simp only [Tr.kind, Tr.set, Tr.min, Tr.max]
  have hr : timesT (mn) (mx) = [123] ++ dec mn ++ [44] ++ dec mx ++ [125] := by unfold timesT; rw [if_neg (by omega), if_neg (by omega), if_neg (by omega), if_neg (by omega), if_neg (by omega)]; simp
  have he : txt (.node 4 q (mn) (mx) l) = par (!decide ((nthT l 0).kind = 1)) (txt (nthT l 0)) ++ timesT (mn) (mx) := by
    rw [txt_eq]
    match l, h1 with
    | [x], _ => rfl
  rw [he, hkd, hr] at hlen ⊢
  obtain ⟨rfl, hcm, hbl, hbB, hcells, hkid⟩ := hk 0 (by omega)
  rw [h1]
  have B0 : Below w.heap.size w (w.alloc (.cells #[.int .i64 4, .int .u64 q.a, .int .u64 q.b, .int .u64 q.c, .int .u64 q.d, .int .i64 (mn), .int .i64 (mx), .slice (some ⟨b', off, none⟩) 1 cap] 28)) := below_alloc _ _
  have hb0 : Box (w.alloc (.cells #[.int .i64 4, .int .u64 q.a, .int .u64 q.b, .int .u64 q.c, .int .u64 q.d, .int .i64 (mn), .int .i64 (mx), .slice (some ⟨b', off, none⟩) 1 cap] 28)) w.heap.size (.node 4 q (mn) (mx) l) (.slice (some ⟨b', off, none⟩) 1 cap) := box_new w (.node 4 q (mn) (mx) l) _
  have c := hb0.cells
  obtain ⟨c0, c1, c2, c3, c4, c5, c6, c7⟩ := c
  simp only [Tr.kind, Tr.set, Tr.min, Tr.max] at c0 c1 c2 c3 c4 c5 c6 c7
  have hkid2 := hkid.later B0
  have hcells2 : Cells (w.alloc (.cells #[.int .i64 4, .int .u64 q.a, .int .u64 q.b, .int .u64 q.c, .int .u64 q.d, .int .i64 (mn), .int .i64 (mx), .slice (some ⟨b', off, none⟩) 1 cap] 28)) b' (off + 0 * 8) (nthT l 0) (vs 0) := cells_old hcells hbl B0
  obtain ⟨o2, n2, cap2, hv2⟩ := hkid.shape
  rw [hv2] at hcells2 hkid2
  obtain ⟨k0, k1, k2, k3, k4, k5, k6, k7⟩ := hcells2
  have hst := bs_size (txt (nthT l 0))
  have hn0 : (txt (nthT l 0)).length ≤ 4294967296 := by
    have := hlen
    simp only [List.length_append, rp.par] at this
    simp at this
    omega
  have hcall := ih (.slice o2 n2 cap2) (w.alloc (.cells #[.int .i64 4, .int .u64 q.a, .int .u64 q.b, .int .u64 q.c, .int .u64 q.d, .int .i64 (mn), .int .i64 (mx), .slice (some ⟨b', off, none⟩) 1 cap] 28)) hkid2 hn0
  have HB := (show Hid (∀ W, Below (w.alloc (.cells #[.int .i64 4, .int .u64 q.a, .int .u64 q.b, .int .u64 q.c, .int .u64 q.d, .int .i64 (mn), .int .i64 (mx), .slice (some ⟨b', off, none⟩) 1 cap] 28)).heap.size (w.alloc (.cells #[.int .i64 4, .int .u64 q.a, .int .u64 q.b, .int .u64 q.c, .int .u64 q.d, .int .i64 (mn), .int .i64 (mx), .slice (some ⟨b', off, none⟩) 1 cap] 28)) W → Box W w.heap.size (.node 4 q (mn) (mx) l) (.slice (some ⟨b', off, none⟩) 1 cap) ∧ Cells W b' (off + 0 * 8) (nthT l 0) (.slice o2 n2 cap2)) from fun W h => ⟨hb0.below h, by
    have := (cells_old hcells hbl B0)
    rw [hv2] at this
    exact cells_old this (by simp; omega) h⟩)
  have hkk : ((nthT l 0).kind != 1) = !false := by rw [← hkd]; rfl
  have f0 := beqn m0
  have f1 := beqn m1
  have f7 := beqn x1
  have f3 := beqn nm
  have f2 : (mx == -1) = false := beqn (by omega)
  have f6 : (mx != mn) = true := by simpa using nm
  have hIt := itoa_any (mn) (by omega) (by omega)
  have hl := dec_len (mn) (by omega)
  have hs := bs_size (dec (mn))
  unfold ItoaIs at hIt
  have hJt := itoa_any (mx) (by omega) (by omega)
  have hl2 := dec_len (mx) (by omega)
  have hs2 := bs_size (dec (mx))
  unfold ItoaIs at hJt
  have EE : Hid (((⟨#[40]⟩ : ByteArray) ++ bs (txt (nthT l 0)) ++ ⟨#[41]⟩) ++ (⟨#[123]⟩ : ByteArray) ++ bs (dec (mn)) ++ (⟨#[44]⟩ : ByteArray) ++ bs (dec (mx)) ++ (⟨#[125]⟩ : ByteArray) = bs (par (!false) (txt (nthT l 0)) ++ ([123] ++ dec mn ++ [44] ++ dec mx ++ [125]))) := by
    show _ = _
    have e1 : par (!false) (txt (nthT l 0)) = [40] ++ txt (nthT l 0) ++ [41] := rfl
    rw [e1]
    simp only [← bs_append, ByteArray.append_assoc]
    rfl
  rw [← EE.out]
  have z0 : ¬ 9223372036854775807 < 1 + (txt (nthT l 0)).length := by omega
  have z1 : ¬ 9223372036854775807 < 1 + (txt (nthT l 0)).length + 1 := by omega
  have z2 : ¬ 9223372036854775807 < 1 + (txt (nthT l 0)).length + 1 + 1 := by omega
  have z3 : ¬ 9223372036854775807 < 1 + (txt (nthT l 0)).length + 1 + 1 + (dec (mn)).length := by omega
  have z4 : ¬ 9223372036854775807 < 1 + (txt (nthT l 0)).length + 1 + 1 + (dec (mn)).length + 1 := by omega
  have z5 : ¬ 9223372036854775807 < 1 + (txt (nthT l 0)).length + 1 + 1 + (dec (mn)).length + 1 + (dec (mx)).length := by omega
  have z6 : ¬ 9223372036854775807 < 1 + (txt (nthT l 0)).length + 1 + 1 + (dec (mn)).length + 1 + (dec (mx)).length + 1 := by omega
  clear EE hr he hlen hI hk hcells hkid hv2 ih hb0 hkd
  unfold TxIs at *
  generalize txt (nthT l 0) = tl at *
  generalize bs tl = ts at *
  generalize nthT l 0 = x at *
  generalize dec (mn) = p at *
  generalize dec (mx) = p2 at *
  generalize bs p2 = t2 at *
  generalize bs p = t1 at *
  simp only [Nat.zero_mul, Nat.add_zero] at k0 k1 k2 k3 k4 k5 k6 k7
  go_enter Tryd.func16, Tryd.ntmps16
  go_wp2_with (first | (go_at_call 16; (with_reducible refine hcall.mono ?_); rintro e w1 ⟨rfl, b1⟩; have hbw := HB.out w1 b1; obtain ⟨d0, d1, d2, d3, d4, d5, d6, d7⟩ := hbw.1.cells; simp only [Tr.kind, Tr.min, Tr.max] at d0 d5 d6 d7; obtain ⟨m0, m1, m2, m3, m4, m5, m6, m7⟩ := hbw.2; simp only [Nat.zero_mul, Nat.add_zero] at m0) | (go_at_call 30; go_loud ((with_reducible refine (hIt _).mono ?_); rintro e w2 ⟨rfl, hw2⟩; obtain rfl := hw2.symm)) | (go_at_call 30; (with_reducible refine (hJt _).mono ?_); rintro e w3 ⟨rfl, hw3⟩; obtain rfl := hw3.symm))
  go_ret
  exact ⟨rfl, chain B0 b1⟩
set_option maxHeartbeats 4000000 in
set_option maxRecDepth 100000 in
theorem tr6cn (q : Q4) (l : List Tr) (mn : Int) (g0 : 0 ≤ mn) (g20 : mn ≤ 20) (m0 : ¬ mn = 0) (m1 : ¬ mn = 1) (mx : Int) (h0 : 0 ≤ mx) (h20 : mx ≤ 20) (nm : ¬ mx = mn) (x1 : ¬ mx = 1) (h1 : l.length = 1) (hkd : decide ((nthT l 0).kind = 1) = true) (ih : TxIs (nthT l 0)) : TxIs (.node 4 q (mn) (mx) l) := by
  intro v w hI hlen
  obtain ⟨o, cap, b', off, vs, rfl, hcap, hk⟩ := hI.form
  simp only [Tr.kids] at hcap hk ⊢
  simp only [Tr.kind, Tr.set, Tr.min, Tr.max]
  have hr : timesT (mn) (mx) = [123] ++ dec mn ++ [44] ++ dec mx ++ [125] := by unfold timesT; rw [if_neg (by omega), if_neg (by omega), if_neg (by omega), if_neg (by omega), if_neg (by omega)]; simp
  have he : txt (.node 4 q (mn) (mx) l) = par (!decide ((nthT l 0).kind = 1)) (txt (nthT l 0)) ++ timesT (mn) (mx) := by
    rw [txt_eq]
    match l, h1 with
    | [x], _ => rfl
  rw [he, hkd, hr] at hlen ⊢
  obtain ⟨rfl, hcm, hbl, hbB, hcells, hkid⟩ := hk 0 (by omega)
  rw [h1]
  have B0 : Below w.heap.size w (w.alloc (.cells #[.int .i64 4, .int .u64 q.a, .int .u64 q.b, .int .u64 q.c, .int .u64 q.d, .int .i64 (mn), .int .i64 (mx), .slice (some ⟨b', off, none⟩) 1 cap] 28)) := below_alloc _ _
  have hb0 : Box (w.alloc (.cells #[.int .i64 4, .int .u64 q.a, .int .u64 q.b, .int .u64 q.c, .int .u64 q.d, .int .i64 (mn), .int .i64 (mx), .slice (some ⟨b', off, none⟩) 1 cap] 28)) w.heap.size (.node 4 q (mn) (mx) l) (.slice (some ⟨b', off, none⟩) 1 cap) := box_new w (.node 4 q (mn) (mx) l) _
  have c := hb0.cells
  obtain ⟨c0, c1, c2, c3, c4, c5, c6, c7⟩ := c
  simp only [Tr.kind, Tr.set, Tr.min, Tr.max] at c0 c1 c2 c3 c4 c5 c6 c7
  have hkid2 := hkid.later B0
  have hcells2 : Cells (w.alloc (.cells #[.int .i64 4, .int .u64 q.a, .int .u64 q.b, .int .u64 q.c, .int .u64 q.d, .int .i64 (mn), .int .i64 (mx), .slice (some ⟨b', off, none⟩) 1 cap] 28)) b' (off + 0 * 8) (nthT l 0) (vs 0) := cells_old hcells hbl B0
  obtain ⟨o2, n2, cap2, hv2⟩ := hkid.shape
  rw [hv2] at hcells2 hkid2
  obtain ⟨k0, k1, k2, k3, k4, k5, k6, k7⟩ := hcells2
  have hst := bs_size (txt (nthT l 0))
  have hn0 : (txt (nthT l 0)).length ≤ 4294967296 := by
    have := hlen
    simp only [List.length_append, rp.par] at this
    simp at this
    omega
  have hcall := ih (.slice o2 n2 cap2) (w.alloc (.cells #[.int .i64 4, .int .u64 q.a, .int .u64 q.b, .int .u64 q.c, .int .u64 q.d, .int .i64 (mn), .int .i64 (mx), .slice (some ⟨b', off, none⟩) 1 cap] 28)) hkid2 hn0
  have HB := (show Hid (∀ W, Below (w.alloc (.cells #[.int .i64 4, .int .u64 q.a, .int .u64 q.b, .int .u64 q.c, .int .u64 q.d, .int .i64 (mn), .int .i64 (mx), .slice (some ⟨b', off, none⟩) 1 cap] 28)).heap.size (w.alloc (.cells #[.int .i64 4, .int .u64 q.a, .int .u64 q.b, .int .u64 q.c, .int .u64 q.d, .int .i64 (mn), .int .i64 (mx), .slice (some ⟨b', off, none⟩) 1 cap] 28)) W → Box W w.heap.size (.node 4 q (mn) (mx) l) (.slice (some ⟨b', off, none⟩) 1 cap) ∧ Cells W b' (off + 0 * 8) (nthT l 0) (.slice o2 n2 cap2)) from fun W h => ⟨hb0.below h, by
    have := (cells_old hcells hbl B0)
    rw [hv2] at this
    exact cells_old this (by simp; omega) h⟩)
  have hkk : ((nthT l 0).kind != 1) = !true := by rw [← hkd]; rfl
  have f0 := beqn m0
  have f1 := beqn m1
  have f7 := beqn x1
  have f3 := beqn nm
  have f2 : (mx == -1) = false := beqn (by omega)
  have f6 : (mx != mn) = true := by simpa using nm
  have hIt := itoa_any (mn) (by omega) (by omega)
  have hl := dec_len (mn) (by omega)
  have hs := bs_size (dec (mn))
  unfold ItoaIs at hIt
  have hJt := itoa_any (mx) (by omega) (by omega)
  have hl2 := dec_len (mx) (by omega)
  have hs2 := bs_size (dec (mx))
  unfold ItoaIs at hJt
  have EE : Hid (bs (txt (nthT l 0)) ++ (⟨#[123]⟩ : ByteArray) ++ bs (dec (mn)) ++ (⟨#[44]⟩ : ByteArray) ++ bs (dec (mx)) ++ (⟨#[125]⟩ : ByteArray) = bs (par (!true) (txt (nthT l 0)) ++ ([123] ++ dec mn ++ [44] ++ dec mx ++ [125]))) := by
    show _ = _
    have e1 : par (!true) (txt (nthT l 0)) = txt (nthT l 0) := rfl
    rw [e1]
    simp only [← bs_append, ByteArray.append_assoc]
    rfl
  rw [← EE.out]
  have z0 : ¬ 9223372036854775807 < (txt (nthT l 0)).length + 1 := by omega
  have z1 : ¬ 9223372036854775807 < (txt (nthT l 0)).length + 1 + (dec (mn)).length := by omega
  have z2 : ¬ 9223372036854775807 < (txt (nthT l 0)).length + 1 + (dec (mn)).length + 1 := by omega
  have z3 : ¬ 9223372036854775807 < (txt (nthT l 0)).length + 1 + (dec (mn)).length + 1 + (dec (mx)).length := by omega
  have z4 : ¬ 9223372036854775807 < (txt (nthT l 0)).length + 1 + (dec (mn)).length + 1 + (dec (mx)).length + 1 := by omega
  clear EE hr he hlen hI hk hcells hkid hv2 ih hb0 hkd
  unfold TxIs at *
  generalize txt (nthT l 0) = tl at *
  generalize bs tl = ts at *
  generalize nthT l 0 = x at *
  generalize dec (mn) = p at *
  generalize dec (mx) = p2 at *
  generalize bs p2 = t2 at *
  generalize bs p = t1 at *
  simp only [Nat.zero_mul, Nat.add_zero] at k0 k1 k2 k3 k4 k5 k6 k7
  go_enter Tryd.func16, Tryd.ntmps16
  go_wp2_with (first | (go_at_call 16; (with_reducible refine hcall.mono ?_); rintro e w1 ⟨rfl, b1⟩; have hbw := HB.out w1 b1; obtain ⟨d0, d1, d2, d3, d4, d5, d6, d7⟩ := hbw.1.cells; simp only [Tr.kind, Tr.min, Tr.max] at d0 d5 d6 d7; obtain ⟨m0, m1, m2, m3, m4, m5, m6, m7⟩ := hbw.2; simp only [Nat.zero_mul, Nat.add_zero] at m0) | (go_at_call 30; go_loud ((with_reducible refine (hIt _).mono ?_); rintro e w2 ⟨rfl, hw2⟩; obtain rfl := hw2.symm)) | (go_at_call 30; (with_reducible refine (hJt _).mono ?_); rintro e w3 ⟨rfl, hw3⟩; obtain rfl := hw3.symm))
  go_ret
  exact ⟨rfl, chain B0 b1⟩
theorem times_le {mn mx : Int} (h : timesOk mn mx = true) (x : ¬ mx = -1) : mn ≤ mx := by
  unfold timesOk at h
  simp only [Bool.and_eq_true, Bool.or_eq_true, decide_eq_true_eq] at h
  omega
theorem tx_rep (q : Q4) (mn mx : Int) (l : List Tr) (h : timesOk mn mx = true) (h1 : l.length = 1) (ih : TxIs (nthT l 0)) : TxIs (.node 4 q mn mx l) := by
  obtain ⟨a0, a20, b0, b20⟩ := times_bounds h
  cases hkd : decide ((nthT l 0).kind = 1)
  · by_cases x : mx = -1
    · subst x
      by_cases n0 : mn = 0
      · subst n0; exact tr1p q l h1 hkd ih
      · by_cases n1 : mn = 1
        · subst n1; exact tr2p q l h1 hkd ih
        · exact tr4p q l mn a0 a20 n0 n1 h1 hkd ih
    · have hle := times_le h x
      by_cases hm : mx = mn
      · subst hm
        by_cases n0 : mx = 0
        · subst n0; exact tr5ap q l h1 hkd ih
        · by_cases n1 : mx = 1
          · subst n1; exact tr5bp q l h1 hkd ih
          · exact tr5cp q l mx a0 a20 n0 n1 h1 hkd ih
      · by_cases n0 : mn = 0
        · subst n0
          by_cases n1 : mx = 1
          · subst n1; exact tr3p q l h1 hkd ih
          · exact tr6ap q l mx (by omega) b20 hm n1 h1 hkd ih
        · by_cases n1 : mn = 1
          · subst n1
            exact tr6bp q l mx (by omega) b20 hm h1 hkd ih
          · exact tr6cp q l mn a0 a20 n0 n1 mx (by omega) b20 hm (by omega) h1 hkd ih
  · by_cases x : mx = -1
    · subst x
      by_cases n0 : mn = 0
      · subst n0; exact tr1n q l h1 hkd ih
      · by_cases n1 : mn = 1
        · subst n1; exact tr2n q l h1 hkd ih
        · exact tr4n q l mn a0 a20 n0 n1 h1 hkd ih
    · have hle := times_le h x
      by_cases hm : mx = mn
      · subst hm
        by_cases n0 : mx = 0
        · subst n0; exact tr5an q l h1 hkd ih
        · by_cases n1 : mx = 1
          · subst n1; exact tr5bn q l h1 hkd ih
          · exact tr5cn q l mx a0 a20 n0 n1 h1 hkd ih
      · by_cases n0 : mn = 0
        · subst n0
          by_cases n1 : mx = 1
          · subst n1; exact tr3n q l h1 hkd ih
          · exact tr6an q l mx (by omega) b20 hm n1 h1 hkd ih
        · by_cases n1 : mn = 1
          · subst n1
            exact tr6bn q l mx (by omega) b20 hm h1 hkd ih
          · exact tr6cn q l mn a0 a20 n0 n1 mx (by omega) b20 hm (by omega) h1 hkd ih
theorem text_any (d : Nat) : ∀ t : Tr, t.depth ≤ d → t.good = true → t.sane → TxIs t := by
  induction d with
  | zero => intro t hd; have := t.depth_eq; omega
  | succ d ih =>
    intro t hd hg hs
    have hDe := t.depth_eq
    have hge := t.good_eq
    rw [hg] at hge
    have hok : okNode t = true := by
      cases hx : okNode t
      · rw [hx] at hge; simp at hge
      · rfl
    have hgs : goods t.kids = true := by rw [hok] at hge; simpa using hge.symm
    have kid : ∀ i, i < t.kids.length → TxIs (nthT t.kids i) := fun i hi => by
      refine ih _ ?_ ?_ ?_
      · have := depth_nth t.kids i hi; omega
      · cases hx : (nthT t.kids i).good
        · have := goods_false t.kids i hi hx
          rw [this] at hgs; simp at hgs
        · rfl
      · exact sane_nth t hs i hi
    have hk := ok_kind hok
    have hfit : Fits t.set := sane_fits t hs
    cases t with
    | node k q mn mx l =>
      simp only [Tr.kind, Tr.kids, Tr.set] at hk kid hfit
      rcases hk with rfl | rfl | rfl | rfl
      · exact tx_set q hfit mn mx l
      · exact tx_cat q mn mx l kid
      · exact tx_alt q mn mx l kid
      · have ht := ok_times hok rfl
        simp only [Tr.min, Tr.max, Tr.kids] at ht
        exact tx_rep q mn mx l ht.1 ht.2 (kid 0 (by omega))
end Go.Proofs.YtfclidcfhadohaaDoor.rp

namespace Go.Proofs.YtfclidcfhadohaaDoor.rp
open Go.Proofs.YtfclidcfhadohaaDoor.st
open Go.Proofs.YtfclidcfhadohaaDoor.sp (chain)
open Go.ChangeShapes Go.WideShapes Go.ChangeAt Go.RowKit
set_option linter.unusedVariables false

theorem bd_len (B b : Nat) (out : L8) (w : World) (h : Bd B b out w) : Calls Tryd.prog 13 #[.pointer (some ⟨b, 0, none⟩)] w fun e w' => e = .returned (.int .i64 out.length) ∧ w' = w := by
  have hl : (Lib.byteCells out).length = out.length := bld.byteCells_length out
  obtain ⟨p, hB, v, hb, own, hne⟩ : ∃ p, Lib.BuilderAtF 42 5 B b p (Lib.byteCells out) w := h.elim (fun x => ⟨_, x⟩) (fun x => ⟨_, x⟩)
  have c1 : w.cell? ⟨b, 1, none⟩ = some v := by rw [Lib.cell_of_heap hb]; rfl
  rcases own.2 with ⟨rfl, h0⟩ | ⟨g, cap, cur, fz, rfl, _⟩
  · have hz : out.length = 0 := by omega
    rw [hz]
    clear h hb own hne hl hz h0
    go_enter Tryd.func13, Tryd.ntmps13
    go_wp2
    go_ret
    exact ⟨rfl, rfl⟩
  · rw [hl] at c1
    clear h hb own hne hl
    go_enter Tryd.func13, Tryd.ntmps13
    go_wp2
    go_ret
    exact ⟨rfl, rfl⟩

theorem good_of {t : Tr} (h : rightN t = 0) : t.good = true ∧ t.nodes ≤ 512 := by
  unfold rightN at h
  split at h
  · rename_i hh
    cases hg : t.good
    · rw [hg] at h; simp at h
    · exact ⟨rfl, hh.2⟩
  · omega
def outN (t : Tr) : L8 := if rightN t = 0 ∧ (txt t).length ≤ 512 then txt t else []
def errN (t : Tr) : Nat := if rightN t = 0 then (if (txt t).length ≤ 512 then 0 else 2) else rightN t
def PrIs (f : FuncId) (t : Tr) (r : L8) (n : Nat) : Prop := ∀ v w, Is w (fun _ => True) t v → Calls Tryd.prog f #[.agg #[.int .i64 t.kind, .int .u64 t.set.a, .int .u64 t.set.b, .int .u64 t.set.c, .int .u64 t.set.d, .int .i64 t.min, .int .i64 t.max, v]] w fun e w' => e = .returned (.tuple #[.string (bs r), .int .i64 n]) ∧ Below w.heap.size w w'
set_option maxHeartbeats 2000000 in
set_option maxRecDepth 100000 in
theorem print_no (t : Tr) (h : rightN t ≠ 0) : PrIs 6 t [] (rightN t) := by
  intro v w hI
  obtain ⟨o, n, cap, rfl⟩ := hI.shape
  have B0 : Below w.heap.size w (w.alloc (.cells #[.int .i64 t.kind, .int .u64 t.set.a, .int .u64 t.set.b, .int .u64 t.set.c, .int .u64 t.set.d, .int .i64 t.min, .int .i64 t.max, .slice o n cap] 28)) := below_alloc _ _
  have c := (box_new w t (.slice o n cap)).cells
  obtain ⟨c0, c1, c2, c3, c4, c5, c6, c7⟩ := c
  have hr := right_is t _ rfl (.slice o n cap) (w.alloc (.cells #[.int .i64 t.kind, .int .u64 t.set.a, .int .u64 t.set.b, .int .u64 t.set.c, .int .u64 t.set.d, .int .i64 t.min, .int .i64 t.max, .slice o n cap] 28)) (hI.later B0)
  have hne : ((rightN t : Int) != 0) = true := by simp; omega
  generalize rightN t = r at *
  go_enter Tryd.func6, Tryd.ntmps6
  go_wp2_with (go_at_call 11; (with_reducible refine hr.mono ?_); rintro e w1 ⟨rfl, b1⟩)
  go_ret2
  exact ⟨rfl, chain B0 b1⟩
set_option maxHeartbeats 2000000 in
set_option maxRecDepth 100000 in
theorem rprint_no (t : Tr) (h : rightN t ≠ 0) : PrIs 7 t [] (rightN t) := by
  intro v w hI
  obtain ⟨o, n, cap, rfl⟩ := hI.shape
  have B0 : Below w.heap.size w (w.alloc (.cells #[.int .i64 t.kind, .int .u64 t.set.a, .int .u64 t.set.b, .int .u64 t.set.c, .int .u64 t.set.d, .int .i64 t.min, .int .i64 t.max, .slice o n cap] 28)) := below_alloc _ _
  have c := (box_new w t (.slice o n cap)).cells
  obtain ⟨c0, c1, c2, c3, c4, c5, c6, c7⟩ := c
  have hr := rright_is t _ rfl (.slice o n cap) (w.alloc (.cells #[.int .i64 t.kind, .int .u64 t.set.a, .int .u64 t.set.b, .int .u64 t.set.c, .int .u64 t.set.d, .int .i64 t.min, .int .i64 t.max, .slice o n cap] 28)) (hI.later B0)
  have hne : ((rightN t : Int) != 0) = true := by simp; omega
  generalize rightN t = r at *
  go_enter Tryd.func7, Tryd.ntmps7
  go_wp2_with (go_at_call 15; (with_reducible refine hr.mono ?_); rintro e w1 ⟨rfl, b1⟩)
  go_ret2
  exact ⟨rfl, chain B0 b1⟩
set_option maxHeartbeats 2000000 in
set_option maxRecDepth 100000 in
theorem rprint_yes (t : Tr) (hs : t.sane) (h : rightN t = 0) (r : L8) (n : Nat) (hr0 : r = if (txt t).length ≤ 512 then txt t else []) (hn0 : n = if (txt t).length ≤ 512 then 0 else 2) : PrIs 7 t r n := by
  intro v w hI
  obtain ⟨o, nn, cap, rfl⟩ := hI.shape
  have B0 : Below w.heap.size w (w.alloc (.cells #[.int .i64 t.kind, .int .u64 t.set.a, .int .u64 t.set.b, .int .u64 t.set.c, .int .u64 t.set.d, .int .i64 t.min, .int .i64 t.max, .slice o nn cap] 28)) := below_alloc _ _
  have hb0 := box_new w t (.slice o nn cap)
  obtain ⟨c0, c1, c2, c3, c4, c5, c6, c7⟩ := hb0.cells
  have hr := rright_is t 0 h.symm (.slice o nn cap) (w.alloc (.cells #[.int .i64 t.kind, .int .u64 t.set.a, .int .u64 t.set.b, .int .u64 t.set.c, .int .u64 t.set.d, .int .i64 t.min, .int .i64 t.max, .slice o nn cap] 28)) (hI.later B0)
  have ⟨hg, hnod⟩ := good_of h
  have hlen := txt_len t hg
  have htx := text_any t.depth t (Nat.le_refl _) hg hs
  have hsz := bs_size (txt t)
  have HT := (show Hid (∀ W, Below (w.alloc (.cells #[.int .i64 t.kind, .int .u64 t.set.a, .int .u64 t.set.b, .int .u64 t.set.c, .int .u64 t.set.d, .int .i64 t.min, .int .i64 t.max, .slice o nn cap] 28)).heap.size (w.alloc (.cells #[.int .i64 t.kind, .int .u64 t.set.a, .int .u64 t.set.b, .int .u64 t.set.c, .int .u64 t.set.d, .int .i64 t.min, .int .i64 t.max, .slice o nn cap] 28)) W → Calls Tryd.prog 16 #[.agg #[.int .i64 t.kind, .int .u64 t.set.a, .int .u64 t.set.b, .int .u64 t.set.c, .int .u64 t.set.d, .int .i64 t.min, .int .i64 t.max, .slice o nn cap]] W (fun e w' => e = .returned (.string (bs (txt t))) ∧ Below W.heap.size W w') ∧ Box W w.heap.size t (.slice o nn cap)) from fun W hW => ⟨htx _ W ((hI.later B0).later hW) (by omega), hb0.below hW⟩)
  clear htx hlen hg hnod hs h
  by_cases hle : (txt t).length ≤ 512
  · rw [if_pos hle] at hr0 hn0
    subst hn0
    have f : decide ((512 : Int) < ((txt t).length : Int)) = false := decide_eq_false (by omega)
    rw [hr0]
    clear hr0
    generalize bs (txt t) = ts at *
    generalize (txt t).length = tl at *
    go_enter Tryd.func7, Tryd.ntmps7
    go_wp2_with (first | (go_at_call 15; (with_reducible refine hr.mono ?_); rintro e w1 ⟨rfl, b1⟩; have hh := HT.out w1 b1; have ht1 := hh.1; obtain ⟨d0, d1, d2, d3, d4, d5, d6, d7⟩ := hh.2.cells) | (go_at_call 16; (with_reducible refine ht1.mono ?_); rintro e w2 ⟨rfl, b2⟩))
    go_ret2
    exact ⟨rfl, chain (chain B0 b1) b2⟩
  · rw [if_neg hle] at hr0 hn0
    subst hn0
    have f : decide ((512 : Int) < ((txt t).length : Int)) = true := decide_eq_true (by omega)
    rw [hr0]
    clear hr0
    generalize bs (txt t) = ts at *
    generalize (txt t).length = tl at *
    go_enter Tryd.func7, Tryd.ntmps7
    go_wp2_with (first | (go_at_call 15; (with_reducible refine hr.mono ?_); rintro e w1 ⟨rfl, b1⟩; have hh := HT.out w1 b1; have ht1 := hh.1; obtain ⟨d0, d1, d2, d3, d4, d5, d6, d7⟩ := hh.2.cells) | (go_at_call 16; (with_reducible refine ht1.mono ?_); rintro e w2 ⟨rfl, b2⟩))
    go_ret2
    exact ⟨rfl, chain (chain B0 b1) b2⟩
theorem low_of {w w1 w2 : World} {t : Tr} {v : Value} (h : Is w (fun _ => True) t v) (b : Below w.heap.size w w2) (B : Nat) (hB : w.heap.size ≤ B) : Is w2 (· < B) t v :=
  h.old.carry b.size (fun k hk _ => by show k < B; omega) (fun k hk _ => b.block k hk)
set_option maxHeartbeats 2000000 in
set_option maxRecDepth 100000 in
theorem print_yes (t : Tr) (hs : t.sane) (h : rightN t = 0) (r : L8) (n : Nat) (hr0 : r = if (txt t).length ≤ 512 then txt t else []) (hn0 : n = if (txt t).length ≤ 512 then 0 else 2) : PrIs 6 t r n := by
  intro v w hI
  obtain ⟨o, nn, cap, rfl⟩ := hI.shape
  have B0 : Below w.heap.size w (w.alloc (.cells #[.int .i64 t.kind, .int .u64 t.set.a, .int .u64 t.set.b, .int .u64 t.set.c, .int .u64 t.set.d, .int .i64 t.min, .int .i64 t.max, .slice o nn cap] 28)) := below_alloc _ _
  have hb0 := box_new w t (.slice o nn cap)
  obtain ⟨c0, c1, c2, c3, c4, c5, c6, c7⟩ := hb0.cells
  have hr := right_is t 0 h.symm (.slice o nn cap) (w.alloc (.cells #[.int .i64 t.kind, .int .u64 t.set.a, .int .u64 t.set.b, .int .u64 t.set.c, .int .u64 t.set.d, .int .i64 t.min, .int .i64 t.max, .slice o nn cap] 28)) (hI.later B0)
  have ⟨hg, hnod⟩ := good_of h
  have hlen := txt_len t hg
  have htx := write_any t.depth t (Nat.le_refl _) hg hs
  have HT := (show Hid (∀ W, Below (w.alloc (.cells #[.int .i64 t.kind, .int .u64 t.set.a, .int .u64 t.set.b, .int .u64 t.set.c, .int .u64 t.set.d, .int .i64 t.min, .int .i64 t.max, .slice o nn cap] 28)).heap.size (w.alloc (.cells #[.int .i64 t.kind, .int .u64 t.set.a, .int .u64 t.set.b, .int .u64 t.set.c, .int .u64 t.set.d, .int .i64 t.min, .int .i64 t.max, .slice o nn cap] 28)) W → Calls Tryd.prog 12 #[.pointer (some ⟨W.heap.size, 0, none⟩), .agg #[.int .i64 t.kind, .int .u64 t.set.a, .int .u64 t.set.b, .int .u64 t.set.c, .int .u64 t.set.d, .int .i64 t.min, .int .i64 t.max, .slice o nn cap]] (W.alloc (.cells #[.pointer none, .slice none 0 0] 42)) (fun e w' => e = .returned (.tuple #[]) ∧ Bd W.heap.size W.heap.size (txt t) w' ∧ Below W.heap.size (W.alloc (.cells #[.pointer none, .slice none 0 0] 42)) w') ∧ Box W w.heap.size t (.slice o nn cap) ∧ w.heap.size < W.heap.size) from fun W hW => by
    have hWs : w.heap.size < W.heap.size := by have := hW.size; simp at this; omega
    have hA := below_alloc W (.cells #[.pointer none, .slice none 0 0] 42)
    refine ⟨?_, hb0.below hW, hWs⟩
    refine (htx W.heap.size W.heap.size [] _ _ (low_of (w1 := w) hI ((chain B0 hW).trans (hA.mono (by omega))) _ (by omega)) (bd_new W) (by simp) hA.size (by simp; omega)).mono ?_
    rintro e w' ⟨rfl, h1, h2, _⟩
    exact ⟨rfl, h1, h2⟩)
  clear htx hlen hg hnod hs h
  by_cases hle : (txt t).length ≤ 512
  · rw [if_pos hle] at hr0 hn0
    subst hn0
    have f : decide ((512 : Int) < ((txt t).length : Int)) = false := decide_eq_false (by omega)
    rw [hr0]
    clear hr0
    generalize txt t = tl at *
    go_enter Tryd.func6, Tryd.ntmps6
    go_wp2_with (first | (go_at_call 11; (with_reducible refine hr.mono ?_); rintro e w1 ⟨rfl, b1⟩; obtain ⟨ht1, hBx, hlt9⟩ := HT.out w1 b1; obtain ⟨d0, d1, d2, d3, d4, d5, d6, d7⟩ := hBx.cells; have hne9 : w.heap.size ≠ w1.heap.size := (by omega); have hne8 : ¬ w1.heap.size = w.heap.size := (by omega)) | (go_at_call 12; refine ht1.mono ?_; rintro e w2 ⟨rfl, hO2, b2⟩; have hLn := bd_len _ _ _ w2 hO2; have hSt := bd_string _ _ _ w2 hO2 (Nat.le_trans (below_alloc w1 (.cells #[.pointer none, .slice none 0 0] 42)).size b2.size)) | (go_at_call 13; (with_reducible refine hLn.mono ?_); rintro e w3 ⟨rfl, hw3⟩; obtain rfl := hw3.symm) | (go_at_call 14; (with_reducible refine hSt.mono ?_); rintro e w4 ⟨rfl, _, b4⟩))
    go_ret2
    exact ⟨rfl, ((chain B0 b1).trans ((below_alloc _ _).mono (by omega))).trans ((b2.trans b4).mono (by omega))⟩
  · rw [if_neg hle] at hr0 hn0
    subst hn0
    have f : decide ((512 : Int) < ((txt t).length : Int)) = true := decide_eq_true (by omega)
    rw [hr0]
    clear hr0
    generalize txt t = tl at *
    go_enter Tryd.func6, Tryd.ntmps6
    go_wp2_with (first | (go_at_call 11; (with_reducible refine hr.mono ?_); rintro e w1 ⟨rfl, b1⟩; obtain ⟨ht1, hBx, hlt9⟩ := HT.out w1 b1; obtain ⟨d0, d1, d2, d3, d4, d5, d6, d7⟩ := hBx.cells; have hne9 : w.heap.size ≠ w1.heap.size := (by omega); have hne8 : ¬ w1.heap.size = w.heap.size := (by omega)) | (go_at_call 12; refine ht1.mono ?_; rintro e w2 ⟨rfl, hO2, b2⟩; have hLn := bd_len _ _ _ w2 hO2; have hSt := bd_string _ _ _ w2 hO2 (Nat.le_trans (below_alloc w1 (.cells #[.pointer none, .slice none 0 0] 42)).size b2.size)) | (go_at_call 13; (with_reducible refine hLn.mono ?_); rintro e w3 ⟨rfl, hw3⟩; obtain rfl := hw3.symm))
    go_ret2
    exact ⟨rfl, ((chain B0 b1).trans ((below_alloc _ _).mono (by omega))).trans (b2.mono (by omega))⟩
theorem both_print (t : Tr) (hs : t.sane) : ∃ (r : L8) (n : Nat), r.length ≤ 512 ∧ PrIs 6 t r n ∧ PrIs 7 t r n := by
  by_cases h : rightN t = 0
  · refine ⟨_, _, ?_, print_yes t hs h _ _ rfl rfl, rprint_yes t hs h _ _ rfl rfl⟩
    split
    · assumption
    · simp
  · exact ⟨_, _, by simp, print_no t h, rprint_no t h⟩
set_option maxHeartbeats 2000000 in
set_option maxRecDepth 100000 in
theorem law_any (t : Tr) (hs : t.sane) (v : Value) (w : World) (hI : Is w (fun _ => True) t v) : Calls Tryd.prog 3 #[.agg #[.int .i64 t.kind, .int .u64 t.set.a, .int .u64 t.set.b, .int .u64 t.set.c, .int .u64 t.set.d, .int .i64 t.min, .int .i64 t.max, v]] w fun e w' => e = .returned (.bool true) ∧ Below w.heap.size w w' := by
  obtain ⟨r, n, hrl, hp, hq⟩ := both_print t hs
  obtain ⟨o, nn, cap, rfl⟩ := hI.shape
  have B0 : Below w.heap.size w (w.alloc (.cells #[.int .i64 t.kind, .int .u64 t.set.a, .int .u64 t.set.b, .int .u64 t.set.c, .int .u64 t.set.d, .int .i64 t.min, .int .i64 t.max, .slice o nn cap] 28)) := below_alloc _ _
  have hb0 := box_new w t (.slice o nn cap)
  obtain ⟨c0, c1, c2, c3, c4, c5, c6, c7⟩ := hb0.cells
  have h1 := hp (.slice o nn cap) (w.alloc (.cells #[.int .i64 t.kind, .int .u64 t.set.a, .int .u64 t.set.b, .int .u64 t.set.c, .int .u64 t.set.d, .int .i64 t.min, .int .i64 t.max, .slice o nn cap] 28)) (hI.later B0)
  have HQ := (show Hid (∀ W, Below (w.alloc (.cells #[.int .i64 t.kind, .int .u64 t.set.a, .int .u64 t.set.b, .int .u64 t.set.c, .int .u64 t.set.d, .int .i64 t.min, .int .i64 t.max, .slice o nn cap] 28)).heap.size (w.alloc (.cells #[.int .i64 t.kind, .int .u64 t.set.a, .int .u64 t.set.b, .int .u64 t.set.c, .int .u64 t.set.d, .int .i64 t.min, .int .i64 t.max, .slice o nn cap] 28)) W → Calls Tryd.prog 7 #[.agg #[.int .i64 t.kind, .int .u64 t.set.a, .int .u64 t.set.b, .int .u64 t.set.c, .int .u64 t.set.d, .int .i64 t.min, .int .i64 t.max, .slice o nn cap]] W (fun e w' => e = .returned (.tuple #[.string (bs r), .int .i64 n]) ∧ Below W.heap.size W w') ∧ Box W w.heap.size t (.slice o nn cap)) from fun W hW => ⟨hq _ W ((hI.later B0).later hW), hb0.below hW⟩)
  clear hp hq hI hs
  generalize bs r = ts at *
  go_enter Tryd.func3, Tryd.ntmps3
  go_wp2_with (first | (go_at_call 6; (with_reducible refine h1.mono ?_); rintro e w1 ⟨rfl, b1⟩; obtain ⟨h2, hBx⟩ := HQ.out w1 b1; obtain ⟨d0, d1, d2, d3, d4, d5, d6, d7⟩ := hBx.cells) | (go_at_call 7; (with_reducible refine h2.mono ?_); rintro e w2 ⟨rfl, b2⟩))
  go_ret
  exact ⟨rfl, chain (chain B0 b1) b2⟩
end Go.Proofs.YtfclidcfhadohaaDoor.rp
