/-
  Contracts over this program: the document's text of a tree: how often, and the whole (fretsawref06.Text).
-/
import Derived.Test.YtfclidcfhadohaaDoorPm
namespace Go.Proofs.YtfclidcfhadohaaDoor.rp
open Go.Proofs.YtfclidcfhadohaaDoor.st
open Go.Proofs.YtfclidcfhadohaaDoor.sp (chain)
open Go.ChangeShapes Go.WideShapes Go.ChangeAt Go.RowKit
set_option linter.unusedVariables false

set_option maxHeartbeats 4000000 in
set_option maxRecDepth 100000 in
theorem tr1p (q : Q4) (l : List Tr)  (h1 : l.length = 1) (hkd : decide ((nthT l 0).kind = 1) = false) (ih : TxIs (nthT l 0)) : TxIs (.node 4 q (0) (-1) l) := by
  intro v w hI hlen
  obtain ⟨o, cap, b', off, vs, rfl, hcap, hk⟩ := hI.form
  simp only [Tr.kids] at hcap hk ⊢
  simp only [Tr.kind, Tr.set, Tr.min, Tr.max]
  have hr : timesT (0) (-1) = [42] := by rfl
  have he : txt (.node 4 q (0) (-1) l) = par (!decide ((nthT l 0).kind = 1)) (txt (nthT l 0)) ++ timesT (0) (-1) := by
    rw [txt_eq]
    match l, h1 with
    | [x], _ => rfl
  rw [he, hkd, hr] at hlen ⊢
  obtain ⟨rfl, hcm, hbl, hbB, hcells, hkid⟩ := hk 0 (by omega)
  rw [h1]
  have B0 : Below w.heap.size w (w.alloc (.cells #[.int .i64 4, .int .u64 q.a, .int .u64 q.b, .int .u64 q.c, .int .u64 q.d, .int .i64 (0), .int .i64 (-1), .slice (some ⟨b', off, none⟩) 1 cap] 28)) := below_alloc _ _
  have hb0 : Box (w.alloc (.cells #[.int .i64 4, .int .u64 q.a, .int .u64 q.b, .int .u64 q.c, .int .u64 q.d, .int .i64 (0), .int .i64 (-1), .slice (some ⟨b', off, none⟩) 1 cap] 28)) w.heap.size (.node 4 q (0) (-1) l) (.slice (some ⟨b', off, none⟩) 1 cap) := box_new w (.node 4 q (0) (-1) l) _
  have c := hb0.cells
  obtain ⟨c0, c1, c2, c3, c4, c5, c6, c7⟩ := c
  simp only [Tr.kind, Tr.set, Tr.min, Tr.max] at c0 c1 c2 c3 c4 c5 c6 c7
  have hkid2 := hkid.later B0
  have hcells2 : Cells (w.alloc (.cells #[.int .i64 4, .int .u64 q.a, .int .u64 q.b, .int .u64 q.c, .int .u64 q.d, .int .i64 (0), .int .i64 (-1), .slice (some ⟨b', off, none⟩) 1 cap] 28)) b' (off + 0 * 8) (nthT l 0) (vs 0) := cells_old hcells hbl B0
  obtain ⟨o2, n2, cap2, hv2⟩ := hkid.shape
  rw [hv2] at hcells2 hkid2
  obtain ⟨k0, k1, k2, k3, k4, k5, k6, k7⟩ := hcells2
  have hst := bs_size (txt (nthT l 0))
  have hn0 : (txt (nthT l 0)).length ≤ 4294967296 := by
    have := hlen
    simp only [List.length_append, rp.par] at this
    simp at this
    omega
  have hcall := ih (.slice o2 n2 cap2) (w.alloc (.cells #[.int .i64 4, .int .u64 q.a, .int .u64 q.b, .int .u64 q.c, .int .u64 q.d, .int .i64 (0), .int .i64 (-1), .slice (some ⟨b', off, none⟩) 1 cap] 28)) hkid2 hn0
  have HB := (show Hid (∀ W, Below (w.alloc (.cells #[.int .i64 4, .int .u64 q.a, .int .u64 q.b, .int .u64 q.c, .int .u64 q.d, .int .i64 (0), .int .i64 (-1), .slice (some ⟨b', off, none⟩) 1 cap] 28)).heap.size (w.alloc (.cells #[.int .i64 4, .int .u64 q.a, .int .u64 q.b, .int .u64 q.c, .int .u64 q.d, .int .i64 (0), .int .i64 (-1), .slice (some ⟨b', off, none⟩) 1 cap] 28)) W → Box W w.heap.size (.node 4 q (0) (-1) l) (.slice (some ⟨b', off, none⟩) 1 cap) ∧ Cells W b' (off + 0 * 8) (nthT l 0) (.slice o2 n2 cap2)) from fun W h => ⟨hb0.below h, by
    have := (cells_old hcells hbl B0)
    rw [hv2] at this
    exact cells_old this (by simp; omega) h⟩)
  have hkk : ((nthT l 0).kind != 1) = !false := by rw [← hkd]; rfl
  have EE : Hid (((⟨#[40]⟩ : ByteArray) ++ bs (txt (nthT l 0)) ++ ⟨#[41]⟩) ++ (⟨#[42]⟩ : ByteArray) = bs (par (!false) (txt (nthT l 0)) ++ ([42]))) := by
    show _ = _
    have e1 : par (!false) (txt (nthT l 0)) = [40] ++ txt (nthT l 0) ++ [41] := rfl
    rw [e1]
    simp only [← bs_append, ByteArray.append_assoc]
    rfl
  rw [← EE.out]
  have z0 : ¬ 9223372036854775807 < 1 + (txt (nthT l 0)).length := by omega
  have z1 : ¬ 9223372036854775807 < 1 + (txt (nthT l 0)).length + 1 := by omega
  have z2 : ¬ 9223372036854775807 < 1 + (txt (nthT l 0)).length + 1 + 1 := by omega
  clear EE hr he hlen hI hk hcells hkid hv2 ih hb0 hkd
  unfold TxIs at *
  generalize txt (nthT l 0) = tl at *
  generalize bs tl = ts at *
  generalize nthT l 0 = x at *
  simp only [Nat.zero_mul, Nat.add_zero] at k0 k1 k2 k3 k4 k5 k6 k7
  go_enter Tryd.func16, Tryd.ntmps16
  go_wp2_with (first | (go_at_call 16; (with_reducible refine hcall.mono ?_); rintro e w1 ⟨rfl, b1⟩; have hbw := HB.out w1 b1; obtain ⟨d0, d1, d2, d3, d4, d5, d6, d7⟩ := hbw.1.cells; simp only [Tr.kind, Tr.min, Tr.max] at d0 d5 d6 d7; obtain ⟨m0, m1, m2, m3, m4, m5, m6, m7⟩ := hbw.2; simp only [Nat.zero_mul, Nat.add_zero] at m0))
  go_ret
  exact ⟨rfl, chain B0 b1⟩
set_option maxHeartbeats 4000000 in
set_option maxRecDepth 100000 in
theorem tr1n (q : Q4) (l : List Tr)  (h1 : l.length = 1) (hkd : decide ((nthT l 0).kind = 1) = true) (ih : TxIs (nthT l 0)) : TxIs (.node 4 q (0) (-1) l) := by
  intro v w hI hlen
  obtain ⟨o, cap, b', off, vs, rfl, hcap, hk⟩ := hI.form
  simp only [Tr.kids] at hcap hk ⊢
  simp only [Tr.kind, Tr.set, Tr.min, Tr.max]
  have hr : timesT (0) (-1) = [42] := by rfl
  have he : txt (.node 4 q (0) (-1) l) = par (!decide ((nthT l 0).kind = 1)) (txt (nthT l 0)) ++ timesT (0) (-1) := by
    rw [txt_eq]
    match l, h1 with
    | [x], _ => rfl
  rw [he, hkd, hr] at hlen ⊢
  obtain ⟨rfl, hcm, hbl, hbB, hcells, hkid⟩ := hk 0 (by omega)
  rw [h1]
  have B0 : Below w.heap.size w (w.alloc (.cells #[.int .i64 4, .int .u64 q.a, .int .u64 q.b, .int .u64 q.c, .int .u64 q.d, .int .i64 (0), .int .i64 (-1), .slice (some ⟨b', off, none⟩) 1 cap] 28)) := below_alloc _ _
  have hb0 : Box (w.alloc (.cells #[.int .i64 4, .int .u64 q.a, .int .u64 q.b, .int .u64 q.c, .int .u64 q.d, .int .i64 (0), .int .i64 (-1), .slice (some ⟨b', off, none⟩) 1 cap] 28)) w.heap.size (.node 4 q (0) (-1) l) (.slice (some ⟨b', off, none⟩) 1 cap) := box_new w (.node 4 q (0) (-1) l) _
  have c := hb0.cells
  obtain ⟨c0, c1, c2, c3, c4, c5, c6, c7⟩ := c
  simp only [Tr.kind, Tr.set, Tr.min, Tr.max] at c0 c1 c2 c3 c4 c5 c6 c7
  have hkid2 := hkid.later B0
  have hcells2 : Cells (w.alloc (.cells #[.int .i64 4, .int .u64 q.a, .int .u64 q.b, .int .u64 q.c, .int .u64 q.d, .int .i64 (0), .int .i64 (-1), .slice (some ⟨b', off, none⟩) 1 cap] 28)) b' (off + 0 * 8) (nthT l 0) (vs 0) := cells_old hcells hbl B0
  obtain ⟨o2, n2, cap2, hv2⟩ := hkid.shape
  rw [hv2] at hcells2 hkid2
  obtain ⟨k0, k1, k2, k3, k4, k5, k6, k7⟩ := hcells2
  have hst := bs_size (txt (nthT l 0))
  have hn0 : (txt (nthT l 0)).length ≤ 4294967296 := by
    have := hlen
    simp only [List.length_append, rp.par] at this
    simp at this
    omega
  have hcall := ih (.slice o2 n2 cap2) (w.alloc (.cells #[.int .i64 4, .int .u64 q.a, .int .u64 q.b, .int .u64 q.c, .int .u64 q.d, .int .i64 (0), .int .i64 (-1), .slice (some ⟨b', off, none⟩) 1 cap] 28)) hkid2 hn0
  have HB := (show Hid (∀ W, Below (w.alloc (.cells #[.int .i64 4, .int .u64 q.a, .int .u64 q.b, .int .u64 q.c, .int .u64 q.d, .int .i64 (0), .int .i64 (-1), .slice (some ⟨b', off, none⟩) 1 cap] 28)).heap.size (w.alloc (.cells #[.int .i64 4, .int .u64 q.a, .int .u64 q.b, .int .u64 q.c, .int .u64 q.d, .int .i64 (0), .int .i64 (-1), .slice (some ⟨b', off, none⟩) 1 cap] 28)) W → Box W w.heap.size (.node 4 q (0) (-1) l) (.slice (some ⟨b', off, none⟩) 1 cap) ∧ Cells W b' (off + 0 * 8) (nthT l 0) (.slice o2 n2 cap2)) from fun W h => ⟨hb0.below h, by
    have := (cells_old hcells hbl B0)
    rw [hv2] at this
    exact cells_old this (by simp; omega) h⟩)
  have hkk : ((nthT l 0).kind != 1) = !true := by rw [← hkd]; rfl
  have EE : Hid (bs (txt (nthT l 0)) ++ (⟨#[42]⟩ : ByteArray) = bs (par (!true) (txt (nthT l 0)) ++ ([42]))) := by
    show _ = _
    have e1 : par (!true) (txt (nthT l 0)) = txt (nthT l 0) := rfl
    rw [e1]
    simp only [← bs_append]
    rfl
  rw [← EE.out]
  have z0 : ¬ 9223372036854775807 < (txt (nthT l 0)).length + 1 := by omega
  clear EE hr he hlen hI hk hcells hkid hv2 ih hb0 hkd
  unfold TxIs at *
  generalize txt (nthT l 0) = tl at *
  generalize bs tl = ts at *
  generalize nthT l 0 = x at *
  simp only [Nat.zero_mul, Nat.add_zero] at k0 k1 k2 k3 k4 k5 k6 k7
  go_enter Tryd.func16, Tryd.ntmps16
  go_wp2_with (first | (go_at_call 16; (with_reducible refine hcall.mono ?_); rintro e w1 ⟨rfl, b1⟩; have hbw := HB.out w1 b1; obtain ⟨d0, d1, d2, d3, d4, d5, d6, d7⟩ := hbw.1.cells; simp only [Tr.kind, Tr.min, Tr.max] at d0 d5 d6 d7; obtain ⟨m0, m1, m2, m3, m4, m5, m6, m7⟩ := hbw.2; simp only [Nat.zero_mul, Nat.add_zero] at m0))
  go_ret
  exact ⟨rfl, chain B0 b1⟩
set_option maxHeartbeats 4000000 in
set_option maxRecDepth 100000 in
theorem tr2p (q : Q4) (l : List Tr)  (h1 : l.length = 1) (hkd : decide ((nthT l 0).kind = 1) = false) (ih : TxIs (nthT l 0)) : TxIs (.node 4 q (1) (-1) l) := by
  intro v w hI hlen
  obtain ⟨o, cap, b', off, vs, rfl, hcap, hk⟩ := hI.form
  simp only [Tr.kids] at hcap hk ⊢
  simp only [Tr.kind, Tr.set, Tr.min, Tr.max]
  have hr : timesT (1) (-1) = [43] := by rfl
  have he : txt (.node 4 q (1) (-1) l) = par (!decide ((nthT l 0).kind = 1)) (txt (nthT l 0)) ++ timesT (1) (-1) := by
    rw [txt_eq]
    match l, h1 with
    | [x], _ => rfl
  rw [he, hkd, hr] at hlen ⊢
  obtain ⟨rfl, hcm, hbl, hbB, hcells, hkid⟩ := hk 0 (by omega)
  rw [h1]
  have B0 : Below w.heap.size w (w.alloc (.cells #[.int .i64 4, .int .u64 q.a, .int .u64 q.b, .int .u64 q.c, .int .u64 q.d, .int .i64 (1), .int .i64 (-1), .slice (some ⟨b', off, none⟩) 1 cap] 28)) := below_alloc _ _
  have hb0 : Box (w.alloc (.cells #[.int .i64 4, .int .u64 q.a, .int .u64 q.b, .int .u64 q.c, .int .u64 q.d, .int .i64 (1), .int .i64 (-1), .slice (some ⟨b', off, none⟩) 1 cap] 28)) w.heap.size (.node 4 q (1) (-1) l) (.slice (some ⟨b', off, none⟩) 1 cap) := box_new w (.node 4 q (1) (-1) l) _
  have c := hb0.cells
  obtain ⟨c0, c1, c2, c3, c4, c5, c6, c7⟩ := c
  simp only [Tr.kind, Tr.set, Tr.min, Tr.max] at c0 c1 c2 c3 c4 c5 c6 c7
  have hkid2 := hkid.later B0
  have hcells2 : Cells (w.alloc (.cells #[.int .i64 4, .int .u64 q.a, .int .u64 q.b, .int .u64 q.c, .int .u64 q.d, .int .i64 (1), .int .i64 (-1), .slice (some ⟨b', off, none⟩) 1 cap] 28)) b' (off + 0 * 8) (nthT l 0) (vs 0) := cells_old hcells hbl B0
  obtain ⟨o2, n2, cap2, hv2⟩ := hkid.shape
  rw [hv2] at hcells2 hkid2
  obtain ⟨k0, k1, k2, k3, k4, k5, k6, k7⟩ := hcells2
  have hst := bs_size (txt (nthT l 0))
  have hn0 : (txt (nthT l 0)).length ≤ 4294967296 := by
    have := hlen
    simp only [List.length_append, rp.par] at this
    simp at this
    omega
  have hcall := ih (.slice o2 n2 cap2) (w.alloc (.cells #[.int .i64 4, .int .u64 q.a, .int .u64 q.b, .int .u64 q.c, .int .u64 q.d, .int .i64 (1), .int .i64 (-1), .slice (some ⟨b', off, none⟩) 1 cap] 28)) hkid2 hn0
  have HB := (show Hid (∀ W, Below (w.alloc (.cells #[.int .i64 4, .int .u64 q.a, .int .u64 q.b, .int .u64 q.c, .int .u64 q.d, .int .i64 (1), .int .i64 (-1), .slice (some ⟨b', off, none⟩) 1 cap] 28)).heap.size (w.alloc (.cells #[.int .i64 4, .int .u64 q.a, .int .u64 q.b, .int .u64 q.c, .int .u64 q.d, .int .i64 (1), .int .i64 (-1), .slice (some ⟨b', off, none⟩) 1 cap] 28)) W → Box W w.heap.size (.node 4 q (1) (-1) l) (.slice (some ⟨b', off, none⟩) 1 cap) ∧ Cells W b' (off + 0 * 8) (nthT l 0) (.slice o2 n2 cap2)) from fun W h => ⟨hb0.below h, by
    have := (cells_old hcells hbl B0)
    rw [hv2] at this
    exact cells_old this (by simp; omega) h⟩)
  have hkk : ((nthT l 0).kind != 1) = !false := by rw [← hkd]; rfl
  have EE : Hid (((⟨#[40]⟩ : ByteArray) ++ bs (txt (nthT l 0)) ++ ⟨#[41]⟩) ++ (⟨#[43]⟩ : ByteArray) = bs (par (!false) (txt (nthT l 0)) ++ ([43]))) := by
    show _ = _
    have e1 : par (!false) (txt (nthT l 0)) = [40] ++ txt (nthT l 0) ++ [41] := rfl
    rw [e1]
    simp only [← bs_append, ByteArray.append_assoc]
    rfl
  rw [← EE.out]
  have z0 : ¬ 9223372036854775807 < 1 + (txt (nthT l 0)).length := by omega
  have z1 : ¬ 9223372036854775807 < 1 + (txt (nthT l 0)).length + 1 := by omega
  have z2 : ¬ 9223372036854775807 < 1 + (txt (nthT l 0)).length + 1 + 1 := by omega
  clear EE hr he hlen hI hk hcells hkid hv2 ih hb0 hkd
  unfold TxIs at *
  generalize txt (nthT l 0) = tl at *
  generalize bs tl = ts at *
  generalize nthT l 0 = x at *
  simp only [Nat.zero_mul, Nat.add_zero] at k0 k1 k2 k3 k4 k5 k6 k7
  go_enter Tryd.func16, Tryd.ntmps16
  go_wp2_with (first | (go_at_call 16; (with_reducible refine hcall.mono ?_); rintro e w1 ⟨rfl, b1⟩; have hbw := HB.out w1 b1; obtain ⟨d0, d1, d2, d3, d4, d5, d6, d7⟩ := hbw.1.cells; simp only [Tr.kind, Tr.min, Tr.max] at d0 d5 d6 d7; obtain ⟨m0, m1, m2, m3, m4, m5, m6, m7⟩ := hbw.2; simp only [Nat.zero_mul, Nat.add_zero] at m0))
  go_ret
  exact ⟨rfl, chain B0 b1⟩
set_option maxHeartbeats 4000000 in
set_option maxRecDepth 100000 in
theorem tr2n (q : Q4) (l : List Tr)  (h1 : l.length = 1) (hkd : decide ((nthT l 0).kind = 1) = true) (ih : TxIs (nthT l 0)) : TxIs (.node 4 q (1) (-1) l) := by
  intro v w hI hlen
  obtain ⟨o, cap, b', off, vs, rfl, hcap, hk⟩ := hI.form
  simp only [Tr.kids] at hcap hk ⊢
  simp only [Tr.kind, Tr.set, Tr.min, Tr.max]
  have hr : timesT (1) (-1) = [43] := by rfl
  have he : txt (.node 4 q (1) (-1) l) = par (!decide ((nthT l 0).kind = 1)) (txt (nthT l 0)) ++ timesT (1) (-1) := by
    rw [txt_eq]
    match l, h1 with
    | [x], _ => rfl
  rw [he, hkd, hr] at hlen ⊢
  obtain ⟨rfl, hcm, hbl, hbB, hcells, hkid⟩ := hk 0 (by omega)
  rw [h1]
  have B0 : Below w.heap.size w (w.alloc (.cells #[.int .i64 4, .int .u64 q.a, .int .u64 q.b, .int .u64 q.c, .int .u64 q.d, .int .i64 (1), .int .i64 (-1), .slice (some ⟨b', off, none⟩) 1 cap] 28)) := below_alloc _ _
  have hb0 : Box (w.alloc (.cells #[.int .i64 4, .int .u64 q.a, .int .u64 q.b, .int .u64 q.c, .int .u64 q.d, .int .i64 (1), .int .i64 (-1), .slice (some ⟨b', off, none⟩) 1 cap] 28)) w.heap.size (.node 4 q (1) (-1) l) (.slice (some ⟨b', off, none⟩) 1 cap) := box_new w (.node 4 q (1) (-1) l) _
  have c := hb0.cells
  obtain ⟨c0, c1, c2, c3, c4, c5, c6, c7⟩ := c
  simp only [Tr.kind, Tr.set, Tr.min, Tr.max] at c0 c1 c2 c3 c4 c5 c6 c7
  have hkid2 := hkid.later B0
  have hcells2 : Cells (w.alloc (.cells #[.int .i64 4, .int .u64 q.a, .int .u64 q.b, .int .u64 q.c, .int .u64 q.d, .int .i64 (1), .int .i64 (-1), .slice (some ⟨b', off, none⟩) 1 cap] 28)) b' (off + 0 * 8) (nthT l 0) (vs 0) := cells_old hcells hbl B0
  obtain ⟨o2, n2, cap2, hv2⟩ := hkid.shape
  rw [hv2] at hcells2 hkid2
  obtain ⟨k0, k1, k2, k3, k4, k5, k6, k7⟩ := hcells2
  have hst := bs_size (txt (nthT l 0))
  have hn0 : (txt (nthT l 0)).length ≤ 4294967296 := by
    have := hlen
    simp only [List.length_append, rp.par] at this
    simp at this
    omega
  have hcall := ih (.slice o2 n2 cap2) (w.alloc (.cells #[.int .i64 4, .int .u64 q.a, .int .u64 q.b, .int .u64 q.c, .int .u64 q.d, .int .i64 (1), .int .i64 (-1), .slice (some ⟨b', off, none⟩) 1 cap] 28)) hkid2 hn0
  have HB := (show Hid (∀ W, Below (w.alloc (.cells #[.int .i64 4, .int .u64 q.a, .int .u64 q.b, .int .u64 q.c, .int .u64 q.d, .int .i64 (1), .int .i64 (-1), .slice (some ⟨b', off, none⟩) 1 cap] 28)).heap.size (w.alloc (.cells #[.int .i64 4, .int .u64 q.a, .int .u64 q.b, .int .u64 q.c, .int .u64 q.d, .int .i64 (1), .int .i64 (-1), .slice (some ⟨b', off, none⟩) 1 cap] 28)) W → Box W w.heap.size (.node 4 q (1) (-1) l) (.slice (some ⟨b', off, none⟩) 1 cap) ∧ Cells W b' (off + 0 * 8) (nthT l 0) (.slice o2 n2 cap2)) from fun W h => ⟨hb0.below h, by
    have := (cells_old hcells hbl B0)
    rw [hv2] at this
    exact cells_old this (by simp; omega) h⟩)
  have hkk : ((nthT l 0).kind != 1) = !true := by rw [← hkd]; rfl
  have EE : Hid (bs (txt (nthT l 0)) ++ (⟨#[43]⟩ : ByteArray) = bs (par (!true) (txt (nthT l 0)) ++ ([43]))) := by
    show _ = _
    have e1 : par (!true) (txt (nthT l 0)) = txt (nthT l 0) := rfl
    rw [e1]
    simp only [← bs_append]
    rfl
  rw [← EE.out]
  have z0 : ¬ 9223372036854775807 < (txt (nthT l 0)).length + 1 := by omega
  clear EE hr he hlen hI hk hcells hkid hv2 ih hb0 hkd
  unfold TxIs at *
  generalize txt (nthT l 0) = tl at *
  generalize bs tl = ts at *
  generalize nthT l 0 = x at *
  simp only [Nat.zero_mul, Nat.add_zero] at k0 k1 k2 k3 k4 k5 k6 k7
  go_enter Tryd.func16, Tryd.ntmps16
  go_wp2_with (first | (go_at_call 16; (with_reducible refine hcall.mono ?_); rintro e w1 ⟨rfl, b1⟩; have hbw := HB.out w1 b1; obtain ⟨d0, d1, d2, d3, d4, d5, d6, d7⟩ := hbw.1.cells; simp only [Tr.kind, Tr.min, Tr.max] at d0 d5 d6 d7; obtain ⟨m0, m1, m2, m3, m4, m5, m6, m7⟩ := hbw.2; simp only [Nat.zero_mul, Nat.add_zero] at m0))
  go_ret
  exact ⟨rfl, chain B0 b1⟩
set_option maxHeartbeats 4000000 in
set_option maxRecDepth 100000 in
theorem tr3p (q : Q4) (l : List Tr)  (h1 : l.length = 1) (hkd : decide ((nthT l 0).kind = 1) = false) (ih : TxIs (nthT l 0)) : TxIs (.node 4 q (0) (1) l) := by
  intro v w hI hlen
  obtain ⟨o, cap, b', off, vs, rfl, hcap, hk⟩ := hI.form
  simp only [Tr.kids] at hcap hk ⊢
  simp only [Tr.kind, Tr.set, Tr.min, Tr.max]
  have hr : timesT (0) (1) = [63] := by rfl
  have he : txt (.node 4 q (0) (1) l) = par (!decide ((nthT l 0).kind = 1)) (txt (nthT l 0)) ++ timesT (0) (1) := by
    rw [txt_eq]
    match l, h1 with
    | [x], _ => rfl
  rw [he, hkd, hr] at hlen ⊢
  obtain ⟨rfl, hcm, hbl, hbB, hcells, hkid⟩ := hk 0 (by omega)
  rw [h1]
  have B0 : Below w.heap.size w (w.alloc (.cells #[.int .i64 4, .int .u64 q.a, .int .u64 q.b, .int .u64 q.c, .int .u64 q.d, .int .i64 (0), .int .i64 (1), .slice (some ⟨b', off, none⟩) 1 cap] 28)) := below_alloc _ _
  have hb0 : Box (w.alloc (.cells #[.int .i64 4, .int .u64 q.a, .int .u64 q.b, .int .u64 q.c, .int .u64 q.d, .int .i64 (0), .int .i64 (1), .slice (some ⟨b', off, none⟩) 1 cap] 28)) w.heap.size (.node 4 q (0) (1) l) (.slice (some ⟨b', off, none⟩) 1 cap) := box_new w (.node 4 q (0) (1) l) _
  have c := hb0.cells
  obtain ⟨c0, c1, c2, c3, c4, c5, c6, c7⟩ := c
  simp only [Tr.kind, Tr.set, Tr.min, Tr.max] at c0 c1 c2 c3 c4 c5 c6 c7
  have hkid2 := hkid.later B0
  have hcells2 : Cells (w.alloc (.cells #[.int .i64 4, .int .u64 q.a, .int .u64 q.b, .int .u64 q.c, .int .u64 q.d, .int .i64 (0), .int .i64 (1), .slice (some ⟨b', off, none⟩) 1 cap] 28)) b' (off + 0 * 8) (nthT l 0) (vs 0) := cells_old hcells hbl B0
  obtain ⟨o2, n2, cap2, hv2⟩ := hkid.shape
  rw [hv2] at hcells2 hkid2
  obtain ⟨k0, k1, k2, k3, k4, k5, k6, k7⟩ := hcells2
  have hst := bs_size (txt (nthT l 0))
  have hn0 : (txt (nthT l 0)).length ≤ 4294967296 := by
    have := hlen
    simp only [List.length_append, rp.par] at this
    simp at this
    omega
  have hcall := ih (.slice o2 n2 cap2) (w.alloc (.cells #[.int .i64 4, .int .u64 q.a, .int .u64 q.b, .int .u64 q.c, .int .u64 q.d, .int .i64 (0), .int .i64 (1), .slice (some ⟨b', off, none⟩) 1 cap] 28)) hkid2 hn0
  have HB := (show Hid (∀ W, Below (w.alloc (.cells #[.int .i64 4, .int .u64 q.a, .int .u64 q.b, .int .u64 q.c, .int .u64 q.d, .int .i64 (0), .int .i64 (1), .slice (some ⟨b', off, none⟩) 1 cap] 28)).heap.size (w.alloc (.cells #[.int .i64 4, .int .u64 q.a, .int .u64 q.b, .int .u64 q.c, .int .u64 q.d, .int .i64 (0), .int .i64 (1), .slice (some ⟨b', off, none⟩) 1 cap] 28)) W → Box W w.heap.size (.node 4 q (0) (1) l) (.slice (some ⟨b', off, none⟩) 1 cap) ∧ Cells W b' (off + 0 * 8) (nthT l 0) (.slice o2 n2 cap2)) from fun W h => ⟨hb0.below h, by
    have := (cells_old hcells hbl B0)
    rw [hv2] at this
    exact cells_old this (by simp; omega) h⟩)
  have hkk : ((nthT l 0).kind != 1) = !false := by rw [← hkd]; rfl
  have EE : Hid (((⟨#[40]⟩ : ByteArray) ++ bs (txt (nthT l 0)) ++ ⟨#[41]⟩) ++ (⟨#[63]⟩ : ByteArray) = bs (par (!false) (txt (nthT l 0)) ++ ([63]))) := by
    show _ = _
    have e1 : par (!false) (txt (nthT l 0)) = [40] ++ txt (nthT l 0) ++ [41] := rfl
    rw [e1]
    simp only [← bs_append, ByteArray.append_assoc]
    rfl
  rw [← EE.out]
  have z0 : ¬ 9223372036854775807 < 1 + (txt (nthT l 0)).length := by omega
  have z1 : ¬ 9223372036854775807 < 1 + (txt (nthT l 0)).length + 1 := by omega
  have z2 : ¬ 9223372036854775807 < 1 + (txt (nthT l 0)).length + 1 + 1 := by omega
  clear EE hr he hlen hI hk hcells hkid hv2 ih hb0 hkd
  unfold TxIs at *
  generalize txt (nthT l 0) = tl at *
  generalize bs tl = ts at *
  generalize nthT l 0 = x at *
  simp only [Nat.zero_mul, Nat.add_zero] at k0 k1 k2 k3 k4 k5 k6 k7
  go_enter Tryd.func16, Tryd.ntmps16
  go_wp2_with (first | (go_at_call 16; (with_reducible refine hcall.mono ?_); rintro e w1 ⟨rfl, b1⟩; have hbw := HB.out w1 b1; obtain ⟨d0, d1, d2, d3, d4, d5, d6, d7⟩ := hbw.1.cells; simp only [Tr.kind, Tr.min, Tr.max] at d0 d5 d6 d7; obtain ⟨m0, m1, m2, m3, m4, m5, m6, m7⟩ := hbw.2; simp only [Nat.zero_mul, Nat.add_zero] at m0))
  go_ret
  exact ⟨rfl, chain B0 b1⟩
set_option maxHeartbeats 4000000 in
set_option maxRecDepth 100000 in
theorem tr3n (q : Q4) (l : List Tr)  (h1 : l.length = 1) (hkd : decide ((nthT l 0).kind = 1) = true) (ih : TxIs (nthT l 0)) : TxIs (.node 4 q (0) (1) l) := by
  intro v w hI hlen
  obtain ⟨o, cap, b', off, vs, rfl, hcap, hk⟩ := hI.form
  simp only [Tr.kids] at hcap hk ⊢
  simp only [Tr.kind, Tr.set, Tr.min, Tr.max]
  have hr : timesT (0) (1) = [63] := by rfl
  have he : txt (.node 4 q (0) (1) l) = par (!decide ((nthT l 0).kind = 1)) (txt (nthT l 0)) ++ timesT (0) (1) := by
    rw [txt_eq]
    match l, h1 with
    | [x], _ => rfl
  rw [he, hkd, hr] at hlen ⊢
  obtain ⟨rfl, hcm, hbl, hbB, hcells, hkid⟩ := hk 0 (by omega)
  rw [h1]
  have B0 : Below w.heap.size w (w.alloc (.cells #[.int .i64 4, .int .u64 q.a, .int .u64 q.b, .int .u64 q.c, .int .u64 q.d, .int .i64 (0), .int .i64 (1), .slice (some ⟨b', off, none⟩) 1 cap] 28)) := below_alloc _ _
  have hb0 : Box (w.alloc (.cells #[.int .i64 4, .int .u64 q.a, .int .u64 q.b, .int .u64 q.c, .int .u64 q.d, .int .i64 (0), .int .i64 (1), .slice (some ⟨b', off, none⟩) 1 cap] 28)) w.heap.size (.node 4 q (0) (1) l) (.slice (some ⟨b', off, none⟩) 1 cap) := box_new w (.node 4 q (0) (1) l) _
  have c := hb0.cells
  obtain ⟨c0, c1, c2, c3, c4, c5, c6, c7⟩ := c
  simp only [Tr.kind, Tr.set, Tr.min, Tr.max] at c0 c1 c2 c3 c4 c5 c6 c7
  have hkid2 := hkid.later B0
  have hcells2 : Cells (w.alloc (.cells #[.int .i64 4, .int .u64 q.a, .int .u64 q.b, .int .u64 q.c, .int .u64 q.d, .int .i64 (0), .int .i64 (1), .slice (some ⟨b', off, none⟩) 1 cap] 28)) b' (off + 0 * 8) (nthT l 0) (vs 0) := cells_old hcells hbl B0
  obtain ⟨o2, n2, cap2, hv2⟩ := hkid.shape
  rw [hv2] at hcells2 hkid2
  obtain ⟨k0, k1, k2, k3, k4, k5, k6, k7⟩ := hcells2
  have hst := bs_size (txt (nthT l 0))
  have hn0 : (txt (nthT l 0)).length ≤ 4294967296 := by
    have := hlen
    simp only [List.length_append, rp.par] at this
    simp at this
    omega
  have hcall := ih (.slice o2 n2 cap2) (w.alloc (.cells #[.int .i64 4, .int .u64 q.a, .int .u64 q.b, .int .u64 q.c, .int .u64 q.d, .int .i64 (0), .int .i64 (1), .slice (some ⟨b', off, none⟩) 1 cap] 28)) hkid2 hn0
  have HB := (show Hid (∀ W, Below (w.alloc (.cells #[.int .i64 4, .int .u64 q.a, .int .u64 q.b, .int .u64 q.c, .int .u64 q.d, .int .i64 (0), .int .i64 (1), .slice (some ⟨b', off, none⟩) 1 cap] 28)).heap.size (w.alloc (.cells #[.int .i64 4, .int .u64 q.a, .int .u64 q.b, .int .u64 q.c, .int .u64 q.d, .int .i64 (0), .int .i64 (1), .slice (some ⟨b', off, none⟩) 1 cap] 28)) W → Box W w.heap.size (.node 4 q (0) (1) l) (.slice (some ⟨b', off, none⟩) 1 cap) ∧ Cells W b' (off + 0 * 8) (nthT l 0) (.slice o2 n2 cap2)) from fun W h => ⟨hb0.below h, by
    have := (cells_old hcells hbl B0)
    rw [hv2] at this
    exact cells_old this (by simp; omega) h⟩)
  have hkk : ((nthT l 0).kind != 1) = !true := by rw [← hkd]; rfl
  have EE : Hid (bs (txt (nthT l 0)) ++ (⟨#[63]⟩ : ByteArray) = bs (par (!true) (txt (nthT l 0)) ++ ([63]))) := by
    show _ = _
    have e1 : par (!true) (txt (nthT l 0)) = txt (nthT l 0) := rfl
    rw [e1]
    simp only [← bs_append]
    rfl
  rw [← EE.out]
  have z0 : ¬ 9223372036854775807 < (txt (nthT l 0)).length + 1 := by omega
  clear EE hr he hlen hI hk hcells hkid hv2 ih hb0 hkd
  unfold TxIs at *
  generalize txt (nthT l 0) = tl at *
  generalize bs tl = ts at *
  generalize nthT l 0 = x at *
  simp only [Nat.zero_mul, Nat.add_zero] at k0 k1 k2 k3 k4 k5 k6 k7
  go_enter Tryd.func16, Tryd.ntmps16
  go_wp2_with (first | (go_at_call 16; (with_reducible refine hcall.mono ?_); rintro e w1 ⟨rfl, b1⟩; have hbw := HB.out w1 b1; obtain ⟨d0, d1, d2, d3, d4, d5, d6, d7⟩ := hbw.1.cells; simp only [Tr.kind, Tr.min, Tr.max] at d0 d5 d6 d7; obtain ⟨m0, m1, m2, m3, m4, m5, m6, m7⟩ := hbw.2; simp only [Nat.zero_mul, Nat.add_zero] at m0))
  go_ret
  exact ⟨rfl, chain B0 b1⟩
set_option maxHeartbeats 4000000 in
set_option maxRecDepth 100000 in
theorem tr4p (q : Q4) (l : List Tr) (mn : Int) (h0 : 0 ≤ mn) (h20 : mn ≤ 20) (n0 : ¬ mn = 0) (n1 : ¬ mn = 1) (h1 : l.length = 1) (hkd : decide ((nthT l 0).kind = 1) = false) (ih : TxIs (nthT l 0)) : TxIs (.node 4 q (mn) (-1) l) := by
  intro v w hI hlen
  obtain ⟨o, cap, b', off, vs, rfl, hcap, hk⟩ := hI.form
  simp only [Tr.kids] at hcap hk ⊢
  simp only [Tr.kind, Tr.set, Tr.min, Tr.max]
  have hr : timesT (mn) (-1) = [123] ++ dec mn ++ [44, 125] := by unfold timesT; rw [if_neg (by omega), if_neg (by omega), if_neg (by omega), if_pos rfl]; rfl
  have he : txt (.node 4 q (mn) (-1) l) = par (!decide ((nthT l 0).kind = 1)) (txt (nthT l 0)) ++ timesT (mn) (-1) := by
    rw [txt_eq]
    match l, h1 with
    | [x], _ => rfl
  rw [he, hkd, hr] at hlen ⊢
  obtain ⟨rfl, hcm, hbl, hbB, hcells, hkid⟩ := hk 0 (by omega)
  rw [h1]
  have B0 : Below w.heap.size w (w.alloc (.cells #[.int .i64 4, .int .u64 q.a, .int .u64 q.b, .int .u64 q.c, .int .u64 q.d, .int .i64 (mn), .int .i64 (-1), .slice (some ⟨b', off, none⟩) 1 cap] 28)) := below_alloc _ _
  have hb0 : Box (w.alloc (.cells #[.int .i64 4, .int .u64 q.a, .int .u64 q.b, .int .u64 q.c, .int .u64 q.d, .int .i64 (mn), .int .i64 (-1), .slice (some ⟨b', off, none⟩) 1 cap] 28)) w.heap.size (.node 4 q (mn) (-1) l) (.slice (some ⟨b', off, none⟩) 1 cap) := box_new w (.node 4 q (mn) (-1) l) _
  have c := hb0.cells
  obtain ⟨c0, c1, c2, c3, c4, c5, c6, c7⟩ := c
  simp only [Tr.kind, Tr.set, Tr.min, Tr.max] at c0 c1 c2 c3 c4 c5 c6 c7
  have hkid2 := hkid.later B0
  have hcells2 : Cells (w.alloc (.cells #[.int .i64 4, .int .u64 q.a, .int .u64 q.b, .int .u64 q.c, .int .u64 q.d, .int .i64 (mn), .int .i64 (-1), .slice (some ⟨b', off, none⟩) 1 cap] 28)) b' (off + 0 * 8) (nthT l 0) (vs 0) := cells_old hcells hbl B0
  obtain ⟨o2, n2, cap2, hv2⟩ := hkid.shape
  rw [hv2] at hcells2 hkid2
  obtain ⟨k0, k1, k2, k3, k4, k5, k6, k7⟩ := hcells2
  have hst := bs_size (txt (nthT l 0))
  have hn0 : (txt (nthT l 0)).length ≤ 4294967296 := by
    have := hlen
    simp only [List.length_append, rp.par] at this
    simp at this
    omega
  have hcall := ih (.slice o2 n2 cap2) (w.alloc (.cells #[.int .i64 4, .int .u64 q.a, .int .u64 q.b, .int .u64 q.c, .int .u64 q.d, .int .i64 (mn), .int .i64 (-1), .slice (some ⟨b', off, none⟩) 1 cap] 28)) hkid2 hn0
  have HB := (show Hid (∀ W, Below (w.alloc (.cells #[.int .i64 4, .int .u64 q.a, .int .u64 q.b, .int .u64 q.c, .int .u64 q.d, .int .i64 (mn), .int .i64 (-1), .slice (some ⟨b', off, none⟩) 1 cap] 28)).heap.size (w.alloc (.cells #[.int .i64 4, .int .u64 q.a, .int .u64 q.b, .int .u64 q.c, .int .u64 q.d, .int .i64 (mn), .int .i64 (-1), .slice (some ⟨b', off, none⟩) 1 cap] 28)) W → Box W w.heap.size (.node 4 q (mn) (-1) l) (.slice (some ⟨b', off, none⟩) 1 cap) ∧ Cells W b' (off + 0 * 8) (nthT l 0) (.slice o2 n2 cap2)) from fun W h => ⟨hb0.below h, by
    have := (cells_old hcells hbl B0)
    rw [hv2] at this
    exact cells_old this (by simp; omega) h⟩)
  have hkk : ((nthT l 0).kind != 1) = !false := by rw [← hkd]; rfl
  have f0 := beqn n0
  have f1 := beqn n1
  have hIt := itoa_any (mn) (by omega) (by omega)
  have hl := dec_len (mn) (by omega)
  have hs := bs_size (dec (mn))
  unfold ItoaIs at hIt
  have EE : Hid (((⟨#[40]⟩ : ByteArray) ++ bs (txt (nthT l 0)) ++ ⟨#[41]⟩) ++ (⟨#[123]⟩ : ByteArray) ++ bs (dec (mn)) ++ (⟨#[44, 125]⟩ : ByteArray) = bs (par (!false) (txt (nthT l 0)) ++ ([123] ++ dec mn ++ [44, 125]))) := by
    show _ = _
    have e1 : par (!false) (txt (nthT l 0)) = [40] ++ txt (nthT l 0) ++ [41] := rfl
    rw [e1]
    simp only [← bs_append, ByteArray.append_assoc]
    rfl
  rw [← EE.out]
  have z0 : ¬ 9223372036854775807 < 1 + (txt (nthT l 0)).length := by omega
  have z1 : ¬ 9223372036854775807 < 1 + (txt (nthT l 0)).length + 1 := by omega
  have z2 : ¬ 9223372036854775807 < 1 + (txt (nthT l 0)).length + 1 + 1 := by omega
  have z3 : ¬ 9223372036854775807 < 1 + (txt (nthT l 0)).length + 1 + 1 + (dec (mn)).length := by omega
  have z4 : ¬ 9223372036854775807 < 1 + (txt (nthT l 0)).length + 1 + 1 + (dec (mn)).length + 2 := by omega
  clear EE hr he hlen hI hk hcells hkid hv2 ih hb0 hkd
  unfold TxIs at *
  generalize txt (nthT l 0) = tl at *
  generalize bs tl = ts at *
  generalize nthT l 0 = x at *
  generalize dec (mn) = p at *
  generalize bs p = t1 at *
  simp only [Nat.zero_mul, Nat.add_zero] at k0 k1 k2 k3 k4 k5 k6 k7
  go_enter Tryd.func16, Tryd.ntmps16
  go_wp2_with (first | (go_at_call 16; (with_reducible refine hcall.mono ?_); rintro e w1 ⟨rfl, b1⟩; have hbw := HB.out w1 b1; obtain ⟨d0, d1, d2, d3, d4, d5, d6, d7⟩ := hbw.1.cells; simp only [Tr.kind, Tr.min, Tr.max] at d0 d5 d6 d7; obtain ⟨m0, m1, m2, m3, m4, m5, m6, m7⟩ := hbw.2; simp only [Nat.zero_mul, Nat.add_zero] at m0) | (go_at_call 30; go_loud ((with_reducible refine (hIt _).mono ?_); rintro e w2 ⟨rfl, hw2⟩; obtain rfl := hw2.symm)))
  go_ret
  exact ⟨rfl, chain B0 b1⟩
set_option maxHeartbeats 4000000 in
set_option maxRecDepth 100000 in
theorem tr4n (q : Q4) (l : List Tr) (mn : Int) (h0 : 0 ≤ mn) (h20 : mn ≤ 20) (n0 : ¬ mn = 0) (n1 : ¬ mn = 1) (h1 : l.length = 1) (hkd : decide ((nthT l 0).kind = 1) = true) (ih : TxIs (nthT l 0)) : TxIs (.node 4 q (mn) (-1) l) := by
  intro v w hI hlen
  obtain ⟨o, cap, b', off, vs, rfl, hcap, hk⟩ := hI.form
  simp only [Tr.kids] at hcap hk ⊢
  simp only [Tr.kind, Tr.set, Tr.min, Tr.max]
  have hr : timesT (mn) (-1) = [123] ++ dec mn ++ [44, 125] := by unfold timesT; rw [if_neg (by omega), if_neg (by omega), if_neg (by omega), if_pos rfl]; rfl
  have he : txt (.node 4 q (mn) (-1) l) = par (!decide ((nthT l 0).kind = 1)) (txt (nthT l 0)) ++ timesT (mn) (-1) := by
    rw [txt_eq]
    match l, h1 with
    | [x], _ => rfl
  rw [he, hkd, hr] at hlen ⊢
  obtain ⟨rfl, hcm, hbl, hbB, hcells, hkid⟩ := hk 0 (by omega)
  rw [h1]
  have B0 : Below w.heap.size w (w.alloc (.cells #[.int .i64 4, .int .u64 q.a, .int .u64 q.b, .int .u64 q.c, .int .u64 q.d, .int .i64 (mn), .int .i64 (-1), .slice (some ⟨b', off, none⟩) 1 cap] 28)) := below_alloc _ _
  have hb0 : Box (w.alloc (.cells #[.int .i64 4, .int .u64 q.a, .int .u64 q.b, .int .u64 q.c, .int .u64 q.d, .int .i64 (mn), .int .i64 (-1), .slice (some ⟨b', off, none⟩) 1 cap] 28)) w.heap.size (.node 4 q (mn) (-1) l) (.slice (some ⟨b', off, none⟩) 1 cap) := box_new w (.node 4 q (mn) (-1) l) _
  have c := hb0.cells
  obtain ⟨c0, c1, c2, c3, c4, c5, c6, c7⟩ := c
  simp only [Tr.kind, Tr.set, Tr.min, Tr.max] at c0 c1 c2 c3 c4 c5 c6 c7
  have hkid2 := hkid.later B0
  have hcells2 : Cells (w.alloc (.cells #[.int .i64 4, .int .u64 q.a, .int .u64 q.b, .int .u64 q.c, .int .u64 q.d, .int .i64 (mn), .int .i64 (-1), .slice (some ⟨b', off, none⟩) 1 cap] 28)) b' (off + 0 * 8) (nthT l 0) (vs 0) := cells_old hcells hbl B0
  obtain ⟨o2, n2, cap2, hv2⟩ := hkid.shape
  rw [hv2] at hcells2 hkid2
  obtain ⟨k0, k1, k2, k3, k4, k5, k6, k7⟩ := hcells2
  have hst := bs_size (txt (nthT l 0))
  have hn0 : (txt (nthT l 0)).length ≤ 4294967296 := by
    have := hlen
    simp only [List.length_append, rp.par] at this
    simp at this
    omega
  have hcall := ih (.slice o2 n2 cap2) (w.alloc (.cells #[.int .i64 4, .int .u64 q.a, .int .u64 q.b, .int .u64 q.c, .int .u64 q.d, .int .i64 (mn), .int .i64 (-1), .slice (some ⟨b', off, none⟩) 1 cap] 28)) hkid2 hn0
  have HB := (show Hid (∀ W, Below (w.alloc (.cells #[.int .i64 4, .int .u64 q.a, .int .u64 q.b, .int .u64 q.c, .int .u64 q.d, .int .i64 (mn), .int .i64 (-1), .slice (some ⟨b', off, none⟩) 1 cap] 28)).heap.size (w.alloc (.cells #[.int .i64 4, .int .u64 q.a, .int .u64 q.b, .int .u64 q.c, .int .u64 q.d, .int .i64 (mn), .int .i64 (-1), .slice (some ⟨b', off, none⟩) 1 cap] 28)) W → Box W w.heap.size (.node 4 q (mn) (-1) l) (.slice (some ⟨b', off, none⟩) 1 cap) ∧ Cells W b' (off + 0 * 8) (nthT l 0) (.slice o2 n2 cap2)) from fun W h => ⟨hb0.below h, by
    have := (cells_old hcells hbl B0)
    rw [hv2] at this
    exact cells_old this (by simp; omega) h⟩)
  have hkk : ((nthT l 0).kind != 1) = !true := by rw [← hkd]; rfl
  have f0 := beqn n0
  have f1 := beqn n1
  have hIt := itoa_any (mn) (by omega) (by omega)
  have hl := dec_len (mn) (by omega)
  have hs := bs_size (dec (mn))
  unfold ItoaIs at hIt
  have EE : Hid (bs (txt (nthT l 0)) ++ (⟨#[123]⟩ : ByteArray) ++ bs (dec (mn)) ++ (⟨#[44, 125]⟩ : ByteArray) = bs (par (!true) (txt (nthT l 0)) ++ ([123] ++ dec mn ++ [44, 125]))) := by
    show _ = _
    have e1 : par (!true) (txt (nthT l 0)) = txt (nthT l 0) := rfl
    rw [e1]
    simp only [← bs_append, ByteArray.append_assoc]
    rfl
  rw [← EE.out]
  have z0 : ¬ 9223372036854775807 < (txt (nthT l 0)).length + 1 := by omega
  have z1 : ¬ 9223372036854775807 < (txt (nthT l 0)).length + 1 + (dec (mn)).length := by omega
  have z2 : ¬ 9223372036854775807 < (txt (nthT l 0)).length + 1 + (dec (mn)).length + 2 := by omega
  clear EE hr he hlen hI hk hcells hkid hv2 ih hb0 hkd
  unfold TxIs at *
  generalize txt (nthT l 0) = tl at *
  generalize bs tl = ts at *
  generalize nthT l 0 = x at *
  generalize dec (mn) = p at *
  generalize bs p = t1 at *
  simp only [Nat.zero_mul, Nat.add_zero] at k0 k1 k2 k3 k4 k5 k6 k7
  go_enter Tryd.func16, Tryd.ntmps16
  go_wp2_with (first | (go_at_call 16; (with_reducible refine hcall.mono ?_); rintro e w1 ⟨rfl, b1⟩; have hbw := HB.out w1 b1; obtain ⟨d0, d1, d2, d3, d4, d5, d6, d7⟩ := hbw.1.cells; simp only [Tr.kind, Tr.min, Tr.max] at d0 d5 d6 d7; obtain ⟨m0, m1, m2, m3, m4, m5, m6, m7⟩ := hbw.2; simp only [Nat.zero_mul, Nat.add_zero] at m0) | (go_at_call 30; go_loud ((with_reducible refine (hIt _).mono ?_); rintro e w2 ⟨rfl, hw2⟩; obtain rfl := hw2.symm)))
  go_ret
  exact ⟨rfl, chain B0 b1⟩
set_option maxHeartbeats 4000000 in
set_option maxRecDepth 100000 in
theorem tr5ap (q : Q4) (l : List Tr)  (h1 : l.length = 1) (hkd : decide ((nthT l 0).kind = 1) = false) (ih : TxIs (nthT l 0)) : TxIs (.node 4 q (0) (0) l) := by
  intro v w hI hlen
  obtain ⟨o, cap, b', off, vs, rfl, hcap, hk⟩ := hI.form
  simp only [Tr.kids] at hcap hk ⊢
  simp only [Tr.kind, Tr.set, Tr.min, Tr.max]
  have hr : timesT (0) (0) = [123] ++ dec 0 ++ [125] := by rfl
  have he : txt (.node 4 q (0) (0) l) = par (!decide ((nthT l 0).kind = 1)) (txt (nthT l 0)) ++ timesT (0) (0) := by
    rw [txt_eq]
    match l, h1 with
    | [x], _ => rfl
  rw [he, hkd, hr] at hlen ⊢
  obtain ⟨rfl, hcm, hbl, hbB, hcells, hkid⟩ := hk 0 (by omega)
  rw [h1]
  have B0 : Below w.heap.size w (w.alloc (.cells #[.int .i64 4, .int .u64 q.a, .int .u64 q.b, .int .u64 q.c, .int .u64 q.d, .int .i64 (0), .int .i64 (0), .slice (some ⟨b', off, none⟩) 1 cap] 28)) := below_alloc _ _
  have hb0 : Box (w.alloc (.cells #[.int .i64 4, .int .u64 q.a, .int .u64 q.b, .int .u64 q.c, .int .u64 q.d, .int .i64 (0), .int .i64 (0), .slice (some ⟨b', off, none⟩) 1 cap] 28)) w.heap.size (.node 4 q (0) (0) l) (.slice (some ⟨b', off, none⟩) 1 cap) := box_new w (.node 4 q (0) (0) l) _
  have c := hb0.cells
  obtain ⟨c0, c1, c2, c3, c4, c5, c6, c7⟩ := c
  simp only [Tr.kind, Tr.set, Tr.min, Tr.max] at c0 c1 c2 c3 c4 c5 c6 c7
  have hkid2 := hkid.later B0
  have hcells2 : Cells (w.alloc (.cells #[.int .i64 4, .int .u64 q.a, .int .u64 q.b, .int .u64 q.c, .int .u64 q.d, .int .i64 (0), .int .i64 (0), .slice (some ⟨b', off, none⟩) 1 cap] 28)) b' (off + 0 * 8) (nthT l 0) (vs 0) := cells_old hcells hbl B0
  obtain ⟨o2, n2, cap2, hv2⟩ := hkid.shape
  rw [hv2] at hcells2 hkid2
  obtain ⟨k0, k1, k2, k3, k4, k5, k6, k7⟩ := hcells2
  have hst := bs_size (txt (nthT l 0))
  have hn0 : (txt (nthT l 0)).length ≤ 4294967296 := by
    have := hlen
    simp only [List.length_append, rp.par] at this
    simp at this
    omega
  have hcall := ih (.slice o2 n2 cap2) (w.alloc (.cells #[.int .i64 4, .int .u64 q.a, .int .u64 q.b, .int .u64 q.c, .int .u64 q.d, .int .i64 (0), .int .i64 (0), .slice (some ⟨b', off, none⟩) 1 cap] 28)) hkid2 hn0
  have HB := (show Hid (∀ W, Below (w.alloc (.cells #[.int .i64 4, .int .u64 q.a, .int .u64 q.b, .int .u64 q.c, .int .u64 q.d, .int .i64 (0), .int .i64 (0), .slice (some ⟨b', off, none⟩) 1 cap] 28)).heap.size (w.alloc (.cells #[.int .i64 4, .int .u64 q.a, .int .u64 q.b, .int .u64 q.c, .int .u64 q.d, .int .i64 (0), .int .i64 (0), .slice (some ⟨b', off, none⟩) 1 cap] 28)) W → Box W w.heap.size (.node 4 q (0) (0) l) (.slice (some ⟨b', off, none⟩) 1 cap) ∧ Cells W b' (off + 0 * 8) (nthT l 0) (.slice o2 n2 cap2)) from fun W h => ⟨hb0.below h, by
    have := (cells_old hcells hbl B0)
    rw [hv2] at this
    exact cells_old this (by simp; omega) h⟩)
  have hkk : ((nthT l 0).kind != 1) = !false := by rw [← hkd]; rfl
  have hIt := itoa_any (0) (by omega) (by omega)
  have hl := dec_len (0) (by omega)
  have hs := bs_size (dec (0))
  unfold ItoaIs at hIt
  have EE : Hid (((⟨#[40]⟩ : ByteArray) ++ bs (txt (nthT l 0)) ++ ⟨#[41]⟩) ++ (⟨#[123]⟩ : ByteArray) ++ bs (dec (0)) ++ (⟨#[125]⟩ : ByteArray) = bs (par (!false) (txt (nthT l 0)) ++ ([123] ++ dec 0 ++ [125]))) := by
    show _ = _
    have e1 : par (!false) (txt (nthT l 0)) = [40] ++ txt (nthT l 0) ++ [41] := rfl
    rw [e1]
    simp only [← bs_append, ByteArray.append_assoc]
    rfl
  rw [← EE.out]
  have z0 : ¬ 9223372036854775807 < 1 + (txt (nthT l 0)).length := by omega
  have z1 : ¬ 9223372036854775807 < 1 + (txt (nthT l 0)).length + 1 := by omega
  have z2 : ¬ 9223372036854775807 < 1 + (txt (nthT l 0)).length + 1 + 1 := by omega
  have z3 : ¬ 9223372036854775807 < 1 + (txt (nthT l 0)).length + 1 + 1 + (dec (0)).length := by omega
  have z4 : ¬ 9223372036854775807 < 1 + (txt (nthT l 0)).length + 1 + 1 + (dec (0)).length + 1 := by omega
  clear EE hr he hlen hI hk hcells hkid hv2 ih hb0 hkd
  unfold TxIs at *
  generalize txt (nthT l 0) = tl at *
  generalize bs tl = ts at *
  generalize nthT l 0 = x at *
  generalize dec (0) = p at *
  generalize bs p = t1 at *
  simp only [Nat.zero_mul, Nat.add_zero] at k0 k1 k2 k3 k4 k5 k6 k7
  go_enter Tryd.func16, Tryd.ntmps16
  go_wp2_with (first | (go_at_call 16; (with_reducible refine hcall.mono ?_); rintro e w1 ⟨rfl, b1⟩; have hbw := HB.out w1 b1; obtain ⟨d0, d1, d2, d3, d4, d5, d6, d7⟩ := hbw.1.cells; simp only [Tr.kind, Tr.min, Tr.max] at d0 d5 d6 d7; obtain ⟨m0, m1, m2, m3, m4, m5, m6, m7⟩ := hbw.2; simp only [Nat.zero_mul, Nat.add_zero] at m0) | (go_at_call 30; go_loud ((with_reducible refine (hIt _).mono ?_); rintro e w2 ⟨rfl, hw2⟩; obtain rfl := hw2.symm)))
  go_ret
  exact ⟨rfl, chain B0 b1⟩
set_option maxHeartbeats 4000000 in
set_option maxRecDepth 100000 in
theorem tr5an (q : Q4) (l : List Tr)  (h1 : l.length = 1) (hkd : decide ((nthT l 0).kind = 1) = true) (ih : TxIs (nthT l 0)) : TxIs (.node 4 q (0) (0) l) := by
  intro v w hI hlen
  obtain ⟨o, cap, b', off, vs, rfl, hcap, hk⟩ := hI.form
  simp only [Tr.kids] at hcap hk ⊢
  simp only [Tr.kind, Tr.set, Tr.min, Tr.max]
  have hr : timesT (0) (0) = [123] ++ dec 0 ++ [125] := by rfl
  have he : txt (.node 4 q (0) (0) l) = par (!decide ((nthT l 0).kind = 1)) (txt (nthT l 0)) ++ timesT (0) (0) := by
    rw [txt_eq]
    match l, h1 with
    | [x], _ => rfl
  rw [he, hkd, hr] at hlen ⊢
  obtain ⟨rfl, hcm, hbl, hbB, hcells, hkid⟩ := hk 0 (by omega)
  rw [h1]
  have B0 : Below w.heap.size w (w.alloc (.cells #[.int .i64 4, .int .u64 q.a, .int .u64 q.b, .int .u64 q.c, .int .u64 q.d, .int .i64 (0), .int .i64 (0), .slice (some ⟨b', off, none⟩) 1 cap] 28)) := below_alloc _ _
  have hb0 : Box (w.alloc (.cells #[.int .i64 4, .int .u64 q.a, .int .u64 q.b, .int .u64 q.c, .int .u64 q.d, .int .i64 (0), .int .i64 (0), .slice (some ⟨b', off, none⟩) 1 cap] 28)) w.heap.size (.node 4 q (0) (0) l) (.slice (some ⟨b', off, none⟩) 1 cap) := box_new w (.node 4 q (0) (0) l) _
  have c := hb0.cells
  obtain ⟨c0, c1, c2, c3, c4, c5, c6, c7⟩ := c
  simp only [Tr.kind, Tr.set, Tr.min, Tr.max] at c0 c1 c2 c3 c4 c5 c6 c7
  have hkid2 := hkid.later B0
  have hcells2 : Cells (w.alloc (.cells #[.int .i64 4, .int .u64 q.a, .int .u64 q.b, .int .u64 q.c, .int .u64 q.d, .int .i64 (0), .int .i64 (0), .slice (some ⟨b', off, none⟩) 1 cap] 28)) b' (off + 0 * 8) (nthT l 0) (vs 0) := cells_old hcells hbl B0
  obtain ⟨o2, n2, cap2, hv2⟩ := hkid.shape
  rw [hv2] at hcells2 hkid2
  obtain ⟨k0, k1, k2, k3, k4, k5, k6, k7⟩ := hcells2
  have hst := bs_size (txt (nthT l 0))
  have hn0 : (txt (nthT l 0)).length ≤ 4294967296 := by
    have := hlen
    simp only [List.length_append, rp.par] at this
    simp at this
    omega
  have hcall := ih (.slice o2 n2 cap2) (w.alloc (.cells #[.int .i64 4, .int .u64 q.a, .int .u64 q.b, .int .u64 q.c, .int .u64 q.d, .int .i64 (0), .int .i64 (0), .slice (some ⟨b', off, none⟩) 1 cap] 28)) hkid2 hn0
  have HB := (show Hid (∀ W, Below (w.alloc (.cells #[.int .i64 4, .int .u64 q.a, .int .u64 q.b, .int .u64 q.c, .int .u64 q.d, .int .i64 (0), .int .i64 (0), .slice (some ⟨b', off, none⟩) 1 cap] 28)).heap.size (w.alloc (.cells #[.int .i64 4, .int .u64 q.a, .int .u64 q.b, .int .u64 q.c, .int .u64 q.d, .int .i64 (0), .int .i64 (0), .slice (some ⟨b', off, none⟩) 1 cap] 28)) W → Box W w.heap.size (.node 4 q (0) (0) l) (.slice (some ⟨b', off, none⟩) 1 cap) ∧ Cells W b' (off + 0 * 8) (nthT l 0) (.slice o2 n2 cap2)) from fun W h => ⟨hb0.below h, by
    have := (cells_old hcells hbl B0)
    rw [hv2] at this
    exact cells_old this (by simp; omega) h⟩)
  have hkk : ((nthT l 0).kind != 1) = !true := by rw [← hkd]; rfl
  have hIt := itoa_any (0) (by omega) (by omega)
  have hl := dec_len (0) (by omega)
  have hs := bs_size (dec (0))
  unfold ItoaIs at hIt
  have EE : Hid (bs (txt (nthT l 0)) ++ (⟨#[123]⟩ : ByteArray) ++ bs (dec (0)) ++ (⟨#[125]⟩ : ByteArray) = bs (par (!true) (txt (nthT l 0)) ++ ([123] ++ dec 0 ++ [125]))) := by
    show _ = _
    have e1 : par (!true) (txt (nthT l 0)) = txt (nthT l 0) := rfl
    rw [e1]
    simp only [← bs_append, ByteArray.append_assoc]
    rfl
  rw [← EE.out]
  have z0 : ¬ 9223372036854775807 < (txt (nthT l 0)).length + 1 := by omega
  have z1 : ¬ 9223372036854775807 < (txt (nthT l 0)).length + 1 + (dec (0)).length := by omega
  have z2 : ¬ 9223372036854775807 < (txt (nthT l 0)).length + 1 + (dec (0)).length + 1 := by omega
  clear EE hr he hlen hI hk hcells hkid hv2 ih hb0 hkd
  unfold TxIs at *
  generalize txt (nthT l 0) = tl at *
  generalize bs tl = ts at *
  generalize nthT l 0 = x at *
  generalize dec (0) = p at *
  generalize bs p = t1 at *
  simp only [Nat.zero_mul, Nat.add_zero] at k0 k1 k2 k3 k4 k5 k6 k7
  go_enter Tryd.func16, Tryd.ntmps16
  go_wp2_with (first | (go_at_call 16; (with_reducible refine hcall.mono ?_); rintro e w1 ⟨rfl, b1⟩; have hbw := HB.out w1 b1; obtain ⟨d0, d1, d2, d3, d4, d5, d6, d7⟩ := hbw.1.cells; simp only [Tr.kind, Tr.min, Tr.max] at d0 d5 d6 d7; obtain ⟨m0, m1, m2, m3, m4, m5, m6, m7⟩ := hbw.2; simp only [Nat.zero_mul, Nat.add_zero] at m0) | (go_at_call 30; go_loud ((with_reducible refine (hIt _).mono ?_); rintro e w2 ⟨rfl, hw2⟩; obtain rfl := hw2.symm)))
  go_ret
  exact ⟨rfl, chain B0 b1⟩
set_option maxHeartbeats 4000000 in
set_option maxRecDepth 100000 in
theorem tr5bp (q : Q4) (l : List Tr)  (h1 : l.length = 1) (hkd : decide ((nthT l 0).kind = 1) = false) (ih : TxIs (nthT l 0)) : TxIs (.node 4 q (1) (1) l) := by
  intro v w hI hlen
  obtain ⟨o, cap, b', off, vs, rfl, hcap, hk⟩ := hI.form
  simp only [Tr.kids] at hcap hk ⊢
  simp only [Tr.kind, Tr.set, Tr.min, Tr.max]
  have hr : timesT (1) (1) = [123] ++ dec 1 ++ [125] := by rfl
  have he : txt (.node 4 q (1) (1) l) = par (!decide ((nthT l 0).kind = 1)) (txt (nthT l 0)) ++ timesT (1) (1) := by
    rw [txt_eq]
    match l, h1 with
    | [x], _ => rfl
  rw [he, hkd, hr] at hlen ⊢
  obtain ⟨rfl, hcm, hbl, hbB, hcells, hkid⟩ := hk 0 (by omega)
  rw [h1]
  have B0 : Below w.heap.size w (w.alloc (.cells #[.int .i64 4, .int .u64 q.a, .int .u64 q.b, .int .u64 q.c, .int .u64 q.d, .int .i64 (1), .int .i64 (1), .slice (some ⟨b', off, none⟩) 1 cap] 28)) := below_alloc _ _
  have hb0 : Box (w.alloc (.cells #[.int .i64 4, .int .u64 q.a, .int .u64 q.b, .int .u64 q.c, .int .u64 q.d, .int .i64 (1), .int .i64 (1), .slice (some ⟨b', off, none⟩) 1 cap] 28)) w.heap.size (.node 4 q (1) (1) l) (.slice (some ⟨b', off, none⟩) 1 cap) := box_new w (.node 4 q (1) (1) l) _
  have c := hb0.cells
  obtain ⟨c0, c1, c2, c3, c4, c5, c6, c7⟩ := c
  simp only [Tr.kind, Tr.set, Tr.min, Tr.max] at c0 c1 c2 c3 c4 c5 c6 c7
  have hkid2 := hkid.later B0
  have hcells2 : Cells (w.alloc (.cells #[.int .i64 4, .int .u64 q.a, .int .u64 q.b, .int .u64 q.c, .int .u64 q.d, .int .i64 (1), .int .i64 (1), .slice (some ⟨b', off, none⟩) 1 cap] 28)) b' (off + 0 * 8) (nthT l 0) (vs 0) := cells_old hcells hbl B0
  obtain ⟨o2, n2, cap2, hv2⟩ := hkid.shape
  rw [hv2] at hcells2 hkid2
  obtain ⟨k0, k1, k2, k3, k4, k5, k6, k7⟩ := hcells2
  have hst := bs_size (txt (nthT l 0))
  have hn0 : (txt (nthT l 0)).length ≤ 4294967296 := by
    have := hlen
    simp only [List.length_append, rp.par] at this
    simp at this
    omega
  have hcall := ih (.slice o2 n2 cap2) (w.alloc (.cells #[.int .i64 4, .int .u64 q.a, .int .u64 q.b, .int .u64 q.c, .int .u64 q.d, .int .i64 (1), .int .i64 (1), .slice (some ⟨b', off, none⟩) 1 cap] 28)) hkid2 hn0
  have HB := (show Hid (∀ W, Below (w.alloc (.cells #[.int .i64 4, .int .u64 q.a, .int .u64 q.b, .int .u64 q.c, .int .u64 q.d, .int .i64 (1), .int .i64 (1), .slice (some ⟨b', off, none⟩) 1 cap] 28)).heap.size (w.alloc (.cells #[.int .i64 4, .int .u64 q.a, .int .u64 q.b, .int .u64 q.c, .int .u64 q.d, .int .i64 (1), .int .i64 (1), .slice (some ⟨b', off, none⟩) 1 cap] 28)) W → Box W w.heap.size (.node 4 q (1) (1) l) (.slice (some ⟨b', off, none⟩) 1 cap) ∧ Cells W b' (off + 0 * 8) (nthT l 0) (.slice o2 n2 cap2)) from fun W h => ⟨hb0.below h, by
    have := (cells_old hcells hbl B0)
    rw [hv2] at this
    exact cells_old this (by simp; omega) h⟩)
  have hkk : ((nthT l 0).kind != 1) = !false := by rw [← hkd]; rfl
  have hIt := itoa_any (1) (by omega) (by omega)
  have hl := dec_len (1) (by omega)
  have hs := bs_size (dec (1))
  unfold ItoaIs at hIt
  have EE : Hid (((⟨#[40]⟩ : ByteArray) ++ bs (txt (nthT l 0)) ++ ⟨#[41]⟩) ++ (⟨#[123]⟩ : ByteArray) ++ bs (dec (1)) ++ (⟨#[125]⟩ : ByteArray) = bs (par (!false) (txt (nthT l 0)) ++ ([123] ++ dec 1 ++ [125]))) := by
    show _ = _
    have e1 : par (!false) (txt (nthT l 0)) = [40] ++ txt (nthT l 0) ++ [41] := rfl
    rw [e1]
    simp only [← bs_append, ByteArray.append_assoc]
    rfl
  rw [← EE.out]
  have z0 : ¬ 9223372036854775807 < 1 + (txt (nthT l 0)).length := by omega
  have z1 : ¬ 9223372036854775807 < 1 + (txt (nthT l 0)).length + 1 := by omega
  have z2 : ¬ 9223372036854775807 < 1 + (txt (nthT l 0)).length + 1 + 1 := by omega
  have z3 : ¬ 9223372036854775807 < 1 + (txt (nthT l 0)).length + 1 + 1 + (dec (1)).length := by omega
  have z4 : ¬ 9223372036854775807 < 1 + (txt (nthT l 0)).length + 1 + 1 + (dec (1)).length + 1 := by omega
  clear EE hr he hlen hI hk hcells hkid hv2 ih hb0 hkd
  unfold TxIs at *
  generalize txt (nthT l 0) = tl at *
  generalize bs tl = ts at *
  generalize nthT l 0 = x at *
  generalize dec (1) = p at *
  generalize bs p = t1 at *
  simp only [Nat.zero_mul, Nat.add_zero] at k0 k1 k2 k3 k4 k5 k6 k7
  go_enter Tryd.func16, Tryd.ntmps16
  go_wp2_with (first | (go_at_call 16; (with_reducible refine hcall.mono ?_); rintro e w1 ⟨rfl, b1⟩; have hbw := HB.out w1 b1; obtain ⟨d0, d1, d2, d3, d4, d5, d6, d7⟩ := hbw.1.cells; simp only [Tr.kind, Tr.min, Tr.max] at d0 d5 d6 d7; obtain ⟨m0, m1, m2, m3, m4, m5, m6, m7⟩ := hbw.2; simp only [Nat.zero_mul, Nat.add_zero] at m0) | (go_at_call 30; go_loud ((with_reducible refine (hIt _).mono ?_); rintro e w2 ⟨rfl, hw2⟩; obtain rfl := hw2.symm)))
  go_ret
  exact ⟨rfl, chain B0 b1⟩
set_option maxHeartbeats 4000000 in
set_option maxRecDepth 100000 in
theorem tr5bn (q : Q4) (l : List Tr)  (h1 : l.length = 1) (hkd : decide ((nthT l 0).kind = 1) = true) (ih : TxIs (nthT l 0)) : TxIs (.node 4 q (1) (1) l) := by
  intro v w hI hlen
  obtain ⟨o, cap, b', off, vs, rfl, hcap, hk⟩ := hI.form
  simp only [Tr.kids] at hcap hk ⊢
  simp only [Tr.kind, Tr.set, Tr.min, Tr.max]
  have hr : timesT (1) (1) = [123] ++ dec 1 ++ [125] := by rfl
  have he : txt (.node 4 q (1) (1) l) = par (!decide ((nthT l 0).kind = 1)) (txt (nthT l 0)) ++ timesT (1) (1) := by
    rw [txt_eq]
    match l, h1 with
    | [x], _ => rfl
  rw [he, hkd, hr] at hlen ⊢
  obtain ⟨rfl, hcm, hbl, hbB, hcells, hkid⟩ := hk 0 (by omega)
  rw [h1]
  have B0 : Below w.heap.size w (w.alloc (.cells #[.int .i64 4, .int .u64 q.a, .int .u64 q.b, .int .u64 q.c, .int .u64 q.d, .int .i64 (1), .int .i64 (1), .slice (some ⟨b', off, none⟩) 1 cap] 28)) := below_alloc _ _
  have hb0 : Box (w.alloc (.cells #[.int .i64 4, .int .u64 q.a, .int .u64 q.b, .int .u64 q.c, .int .u64 q.d, .int .i64 (1), .int .i64 (1), .slice (some ⟨b', off, none⟩) 1 cap] 28)) w.heap.size (.node 4 q (1) (1) l) (.slice (some ⟨b', off, none⟩) 1 cap) := box_new w (.node 4 q (1) (1) l) _
  have c := hb0.cells
  obtain ⟨c0, c1, c2, c3, c4, c5, c6, c7⟩ := c
  simp only [Tr.kind, Tr.set, Tr.min, Tr.max] at c0 c1 c2 c3 c4 c5 c6 c7
  have hkid2 := hkid.later B0
  have hcells2 : Cells (w.alloc (.cells #[.int .i64 4, .int .u64 q.a, .int .u64 q.b, .int .u64 q.c, .int .u64 q.d, .int .i64 (1), .int .i64 (1), .slice (some ⟨b', off, none⟩) 1 cap] 28)) b' (off + 0 * 8) (nthT l 0) (vs 0) := cells_old hcells hbl B0
  obtain ⟨o2, n2, cap2, hv2⟩ := hkid.shape
  rw [hv2] at hcells2 hkid2
  obtain ⟨k0, k1, k2, k3, k4, k5, k6, k7⟩ := hcells2
  have hst := bs_size (txt (nthT l 0))
  have hn0 : (txt (nthT l 0)).length ≤ 4294967296 := by
    have := hlen
    simp only [List.length_append, rp.par] at this
    simp at this
    omega
  have hcall := ih (.slice o2 n2 cap2) (w.alloc (.cells #[.int .i64 4, .int .u64 q.a, .int .u64 q.b, .int .u64 q.c, .int .u64 q.d, .int .i64 (1), .int .i64 (1), .slice (some ⟨b', off, none⟩) 1 cap] 28)) hkid2 hn0
  have HB := (show Hid (∀ W, Below (w.alloc (.cells #[.int .i64 4, .int .u64 q.a, .int .u64 q.b, .int .u64 q.c, .int .u64 q.d, .int .i64 (1), .int .i64 (1), .slice (some ⟨b', off, none⟩) 1 cap] 28)).heap.size (w.alloc (.cells #[.int .i64 4, .int .u64 q.a, .int .u64 q.b, .int .u64 q.c, .int .u64 q.d, .int .i64 (1), .int .i64 (1), .slice (some ⟨b', off, none⟩) 1 cap] 28)) W → Box W w.heap.size (.node 4 q (1) (1) l) (.slice (some ⟨b', off, none⟩) 1 cap) ∧ Cells W b' (off + 0 * 8) (nthT l 0) (.slice o2 n2 cap2)) from fun W h => ⟨hb0.below h, by
    have := (cells_old hcells hbl B0)
    rw [hv2] at this
    exact cells_old this (by simp; omega) h⟩)
  have hkk : ((nthT l 0).kind != 1) = !true := by rw [← hkd]; rfl
  have hIt := itoa_any (1) (by omega) (by omega)
  have hl := dec_len (1) (by omega)
  have hs := bs_size (dec (1))
  unfold ItoaIs at hIt
  have EE : Hid (bs (txt (nthT l 0)) ++ (⟨#[123]⟩ : ByteArray) ++ bs (dec (1)) ++ (⟨#[125]⟩ : ByteArray) = bs (par (!true) (txt (nthT l 0)) ++ ([123] ++ dec 1 ++ [125]))) := by
    show _ = _
    have e1 : par (!true) (txt (nthT l 0)) = txt (nthT l 0) := rfl
    rw [e1]
    simp only [← bs_append, ByteArray.append_assoc]
    rfl
  rw [← EE.out]
  have z0 : ¬ 9223372036854775807 < (txt (nthT l 0)).length + 1 := by omega
  have z1 : ¬ 9223372036854775807 < (txt (nthT l 0)).length + 1 + (dec (1)).length := by omega
  have z2 : ¬ 9223372036854775807 < (txt (nthT l 0)).length + 1 + (dec (1)).length + 1 := by omega
  clear EE hr he hlen hI hk hcells hkid hv2 ih hb0 hkd
  unfold TxIs at *
  generalize txt (nthT l 0) = tl at *
  generalize bs tl = ts at *
  generalize nthT l 0 = x at *
  generalize dec (1) = p at *
  generalize bs p = t1 at *
  simp only [Nat.zero_mul, Nat.add_zero] at k0 k1 k2 k3 k4 k5 k6 k7
  go_enter Tryd.func16, Tryd.ntmps16
  go_wp2_with (first | (go_at_call 16; (with_reducible refine hcall.mono ?_); rintro e w1 ⟨rfl, b1⟩; have hbw := HB.out w1 b1; obtain ⟨d0, d1, d2, d3, d4, d5, d6, d7⟩ := hbw.1.cells; simp only [Tr.kind, Tr.min, Tr.max] at d0 d5 d6 d7; obtain ⟨m0, m1, m2, m3, m4, m5, m6, m7⟩ := hbw.2; simp only [Nat.zero_mul, Nat.add_zero] at m0) | (go_at_call 30; go_loud ((with_reducible refine (hIt _).mono ?_); rintro e w2 ⟨rfl, hw2⟩; obtain rfl := hw2.symm)))
  go_ret
  exact ⟨rfl, chain B0 b1⟩
set_option maxHeartbeats 4000000 in
set_option maxRecDepth 100000 in
theorem tr5cp (q : Q4) (l : List Tr) (mn : Int) (h0 : 0 ≤ mn) (h20 : mn ≤ 20) (n0 : ¬ mn = 0) (n1 : ¬ mn = 1) (h1 : l.length = 1) (hkd : decide ((nthT l 0).kind = 1) = false) (ih : TxIs (nthT l 0)) : TxIs (.node 4 q (mn) (mn) l) := by
  intro v w hI hlen
  obtain ⟨o, cap, b', off, vs, rfl, hcap, hk⟩ := hI.form
  simp only [Tr.kids] at hcap hk ⊢
  simp only [Tr.kind, Tr.set, Tr.min, Tr.max]
  have hr : timesT (mn) (mn) = [123] ++ dec mn ++ [125] := by unfold timesT; rw [if_neg (by omega), if_neg (by omega), if_neg (by omega), if_neg (by omega), if_pos rfl]; rfl
  have he : txt (.node 4 q (mn) (mn) l) = par (!decide ((nthT l 0).kind = 1)) (txt (nthT l 0)) ++ timesT (mn) (mn) := by
    rw [txt_eq]
    match l, h1 with
    | [x], _ => rfl
  rw [he, hkd, hr] at hlen ⊢
  obtain ⟨rfl, hcm, hbl, hbB, hcells, hkid⟩ := hk 0 (by omega)
  rw [h1]
  have B0 : Below w.heap.size w (w.alloc (.cells #[.int .i64 4, .int .u64 q.a, .int .u64 q.b, .int .u64 q.c, .int .u64 q.d, .int .i64 (mn), .int .i64 (mn), .slice (some ⟨b', off, none⟩) 1 cap] 28)) := below_alloc _ _
  have hb0 : Box (w.alloc (.cells #[.int .i64 4, .int .u64 q.a, .int .u64 q.b, .int .u64 q.c, .int .u64 q.d, .int .i64 (mn), .int .i64 (mn), .slice (some ⟨b', off, none⟩) 1 cap] 28)) w.heap.size (.node 4 q (mn) (mn) l) (.slice (some ⟨b', off, none⟩) 1 cap) := box_new w (.node 4 q (mn) (mn) l) _
  have c := hb0.cells
  obtain ⟨c0, c1, c2, c3, c4, c5, c6, c7⟩ := c
  simp only [Tr.kind, Tr.set, Tr.min, Tr.max] at c0 c1 c2 c3 c4 c5 c6 c7
  have hkid2 := hkid.later B0
  have hcells2 : Cells (w.alloc (.cells #[.int .i64 4, .int .u64 q.a, .int .u64 q.b, .int .u64 q.c, .int .u64 q.d, .int .i64 (mn), .int .i64 (mn), .slice (some ⟨b', off, none⟩) 1 cap] 28)) b' (off + 0 * 8) (nthT l 0) (vs 0) := cells_old hcells hbl B0
  obtain ⟨o2, n2, cap2, hv2⟩ := hkid.shape
  rw [hv2] at hcells2 hkid2
  obtain ⟨k0, k1, k2, k3, k4, k5, k6, k7⟩ := hcells2
  have hst := bs_size (txt (nthT l 0))
  have hn0 : (txt (nthT l 0)).length ≤ 4294967296 := by
    have := hlen
    simp only [List.length_append, rp.par] at this
    simp at this
    omega
  have hcall := ih (.slice o2 n2 cap2) (w.alloc (.cells #[.int .i64 4, .int .u64 q.a, .int .u64 q.b, .int .u64 q.c, .int .u64 q.d, .int .i64 (mn), .int .i64 (mn), .slice (some ⟨b', off, none⟩) 1 cap] 28)) hkid2 hn0
  have HB := (show Hid (∀ W, Below (w.alloc (.cells #[.int .i64 4, .int .u64 q.a, .int .u64 q.b, .int .u64 q.c, .int .u64 q.d, .int .i64 (mn), .int .i64 (mn), .slice (some ⟨b', off, none⟩) 1 cap] 28)).heap.size (w.alloc (.cells #[.int .i64 4, .int .u64 q.a, .int .u64 q.b, .int .u64 q.c, .int .u64 q.d, .int .i64 (mn), .int .i64 (mn), .slice (some ⟨b', off, none⟩) 1 cap] 28)) W → Box W w.heap.size (.node 4 q (mn) (mn) l) (.slice (some ⟨b', off, none⟩) 1 cap) ∧ Cells W b' (off + 0 * 8) (nthT l 0) (.slice o2 n2 cap2)) from fun W h => ⟨hb0.below h, by
    have := (cells_old hcells hbl B0)
    rw [hv2] at this
    exact cells_old this (by simp; omega) h⟩)
  have hkk : ((nthT l 0).kind != 1) = !false := by rw [← hkd]; rfl
  have f0 := beqn n0
  have f1 := beqn n1
  have f2 : (mn == -1) = false := beqn (by omega)
  have f6 : (mn != mn) = false := by simp
  have hIt := itoa_any (mn) (by omega) (by omega)
  have hl := dec_len (mn) (by omega)
  have hs := bs_size (dec (mn))
  unfold ItoaIs at hIt
  have EE : Hid (((⟨#[40]⟩ : ByteArray) ++ bs (txt (nthT l 0)) ++ ⟨#[41]⟩) ++ (⟨#[123]⟩ : ByteArray) ++ bs (dec (mn)) ++ (⟨#[125]⟩ : ByteArray) = bs (par (!false) (txt (nthT l 0)) ++ ([123] ++ dec mn ++ [125]))) := by
    show _ = _
    have e1 : par (!false) (txt (nthT l 0)) = [40] ++ txt (nthT l 0) ++ [41] := rfl
    rw [e1]
    simp only [← bs_append, ByteArray.append_assoc]
    rfl
  rw [← EE.out]
  have z0 : ¬ 9223372036854775807 < 1 + (txt (nthT l 0)).length := by omega
  have z1 : ¬ 9223372036854775807 < 1 + (txt (nthT l 0)).length + 1 := by omega
  have z2 : ¬ 9223372036854775807 < 1 + (txt (nthT l 0)).length + 1 + 1 := by omega
  have z3 : ¬ 9223372036854775807 < 1 + (txt (nthT l 0)).length + 1 + 1 + (dec (mn)).length := by omega
  have z4 : ¬ 9223372036854775807 < 1 + (txt (nthT l 0)).length + 1 + 1 + (dec (mn)).length + 1 := by omega
  clear EE hr he hlen hI hk hcells hkid hv2 ih hb0 hkd
  unfold TxIs at *
  generalize txt (nthT l 0) = tl at *
  generalize bs tl = ts at *
  generalize nthT l 0 = x at *
  generalize dec (mn) = p at *
  generalize bs p = t1 at *
  simp only [Nat.zero_mul, Nat.add_zero] at k0 k1 k2 k3 k4 k5 k6 k7
  go_enter Tryd.func16, Tryd.ntmps16
  go_wp2_with (first | (go_at_call 16; (with_reducible refine hcall.mono ?_); rintro e w1 ⟨rfl, b1⟩; have hbw := HB.out w1 b1; obtain ⟨d0, d1, d2, d3, d4, d5, d6, d7⟩ := hbw.1.cells; simp only [Tr.kind, Tr.min, Tr.max] at d0 d5 d6 d7; obtain ⟨m0, m1, m2, m3, m4, m5, m6, m7⟩ := hbw.2; simp only [Nat.zero_mul, Nat.add_zero] at m0) | (go_at_call 30; go_loud ((with_reducible refine (hIt _).mono ?_); rintro e w2 ⟨rfl, hw2⟩; obtain rfl := hw2.symm)))
  go_ret
  exact ⟨rfl, chain B0 b1⟩
set_option maxHeartbeats 4000000 in
set_option maxRecDepth 100000 in
theorem tr5cn (q : Q4) (l : List Tr) (mn : Int) (h0 : 0 ≤ mn) (h20 : mn ≤ 20) (n0 : ¬ mn = 0) (n1 : ¬ mn = 1) (h1 : l.length = 1) (hkd : decide ((nthT l 0).kind = 1) = true) (ih : TxIs (nthT l 0)) : TxIs (.node 4 q (mn) (mn) l) := by
  intro v w hI hlen
  obtain ⟨o, cap, b', off, vs, rfl, hcap, hk⟩ := hI.form
  simp only [Tr.kids] at hcap hk ⊢
  simp only [Tr.kind, Tr.set, Tr.min, Tr.max]
  have hr : timesT (mn) (mn) = [123] ++ dec mn ++ [125] := by unfold timesT; rw [if_neg (by omega), if_neg (by omega), if_neg (by omega), if_neg (by omega), if_pos rfl]; rfl
  have he : txt (.node 4 q (mn) (mn) l) = par (!decide ((nthT l 0).kind = 1)) (txt (nthT l 0)) ++ timesT (mn) (mn) := by
    rw [txt_eq]
    match l, h1 with
    | [x], _ => rfl
  rw [he, hkd, hr] at hlen ⊢
  obtain ⟨rfl, hcm, hbl, hbB, hcells, hkid⟩ := hk 0 (by omega)
  rw [h1]
  have B0 : Below w.heap.size w (w.alloc (.cells #[.int .i64 4, .int .u64 q.a, .int .u64 q.b, .int .u64 q.c, .int .u64 q.d, .int .i64 (mn), .int .i64 (mn), .slice (some ⟨b', off, none⟩) 1 cap] 28)) := below_alloc _ _
  have hb0 : Box (w.alloc (.cells #[.int .i64 4, .int .u64 q.a, .int .u64 q.b, .int .u64 q.c, .int .u64 q.d, .int .i64 (mn), .int .i64 (mn), .slice (some ⟨b', off, none⟩) 1 cap] 28)) w.heap.size (.node 4 q (mn) (mn) l) (.slice (some ⟨b', off, none⟩) 1 cap) := box_new w (.node 4 q (mn) (mn) l) _
  have c := hb0.cells
  obtain ⟨c0, c1, c2, c3, c4, c5, c6, c7⟩ := c
  simp only [Tr.kind, Tr.set, Tr.min, Tr.max] at c0 c1 c2 c3 c4 c5 c6 c7
  have hkid2 := hkid.later B0
  have hcells2 : Cells (w.alloc (.cells #[.int .i64 4, .int .u64 q.a, .int .u64 q.b, .int .u64 q.c, .int .u64 q.d, .int .i64 (mn), .int .i64 (mn), .slice (some ⟨b', off, none⟩) 1 cap] 28)) b' (off + 0 * 8) (nthT l 0) (vs 0) := cells_old hcells hbl B0
  obtain ⟨o2, n2, cap2, hv2⟩ := hkid.shape
  rw [hv2] at hcells2 hkid2
  obtain ⟨k0, k1, k2, k3, k4, k5, k6, k7⟩ := hcells2
  have hst := bs_size (txt (nthT l 0))
  have hn0 : (txt (nthT l 0)).length ≤ 4294967296 := by
    have := hlen
    simp only [List.length_append, rp.par] at this
    simp at this
    omega
  have hcall := ih (.slice o2 n2 cap2) (w.alloc (.cells #[.int .i64 4, .int .u64 q.a, .int .u64 q.b, .int .u64 q.c, .int .u64 q.d, .int .i64 (mn), .int .i64 (mn), .slice (some ⟨b', off, none⟩) 1 cap] 28)) hkid2 hn0
  have HB := (show Hid (∀ W, Below (w.alloc (.cells #[.int .i64 4, .int .u64 q.a, .int .u64 q.b, .int .u64 q.c, .int .u64 q.d, .int .i64 (mn), .int .i64 (mn), .slice (some ⟨b', off, none⟩) 1 cap] 28)).heap.size (w.alloc (.cells #[.int .i64 4, .int .u64 q.a, .int .u64 q.b, .int .u64 q.c, .int .u64 q.d, .int .i64 (mn), .int .i64 (mn), .slice (some ⟨b', off, none⟩) 1 cap] 28)) W → Box W w.heap.size (.node 4 q (mn) (mn) l) (.slice (some ⟨b', off, none⟩) 1 cap) ∧ Cells W b' (off + 0 * 8) (nthT l 0) (.slice o2 n2 cap2)) from fun W h => ⟨hb0.below h, by
    have := (cells_old hcells hbl B0)
    rw [hv2] at this
    exact cells_old this (by simp; omega) h⟩)
  have hkk : ((nthT l 0).kind != 1) = !true := by rw [← hkd]; rfl
  have f0 := beqn n0
  have f1 := beqn n1
  have f2 : (mn == -1) = false := beqn (by omega)
  have f6 : (mn != mn) = false := by simp
  have hIt := itoa_any (mn) (by omega) (by omega)
  have hl := dec_len (mn) (by omega)
  have hs := bs_size (dec (mn))
  unfold ItoaIs at hIt
  have EE : Hid (bs (txt (nthT l 0)) ++ (⟨#[123]⟩ : ByteArray) ++ bs (dec (mn)) ++ (⟨#[125]⟩ : ByteArray) = bs (par (!true) (txt (nthT l 0)) ++ ([123] ++ dec mn ++ [125]))) := by
    show _ = _
    have e1 : par (!true) (txt (nthT l 0)) = txt (nthT l 0) := rfl
    rw [e1]
    simp only [← bs_append, ByteArray.append_assoc]
    rfl
  rw [← EE.out]
  have z0 : ¬ 9223372036854775807 < (txt (nthT l 0)).length + 1 := by omega
  have z1 : ¬ 9223372036854775807 < (txt (nthT l 0)).length + 1 + (dec (mn)).length := by omega
  have z2 : ¬ 9223372036854775807 < (txt (nthT l 0)).length + 1 + (dec (mn)).length + 1 := by omega
  clear EE hr he hlen hI hk hcells hkid hv2 ih hb0 hkd
  unfold TxIs at *
  generalize txt (nthT l 0) = tl at *
  generalize bs tl = ts at *
  generalize nthT l 0 = x at *
  generalize dec (mn) = p at *
  generalize bs p = t1 at *
  simp only [Nat.zero_mul, Nat.add_zero] at k0 k1 k2 k3 k4 k5 k6 k7
  go_enter Tryd.func16, Tryd.ntmps16
  go_wp2_with (first | (go_at_call 16; (with_reducible refine hcall.mono ?_); rintro e w1 ⟨rfl, b1⟩; have hbw := HB.out w1 b1; obtain ⟨d0, d1, d2, d3, d4, d5, d6, d7⟩ := hbw.1.cells; simp only [Tr.kind, Tr.min, Tr.max] at d0 d5 d6 d7; obtain ⟨m0, m1, m2, m3, m4, m5, m6, m7⟩ := hbw.2; simp only [Nat.zero_mul, Nat.add_zero] at m0) | (go_at_call 30; go_loud ((with_reducible refine (hIt _).mono ?_); rintro e w2 ⟨rfl, hw2⟩; obtain rfl := hw2.symm)))
  go_ret
  exact ⟨rfl, chain B0 b1⟩
set_option maxHeartbeats 4000000 in
set_option maxRecDepth 100000 in
theorem tr6ap (q : Q4) (l : List Tr) (mx : Int) (h0 : 0 ≤ mx) (h20 : mx ≤ 20) (n0 : ¬ mx = 0) (n1 : ¬ mx = 1) (h1 : l.length = 1) (hkd : decide ((nthT l 0).kind = 1) = false) (ih : TxIs (nthT l 0)) : TxIs (.node 4 q (0) (mx) l) := by
  intro v w hI hlen
  obtain ⟨o, cap, b', off, vs, rfl, hcap, hk⟩ := hI.form
  simp only [Tr.kids] at hcap hk ⊢
  simp only [Tr.kind, Tr.set, Tr.min, Tr.max]
  have hr : timesT (0) (mx) = [123] ++ dec 0 ++ [44] ++ dec mx ++ [125] := by unfold timesT; rw [if_neg (by omega), if_neg (by omega), if_neg (by omega), if_neg (by omega), if_neg (by omega)]; simp
  have he : txt (.node 4 q (0) (mx) l) = par (!decide ((nthT l 0).kind = 1)) (txt (nthT l 0)) ++ timesT (0) (mx) := by
    rw [txt_eq]
    match l, h1 with
    | [x], _ => rfl
  rw [he, hkd, hr] at hlen ⊢
  obtain ⟨rfl, hcm, hbl, hbB, hcells, hkid⟩ := hk 0 (by omega)
  rw [h1]
  have B0 : Below w.heap.size w (w.alloc (.cells #[.int .i64 4, .int .u64 q.a, .int .u64 q.b, .int .u64 q.c, .int .u64 q.d, .int .i64 (0), .int .i64 (mx), .slice (some ⟨b', off, none⟩) 1 cap] 28)) := below_alloc _ _
  have hb0 : Box (w.alloc (.cells #[.int .i64 4, .int .u64 q.a, .int .u64 q.b, .int .u64 q.c, .int .u64 q.d, .int .i64 (0), .int .i64 (mx), .slice (some ⟨b', off, none⟩) 1 cap] 28)) w.heap.size (.node 4 q (0) (mx) l) (.slice (some ⟨b', off, none⟩) 1 cap) := box_new w (.node 4 q (0) (mx) l) _
  have c := hb0.cells
  obtain ⟨c0, c1, c2, c3, c4, c5, c6, c7⟩ := c
  simp only [Tr.kind, Tr.set, Tr.min, Tr.max] at c0 c1 c2 c3 c4 c5 c6 c7
  have hkid2 := hkid.later B0
  have hcells2 : Cells (w.alloc (.cells #[.int .i64 4, .int .u64 q.a, .int .u64 q.b, .int .u64 q.c, .int .u64 q.d, .int .i64 (0), .int .i64 (mx), .slice (some ⟨b', off, none⟩) 1 cap] 28)) b' (off + 0 * 8) (nthT l 0) (vs 0) := cells_old hcells hbl B0
  obtain ⟨o2, n2, cap2, hv2⟩ := hkid.shape
  rw [hv2] at hcells2 hkid2
  obtain ⟨k0, k1, k2, k3, k4, k5, k6, k7⟩ := hcells2
  have hst := bs_size (txt (nthT l 0))
  have hn0 : (txt (nthT l 0)).length ≤ 4294967296 := by
    have := hlen
    simp only [List.length_append, rp.par] at this
    simp at this
    omega
  have hcall := ih (.slice o2 n2 cap2) (w.alloc (.cells #[.int .i64 4, .int .u64 q.a, .int .u64 q.b, .int .u64 q.c, .int .u64 q.d, .int .i64 (0), .int .i64 (mx), .slice (some ⟨b', off, none⟩) 1 cap] 28)) hkid2 hn0
  have HB := (show Hid (∀ W, Below (w.alloc (.cells #[.int .i64 4, .int .u64 q.a, .int .u64 q.b, .int .u64 q.c, .int .u64 q.d, .int .i64 (0), .int .i64 (mx), .slice (some ⟨b', off, none⟩) 1 cap] 28)).heap.size (w.alloc (.cells #[.int .i64 4, .int .u64 q.a, .int .u64 q.b, .int .u64 q.c, .int .u64 q.d, .int .i64 (0), .int .i64 (mx), .slice (some ⟨b', off, none⟩) 1 cap] 28)) W → Box W w.heap.size (.node 4 q (0) (mx) l) (.slice (some ⟨b', off, none⟩) 1 cap) ∧ Cells W b' (off + 0 * 8) (nthT l 0) (.slice o2 n2 cap2)) from fun W h => ⟨hb0.below h, by
    have := (cells_old hcells hbl B0)
    rw [hv2] at this
    exact cells_old this (by simp; omega) h⟩)
  have hkk : ((nthT l 0).kind != 1) = !false := by rw [← hkd]; rfl
  have f0 := beqn n0
  have f1 := beqn n1
  have f2 : (mx == -1) = false := beqn (by omega)
  have f6 : (mx != 0) = true := by simpa using n0
  have hIt := itoa_any (0) (by omega) (by omega)
  have hl := dec_len (0) (by omega)
  have hs := bs_size (dec (0))
  unfold ItoaIs at hIt
  have hJt := itoa_any (mx) (by omega) (by omega)
  have hl2 := dec_len (mx) (by omega)
  have hs2 := bs_size (dec (mx))
  unfold ItoaIs at hJt
  have EE : Hid (((⟨#[40]⟩ : ByteArray) ++ bs (txt (nthT l 0)) ++ ⟨#[41]⟩) ++ (⟨#[123]⟩ : ByteArray) ++ bs (dec (0)) ++ (⟨#[44]⟩ : ByteArray) ++ bs (dec (mx)) ++ (⟨#[125]⟩ : ByteArray) = bs (par (!false) (txt (nthT l 0)) ++ ([123] ++ dec 0 ++ [44] ++ dec mx ++ [125]))) := by
    show _ = _
    have e1 : par (!false) (txt (nthT l 0)) = [40] ++ txt (nthT l 0) ++ [41] := rfl
    rw [e1]
    simp only [← bs_append, ByteArray.append_assoc]
    rfl
  rw [← EE.out]
  have z0 : ¬ 9223372036854775807 < 1 + (txt (nthT l 0)).length := by omega
  have z1 : ¬ 9223372036854775807 < 1 + (txt (nthT l 0)).length + 1 := by omega
  have z2 : ¬ 9223372036854775807 < 1 + (txt (nthT l 0)).length + 1 + 1 := by omega
  have z3 : ¬ 9223372036854775807 < 1 + (txt (nthT l 0)).length + 1 + 1 + (dec (0)).length := by omega
  have z4 : ¬ 9223372036854775807 < 1 + (txt (nthT l 0)).length + 1 + 1 + (dec (0)).length + 1 := by omega
  have z5 : ¬ 9223372036854775807 < 1 + (txt (nthT l 0)).length + 1 + 1 + (dec (0)).length + 1 + (dec (mx)).length := by omega
  have z6 : ¬ 9223372036854775807 < 1 + (txt (nthT l 0)).length + 1 + 1 + (dec (0)).length + 1 + (dec (mx)).length + 1 := by omega
  clear EE hr he hlen hI hk hcells hkid hv2 ih hb0 hkd
  unfold TxIs at *
  generalize txt (nthT l 0) = tl at *
  generalize bs tl = ts at *
  generalize nthT l 0 = x at *
  generalize dec (0) = p at *
  generalize dec (mx) = p2 at *
  generalize bs p2 = t2 at *
  generalize bs p = t1 at *
  simp only [Nat.zero_mul, Nat.add_zero] at k0 k1 k2 k3 k4 k5 k6 k7
  go_enter Tryd.func16, Tryd.ntmps16
  go_wp2_with (first | (go_at_call 16; (with_reducible refine hcall.mono ?_); rintro e w1 ⟨rfl, b1⟩; have hbw := HB.out w1 b1; obtain ⟨d0, d1, d2, d3, d4, d5, d6, d7⟩ := hbw.1.cells; simp only [Tr.kind, Tr.min, Tr.max] at d0 d5 d6 d7; obtain ⟨m0, m1, m2, m3, m4, m5, m6, m7⟩ := hbw.2; simp only [Nat.zero_mul, Nat.add_zero] at m0) | (go_at_call 30; go_loud ((with_reducible refine (hIt _).mono ?_); rintro e w2 ⟨rfl, hw2⟩; obtain rfl := hw2.symm)) | (go_at_call 30; (with_reducible refine (hJt _).mono ?_); rintro e w3 ⟨rfl, hw3⟩; obtain rfl := hw3.symm))
  go_ret
  exact ⟨rfl, chain B0 b1⟩
set_option maxHeartbeats 4000000 in
set_option maxRecDepth 100000 in
theorem tr6an (q : Q4) (l : List Tr) (mx : Int) (h0 : 0 ≤ mx) (h20 : mx ≤ 20) (n0 : ¬ mx = 0) (n1 : ¬ mx = 1) (h1 : l.length = 1) (hkd : decide ((nthT l 0).kind = 1) = true) (ih : TxIs (nthT l 0)) : TxIs (.node 4 q (0) (mx) l) := by
  intro v w hI hlen
  obtain ⟨o, cap, b', off, vs, rfl, hcap, hk⟩ := hI.form
  simp only [Tr.kids] at hcap hk ⊢
  simp only [Tr.kind, Tr.set, Tr.min, Tr.max]
  have hr : timesT (0) (mx) = [123] ++ dec 0 ++ [44] ++ dec mx ++ [125] := by unfold timesT; rw [if_neg (by omega), if_neg (by omega), if_neg (by omega), if_neg (by omega), if_neg (by omega)]; simp
  have he : txt (.node 4 q (0) (mx) l) = par (!decide ((nthT l 0).kind = 1)) (txt (nthT l 0)) ++ timesT (0) (mx) := by
    rw [txt_eq]
    match l, h1 with
    | [x], _ => rfl
  rw [he, hkd, hr] at hlen ⊢
  obtain ⟨rfl, hcm, hbl, hbB, hcells, hkid⟩ := hk 0 (by omega)
  rw [h1]
  have B0 : Below w.heap.size w (w.alloc (.cells #[.int .i64 4, .int .u64 q.a, .int .u64 q.b, .int .u64 q.c, .int .u64 q.d, .int .i64 (0), .int .i64 (mx), .slice (some ⟨b', off, none⟩) 1 cap] 28)) := below_alloc _ _
  have hb0 : Box (w.alloc (.cells #[.int .i64 4, .int .u64 q.a, .int .u64 q.b, .int .u64 q.c, .int .u64 q.d, .int .i64 (0), .int .i64 (mx), .slice (some ⟨b', off, none⟩) 1 cap] 28)) w.heap.size (.node 4 q (0) (mx) l) (.slice (some ⟨b', off, none⟩) 1 cap) := box_new w (.node 4 q (0) (mx) l) _
  have c := hb0.cells
  obtain ⟨c0, c1, c2, c3, c4, c5, c6, c7⟩ := c
  simp only [Tr.kind, Tr.set, Tr.min, Tr.max] at c0 c1 c2 c3 c4 c5 c6 c7
  have hkid2 := hkid.later B0
  have hcells2 : Cells (w.alloc (.cells #[.int .i64 4, .int .u64 q.a, .int .u64 q.b, .int .u64 q.c, .int .u64 q.d, .int .i64 (0), .int .i64 (mx), .slice (some ⟨b', off, none⟩) 1 cap] 28)) b' (off + 0 * 8) (nthT l 0) (vs 0) := cells_old hcells hbl B0
  obtain ⟨o2, n2, cap2, hv2⟩ := hkid.shape
  rw [hv2] at hcells2 hkid2
  obtain ⟨k0, k1, k2, k3, k4, k5, k6, k7⟩ := hcells2
  have hst := bs_size (txt (nthT l 0))
  have hn0 : (txt (nthT l 0)).length ≤ 4294967296 := by
    have := hlen
    simp only [List.length_append, rp.par] at this
    simp at this
    omega
  have hcall := ih (.slice o2 n2 cap2) (w.alloc (.cells #[.int .i64 4, .int .u64 q.a, .int .u64 q.b, .int .u64 q.c, .int .u64 q.d, .int .i64 (0), .int .i64 (mx), .slice (some ⟨b', off, none⟩) 1 cap] 28)) hkid2 hn0
  have HB := (show Hid (∀ W, Below (w.alloc (.cells #[.int .i64 4, .int .u64 q.a, .int .u64 q.b, .int .u64 q.c, .int .u64 q.d, .int .i64 (0), .int .i64 (mx), .slice (some ⟨b', off, none⟩) 1 cap] 28)).heap.size (w.alloc (.cells #[.int .i64 4, .int .u64 q.a, .int .u64 q.b, .int .u64 q.c, .int .u64 q.d, .int .i64 (0), .int .i64 (mx), .slice (some ⟨b', off, none⟩) 1 cap] 28)) W → Box W w.heap.size (.node 4 q (0) (mx) l) (.slice (some ⟨b', off, none⟩) 1 cap) ∧ Cells W b' (off + 0 * 8) (nthT l 0) (.slice o2 n2 cap2)) from fun W h => ⟨hb0.below h, by
    have := (cells_old hcells hbl B0)
    rw [hv2] at this
    exact cells_old this (by simp; omega) h⟩)
  have hkk : ((nthT l 0).kind != 1) = !true := by rw [← hkd]; rfl
  have f0 := beqn n0
  have f1 := beqn n1
  have f2 : (mx == -1) = false := beqn (by omega)
  have f6 : (mx != 0) = true := by simpa using n0
  have hIt := itoa_any (0) (by omega) (by omega)
  have hl := dec_len (0) (by omega)
  have hs := bs_size (dec (0))
  unfold ItoaIs at hIt
  have hJt := itoa_any (mx) (by omega) (by omega)
  have hl2 := dec_len (mx) (by omega)
  have hs2 := bs_size (dec (mx))
  unfold ItoaIs at hJt
  have EE : Hid (bs (txt (nthT l 0)) ++ (⟨#[123]⟩ : ByteArray) ++ bs (dec (0)) ++ (⟨#[44]⟩ : ByteArray) ++ bs (dec (mx)) ++ (⟨#[125]⟩ : ByteArray) = bs (par (!true) (txt (nthT l 0)) ++ ([123] ++ dec 0 ++ [44] ++ dec mx ++ [125]))) := by
    show _ = _
    have e1 : par (!true) (txt (nthT l 0)) = txt (nthT l 0) := rfl
    rw [e1]
    simp only [← bs_append, ByteArray.append_assoc]
    rfl
  rw [← EE.out]
  have z0 : ¬ 9223372036854775807 < (txt (nthT l 0)).length + 1 := by omega
  have z1 : ¬ 9223372036854775807 < (txt (nthT l 0)).length + 1 + (dec (0)).length := by omega
  have z2 : ¬ 9223372036854775807 < (txt (nthT l 0)).length + 1 + (dec (0)).length + 1 := by omega
  have z3 : ¬ 9223372036854775807 < (txt (nthT l 0)).length + 1 + (dec (0)).length + 1 + (dec (mx)).length := by omega
  have z4 : ¬ 9223372036854775807 < (txt (nthT l 0)).length + 1 + (dec (0)).length + 1 + (dec (mx)).length + 1 := by omega
  clear EE hr he hlen hI hk hcells hkid hv2 ih hb0 hkd
  unfold TxIs at *
  generalize txt (nthT l 0) = tl at *
  generalize bs tl = ts at *
  generalize nthT l 0 = x at *
  generalize dec (0) = p at *
  generalize dec (mx) = p2 at *
  generalize bs p2 = t2 at *
  generalize bs p = t1 at *
  simp only [Nat.zero_mul, Nat.add_zero] at k0 k1 k2 k3 k4 k5 k6 k7
  go_enter Tryd.func16, Tryd.ntmps16
  go_wp2_with (first | (go_at_call 16; (with_reducible refine hcall.mono ?_); rintro e w1 ⟨rfl, b1⟩; have hbw := HB.out w1 b1; obtain ⟨d0, d1, d2, d3, d4, d5, d6, d7⟩ := hbw.1.cells; simp only [Tr.kind, Tr.min, Tr.max] at d0 d5 d6 d7; obtain ⟨m0, m1, m2, m3, m4, m5, m6, m7⟩ := hbw.2; simp only [Nat.zero_mul, Nat.add_zero] at m0) | (go_at_call 30; go_loud ((with_reducible refine (hIt _).mono ?_); rintro e w2 ⟨rfl, hw2⟩; obtain rfl := hw2.symm)) | (go_at_call 30; (with_reducible refine (hJt _).mono ?_); rintro e w3 ⟨rfl, hw3⟩; obtain rfl := hw3.symm))
  go_ret
  exact ⟨rfl, chain B0 b1⟩
set_option maxHeartbeats 4000000 in
set_option maxRecDepth 100000 in
theorem tr6bp (q : Q4) (l : List Tr) (mx : Int) (h0 : 0 ≤ mx) (h20 : mx ≤ 20) (n1 : ¬ mx = 1) (h1 : l.length = 1) (hkd : decide ((nthT l 0).kind = 1) = false) (ih : TxIs (nthT l 0)) : TxIs (.node 4 q (1) (mx) l) := by
  intro v w hI hlen
  obtain ⟨o, cap, b', off, vs, rfl, hcap, hk⟩ := hI.form
  simp only [Tr.kids] at hcap hk ⊢
  simp only [Tr.kind, Tr.set, Tr.min, Tr.max]
  have hr : timesT (1) (mx) = [123] ++ dec 1 ++ [44] ++ dec mx ++ [125] := by unfold timesT; rw [if_neg (by omega), if_neg (by omega), if_neg (by omega), if_neg (by omega), if_neg (by omega)]; simp
  have he : txt (.node 4 q (1) (mx) l) = par (!decide ((nthT l 0).kind = 1)) (txt (nthT l 0)) ++ timesT (1) (mx) := by
    rw [txt_eq]
    match l, h1 with
    | [x], _ => rfl
  rw [he, hkd, hr] at hlen ⊢
  obtain ⟨rfl, hcm, hbl, hbB, hcells, hkid⟩ := hk 0 (by omega)
  rw [h1]
  have B0 : Below w.heap.size w (w.alloc (.cells #[.int .i64 4, .int .u64 q.a, .int .u64 q.b, .int .u64 q.c, .int .u64 q.d, .int .i64 (1), .int .i64 (mx), .slice (some ⟨b', off, none⟩) 1 cap] 28)) := below_alloc _ _
  have hb0 : Box (w.alloc (.cells #[.int .i64 4, .int .u64 q.a, .int .u64 q.b, .int .u64 q.c, .int .u64 q.d, .int .i64 (1), .int .i64 (mx), .slice (some ⟨b', off, none⟩) 1 cap] 28)) w.heap.size (.node 4 q (1) (mx) l) (.slice (some ⟨b', off, none⟩) 1 cap) := box_new w (.node 4 q (1) (mx) l) _
  have c := hb0.cells
  obtain ⟨c0, c1, c2, c3, c4, c5, c6, c7⟩ := c
  simp only [Tr.kind, Tr.set, Tr.min, Tr.max] at c0 c1 c2 c3 c4 c5 c6 c7
  have hkid2 := hkid.later B0
  have hcells2 : Cells (w.alloc (.cells #[.int .i64 4, .int .u64 q.a, .int .u64 q.b, .int .u64 q.c, .int .u64 q.d, .int .i64 (1), .int .i64 (mx), .slice (some ⟨b', off, none⟩) 1 cap] 28)) b' (off + 0 * 8) (nthT l 0) (vs 0) := cells_old hcells hbl B0
  obtain ⟨o2, n2, cap2, hv2⟩ := hkid.shape
  rw [hv2] at hcells2 hkid2
  obtain ⟨k0, k1, k2, k3, k4, k5, k6, k7⟩ := hcells2
  have hst := bs_size (txt (nthT l 0))
  have hn0 : (txt (nthT l 0)).length ≤ 4294967296 := by
    have := hlen
    simp only [List.length_append, rp.par] at this
    simp at this
    omega
  have hcall := ih (.slice o2 n2 cap2) (w.alloc (.cells #[.int .i64 4, .int .u64 q.a, .int .u64 q.b, .int .u64 q.c, .int .u64 q.d, .int .i64 (1), .int .i64 (mx), .slice (some ⟨b', off, none⟩) 1 cap] 28)) hkid2 hn0
  have HB := (show Hid (∀ W, Below (w.alloc (.cells #[.int .i64 4, .int .u64 q.a, .int .u64 q.b, .int .u64 q.c, .int .u64 q.d, .int .i64 (1), .int .i64 (mx), .slice (some ⟨b', off, none⟩) 1 cap] 28)).heap.size (w.alloc (.cells #[.int .i64 4, .int .u64 q.a, .int .u64 q.b, .int .u64 q.c, .int .u64 q.d, .int .i64 (1), .int .i64 (mx), .slice (some ⟨b', off, none⟩) 1 cap] 28)) W → Box W w.heap.size (.node 4 q (1) (mx) l) (.slice (some ⟨b', off, none⟩) 1 cap) ∧ Cells W b' (off + 0 * 8) (nthT l 0) (.slice o2 n2 cap2)) from fun W h => ⟨hb0.below h, by
    have := (cells_old hcells hbl B0)
    rw [hv2] at this
    exact cells_old this (by simp; omega) h⟩)
  have hkk : ((nthT l 0).kind != 1) = !false := by rw [← hkd]; rfl
  have f1 := beqn n1
  have f2 : (mx == -1) = false := beqn (by omega)
  have f6 : (mx != 1) = true := by simpa using n1
  have hIt := itoa_any (1) (by omega) (by omega)
  have hl := dec_len (1) (by omega)
  have hs := bs_size (dec (1))
  unfold ItoaIs at hIt
  have hJt := itoa_any (mx) (by omega) (by omega)
  have hl2 := dec_len (mx) (by omega)
  have hs2 := bs_size (dec (mx))
  unfold ItoaIs at hJt
  have EE : Hid (((⟨#[40]⟩ : ByteArray) ++ bs (txt (nthT l 0)) ++ ⟨#[41]⟩) ++ (⟨#[123]⟩ : ByteArray) ++ bs (dec (1)) ++ (⟨#[44]⟩ : ByteArray) ++ bs (dec (mx)) ++ (⟨#[125]⟩ : ByteArray) = bs (par (!false) (txt (nthT l 0)) ++ ([123] ++ dec 1 ++ [44] ++ dec mx ++ [125]))) := by
    show _ = _
    have e1 : par (!false) (txt (nthT l 0)) = [40] ++ txt (nthT l 0) ++ [41] := rfl
    rw [e1]
    simp only [← bs_append, ByteArray.append_assoc]
    rfl
  rw [← EE.out]
  have z0 : ¬ 9223372036854775807 < 1 + (txt (nthT l 0)).length := by omega
  have z1 : ¬ 9223372036854775807 < 1 + (txt (nthT l 0)).length + 1 := by omega
  have z2 : ¬ 9223372036854775807 < 1 + (txt (nthT l 0)).length + 1 + 1 := by omega
  have z3 : ¬ 9223372036854775807 < 1 + (txt (nthT l 0)).length + 1 + 1 + (dec (1)).length := by omega
  have z4 : ¬ 9223372036854775807 < 1 + (txt (nthT l 0)).length + 1 + 1 + (dec (1)).length + 1 := by omega
  have z5 : ¬ 9223372036854775807 < 1 + (txt (nthT l 0)).length + 1 + 1 + (dec (1)).length + 1 + (dec (mx)).length := by omega
  have z6 : ¬ 9223372036854775807 < 1 + (txt (nthT l 0)).length + 1 + 1 + (dec (1)).length + 1 + (dec (mx)).length + 1 := by omega
  clear EE hr he hlen hI hk hcells hkid hv2 ih hb0 hkd
  unfold TxIs at *
  generalize txt (nthT l 0) = tl at *
  generalize bs tl = ts at *
  generalize nthT l 0 = x at *
  generalize dec (1) = p at *
  generalize dec (mx) = p2 at *
  generalize bs p2 = t2 at *
  generalize bs p = t1 at *
  simp only [Nat.zero_mul, Nat.add_zero] at k0 k1 k2 k3 k4 k5 k6 k7
  go_enter Tryd.func16, Tryd.ntmps16
  go_wp2_with (first | (go_at_call 16; (with_reducible refine hcall.mono ?_); rintro e w1 ⟨rfl, b1⟩; have hbw := HB.out w1 b1; obtain ⟨d0, d1, d2, d3, d4, d5, d6, d7⟩ := hbw.1.cells; simp only [Tr.kind, Tr.min, Tr.max] at d0 d5 d6 d7; obtain ⟨m0, m1, m2, m3, m4, m5, m6, m7⟩ := hbw.2; simp only [Nat.zero_mul, Nat.add_zero] at m0) | (go_at_call 30; go_loud ((with_reducible refine (hIt _).mono ?_); rintro e w2 ⟨rfl, hw2⟩; obtain rfl := hw2.symm)) | (go_at_call 30; (with_reducible refine (hJt _).mono ?_); rintro e w3 ⟨rfl, hw3⟩; obtain rfl := hw3.symm))
  go_ret
  exact ⟨rfl, chain B0 b1⟩
set_option maxHeartbeats 4000000 in
set_option maxRecDepth 100000 in
theorem tr6bn (q : Q4) (l : List Tr) (mx : Int) (h0 : 0 ≤ mx) (h20 : mx ≤ 20) (n1 : ¬ mx = 1) (h1 : l.length = 1) (hkd : decide ((nthT l 0).kind = 1) = true) (ih : TxIs (nthT l 0)) : TxIs (.node 4 q (1) (mx) l) := by
  intro v w hI hlen
  obtain ⟨o, cap, b', off, vs, rfl, hcap, hk⟩ := hI.form
  simp only [Tr.kids] at hcap hk ⊢
  simp only [Tr.kind, Tr.set, Tr.min, Tr.max]
  have hr : timesT (1) (mx) = [123] ++ dec 1 ++ [44] ++ dec mx ++ [125] := by unfold timesT; rw [if_neg (by omega), if_neg (by omega), if_neg (by omega), if_neg (by omega), if_neg (by omega)]; simp
  have he : txt (.node 4 q (1) (mx) l) = par (!decide ((nthT l 0).kind = 1)) (txt (nthT l 0)) ++ timesT (1) (mx) := by
    rw [txt_eq]
    match l, h1 with
    | [x], _ => rfl
  rw [he, hkd, hr] at hlen ⊢
  obtain ⟨rfl, hcm, hbl, hbB, hcells, hkid⟩ := hk 0 (by omega)
  rw [h1]
  have B0 : Below w.heap.size w (w.alloc (.cells #[.int .i64 4, .int .u64 q.a, .int .u64 q.b, .int .u64 q.c, .int .u64 q.d, .int .i64 (1), .int .i64 (mx), .slice (some ⟨b', off, none⟩) 1 cap] 28)) := below_alloc _ _
  have hb0 : Box (w.alloc (.cells #[.int .i64 4, .int .u64 q.a, .int .u64 q.b, .int .u64 q.c, .int .u64 q.d, .int .i64 (1), .int .i64 (mx), .slice (some ⟨b', off, none⟩) 1 cap] 28)) w.heap.size (.node 4 q (1) (mx) l) (.slice (some ⟨b', off, none⟩) 1 cap) := box_new w (.node 4 q (1) (mx) l) _
  have c := hb0.cells
  obtain ⟨c0, c1, c2, c3, c4, c5, c6, c7⟩ := c
  simp only [Tr.kind, Tr.set, Tr.min, Tr.max] at c0 c1 c2 c3 c4 c5 c6 c7
  have hkid2 := hkid.later B0
  have hcells2 : Cells (w.alloc (.cells #[.int .i64 4, .int .u64 q.a, .int .u64 q.b, .int .u64 q.c, .int .u64 q.d, .int .i64 (1), .int .i64 (mx), .slice (some ⟨b', off, none⟩) 1 cap] 28)) b' (off + 0 * 8) (nthT l 0) (vs 0) := cells_old hcells hbl B0
  obtain ⟨o2, n2, cap2, hv2⟩ := hkid.shape
  rw [hv2] at hcells2 hkid2
  obtain ⟨k0, k1, k2, k3, k4, k5, k6, k7⟩ := hcells2
  have hst := bs_size (txt (nthT l 0))
  have hn0 : (txt (nthT l 0)).length ≤ 4294967296 := by
    have := hlen
    simp only [List.length_append, rp.par] at this
    simp at this
    omega
  have hcall := ih (.slice o2 n2 cap2) (w.alloc (.cells #[.int .i64 4, .int .u64 q.a, .int .u64 q.b, .int .u64 q.c, .int .u64 q.d, .int .i64 (1), .int .i64 (mx), .slice (some ⟨b', off, none⟩) 1 cap] 28)) hkid2 hn0
  have HB := (show Hid (∀ W, Below (w.alloc (.cells #[.int .i64 4, .int .u64 q.a, .int .u64 q.b, .int .u64 q.c, .int .u64 q.d, .int .i64 (1), .int .i64 (mx), .slice (some ⟨b', off, none⟩) 1 cap] 28)).heap.size (w.alloc (.cells #[.int .i64 4, .int .u64 q.a, .int .u64 q.b, .int .u64 q.c, .int .u64 q.d, .int .i64 (1), .int .i64 (mx), .slice (some ⟨b', off, none⟩) 1 cap] 28)) W → Box W w.heap.size (.node 4 q (1) (mx) l) (.slice (some ⟨b', off, none⟩) 1 cap) ∧ Cells W b' (off + 0 * 8) (nthT l 0) (.slice o2 n2 cap2)) from fun W h => ⟨hb0.below h, by
    have := (cells_old hcells hbl B0)
    rw [hv2] at this
    exact cells_old this (by simp; omega) h⟩)
  have hkk : ((nthT l 0).kind != 1) = !true := by rw [← hkd]; rfl
  have f1 := beqn n1
  have f2 : (mx == -1) = false := beqn (by omega)
  have f6 : (mx != 1) = true := by simpa using n1
  have hIt := itoa_any (1) (by omega) (by omega)
  have hl := dec_len (1) (by omega)
  have hs := bs_size (dec (1))
  unfold ItoaIs at hIt
  have hJt := itoa_any (mx) (by omega) (by omega)
  have hl2 := dec_len (mx) (by omega)
  have hs2 := bs_size (dec (mx))
  unfold ItoaIs at hJt
  have EE : Hid (bs (txt (nthT l 0)) ++ (⟨#[123]⟩ : ByteArray) ++ bs (dec (1)) ++ (⟨#[44]⟩ : ByteArray) ++ bs (dec (mx)) ++ (⟨#[125]⟩ : ByteArray) = bs (par (!true) (txt (nthT l 0)) ++ ([123] ++ dec 1 ++ [44] ++ dec mx ++ [125]))) := by
    show _ = _
    have e1 : par (!true) (txt (nthT l 0)) = txt (nthT l 0) := rfl
    rw [e1]
    simp only [← bs_append, ByteArray.append_assoc]
    rfl
  rw [← EE.out]
  have z0 : ¬ 9223372036854775807 < (txt (nthT l 0)).length + 1 := by omega
  have z1 : ¬ 9223372036854775807 < (txt (nthT l 0)).length + 1 + (dec (1)).length := by omega
  have z2 : ¬ 9223372036854775807 < (txt (nthT l 0)).length + 1 + (dec (1)).length + 1 := by omega
  have z3 : ¬ 9223372036854775807 < (txt (nthT l 0)).length + 1 + (dec (1)).length + 1 + (dec (mx)).length := by omega
  have z4 : ¬ 9223372036854775807 < (txt (nthT l 0)).length + 1 + (dec (1)).length + 1 + (dec (mx)).length + 1 := by omega
  clear EE hr he hlen hI hk hcells hkid hv2 ih hb0 hkd
  unfold TxIs at *
  generalize txt (nthT l 0) = tl at *
  generalize bs tl = ts at *
  generalize nthT l 0 = x at *
  generalize dec (1) = p at *
  generalize dec (mx) = p2 at *
  generalize bs p2 = t2 at *
  generalize bs p = t1 at *
  simp only [Nat.zero_mul, Nat.add_zero] at k0 k1 k2 k3 k4 k5 k6 k7
  go_enter Tryd.func16, Tryd.ntmps16
  go_wp2_with (first | (go_at_call 16; (with_reducible refine hcall.mono ?_); rintro e w1 ⟨rfl, b1⟩; have hbw := HB.out w1 b1; obtain ⟨d0, d1, d2, d3, d4, d5, d6, d7⟩ := hbw.1.cells; simp only [Tr.kind, Tr.min, Tr.max] at d0 d5 d6 d7; obtain ⟨m0, m1, m2, m3, m4, m5, m6, m7⟩ := hbw.2; simp only [Nat.zero_mul, Nat.add_zero] at m0) | (go_at_call 30; go_loud ((with_reducible refine (hIt _).mono ?_); rintro e w2 ⟨rfl, hw2⟩; obtain rfl := hw2.symm)) | (go_at_call 30; (with_reducible refine (hJt _).mono ?_); rintro e w3 ⟨rfl, hw3⟩; obtain rfl := hw3.symm))
  go_ret
  exact ⟨rfl, chain B0 b1⟩
set_option maxHeartbeats 4000000 in
set_option maxRecDepth 100000 in
theorem tr6cp (q : Q4) (l : List Tr) (mn : Int) (g0 : 0 ≤ mn) (g20 : mn ≤ 20) (m0 : ¬ mn = 0) (m1 : ¬ mn = 1) (mx : Int) (h0 : 0 ≤ mx) (h20 : mx ≤ 20) (nm : ¬ mx = mn) (x1 : ¬ mx = 1) (h1 : l.length = 1) (hkd : decide ((nthT l 0).kind = 1) = false) (ih : TxIs (nthT l 0)) : TxIs (.node 4 q (mn) (mx) l) := by
  intro v w hI hlen
  obtain ⟨o, cap, b', off, vs, rfl, hcap, hk⟩ := hI.form
  simp only [Tr.kids] at hcap hk ⊢
  simp only [Tr.kind, Tr.set, Tr.min, Tr.max]
  have hr : timesT (mn) (mx) = [123] ++ dec mn ++ [44] ++ dec mx ++ [125] := by unfold timesT; rw [if_neg (by omega), if_neg (by omega), if_neg (by omega), if_neg (by omega), if_neg (by omega)]; simp
  have he : txt (.node 4 q (mn) (mx) l) = par (!decide ((nthT l 0).kind = 1)) (txt (nthT l 0)) ++ timesT (mn) (mx) := by
    rw [txt_eq]
    match l, h1 with
    | [x], _ => rfl
  rw [he, hkd, hr] at hlen ⊢
  obtain ⟨rfl, hcm, hbl, hbB, hcells, hkid⟩ := hk 0 (by omega)
  rw [h1]
  have B0 : Below w.heap.size w (w.alloc (.cells #[.int .i64 4, .int .u64 q.a, .int .u64 q.b, .int .u64 q.c, .int .u64 q.d, .int .i64 (mn), .int .i64 (mx), .slice (some ⟨b', off, none⟩) 1 cap] 28)) := below_alloc _ _
  have hb0 : Box (w.alloc (.cells #[.int .i64 4, .int .u64 q.a, .int .u64 q.b, .int .u64 q.c, .int .u64 q.d, .int .i64 (mn), .int .i64 (mx), .slice (some ⟨b', off, none⟩) 1 cap] 28)) w.heap.size (.node 4 q (mn) (mx) l) (.slice (some ⟨b', off, none⟩) 1 cap) := box_new w (.node 4 q (mn) (mx) l) _
  have c := hb0.cells
  obtain ⟨c0, c1, c2, c3, c4, c5, c6, c7⟩ := c
  simp only [Tr.kind, Tr.set, Tr.min, Tr.max] at c0 c1 c2 c3 c4 c5 c6 c7
  have hkid2 := hkid.later B0
  have hcells2 : Cells (w.alloc (.cells #[.int .i64 4, .int .u64 q.a, .int .u64 q.b, .int .u64 q.c, .int .u64 q.d, .int .i64 (mn), .int .i64 (mx), .slice (some ⟨b', off, none⟩) 1 cap] 28)) b' (off + 0 * 8) (nthT l 0) (vs 0) := cells_old hcells hbl B0
  obtain ⟨o2, n2, cap2, hv2⟩ := hkid.shape
  rw [hv2] at hcells2 hkid2
  obtain ⟨k0, k1, k2, k3, k4, k5, k6, k7⟩ := hcells2
  have hst := bs_size (txt (nthT l 0))
  have hn0 : (txt (nthT l 0)).length ≤ 4294967296 := by
    have := hlen
    simp only [List.length_append, rp.par] at this
    simp at this
    omega
  have hcall := ih (.slice o2 n2 cap2) (w.alloc (.cells #[.int .i64 4, .int .u64 q.a, .int .u64 q.b, .int .u64 q.c, .int .u64 q.d, .int .i64 (mn), .int .i64 (mx), .slice (some ⟨b', off, none⟩) 1 cap] 28)) hkid2 hn0
  have HB := (show Hid (∀ W, Below (w.alloc (.cells #[.int .i64 4, .int .u64 q.a, .int .u64 q.b, .int .u64 q.c, .int .u64 q.d, .int .i64 (mn), .int .i64 (mx), .slice (some ⟨b', off, none⟩) 1 cap] 28)).heap.size (w.alloc (.cells #[.int .i64 4, .int .u64 q.a, .int .u64 q.b, .int .u64 q.c, .int .u64 q.d, .int .i64 (mn), .int .i64 (mx), .slice (some ⟨b', off, none⟩) 1 cap] 28)) W → Box W w.heap.size (.node 4 q (mn) (mx) l) (.slice (some ⟨b', off, none⟩) 1 cap) ∧ Cells W b' (off + 0 * 8) (nthT l 0) (.slice o2 n2 cap2)) from fun W h => ⟨hb0.below h, by
    have := (cells_old hcells hbl B0)
    rw [hv2] at this
    exact cells_old this (by simp; omega) h⟩)
  have hkk : ((nthT l 0).kind != 1) = !false := by rw [← hkd]; rfl
  have f0 := beqn m0
  have f1 := beqn m1
  have f7 := beqn x1
  have f3 := beqn nm
  have f2 : (mx == -1) = false := beqn (by omega)
  have f6 : (mx != mn) = true := by simpa using nm
  have hIt := itoa_any (mn) (by omega) (by omega)
  have hl := dec_len (mn) (by omega)
  have hs := bs_size (dec (mn))
  unfold ItoaIs at hIt
  have hJt := itoa_any (mx) (by omega) (by omega)
  have hl2 := dec_len (mx) (by omega)
  have hs2 := bs_size (dec (mx))
  unfold ItoaIs at hJt
  have EE : Hid (((⟨#[40]⟩ : ByteArray) ++ bs (txt (nthT l 0)) ++ ⟨#[41]⟩) ++ (⟨#[123]⟩ : ByteArray) ++ bs (dec (mn)) ++ (⟨#[44]⟩ : ByteArray) ++ bs (dec (mx)) ++ (⟨#[125]⟩ : ByteArray) = bs (par (!false) (txt (nthT l 0)) ++ ([123] ++ dec mn ++ [44] ++ dec mx ++ [125]))) := by
    show _ = _
    have e1 : par (!false) (txt (nthT l 0)) = [40] ++ txt (nthT l 0) ++ [41] := rfl
    rw [e1]
    simp only [← bs_append, ByteArray.append_assoc]
    rfl
  rw [← EE.out]
  have z0 : ¬ 9223372036854775807 < 1 + (txt (nthT l 0)).length := by omega
  have z1 : ¬ 9223372036854775807 < 1 + (txt (nthT l 0)).length + 1 := by omega
  have z2 : ¬ 9223372036854775807 < 1 + (txt (nthT l 0)).length + 1 + 1 := by omega
  have z3 : ¬ 9223372036854775807 < 1 + (txt (nthT l 0)).length + 1 + 1 + (dec (mn)).length := by omega
  have z4 : ¬ 9223372036854775807 < 1 + (txt (nthT l 0)).length + 1 + 1 + (dec (mn)).length + 1 := by omega
  have z5 : ¬ 9223372036854775807 < 1 + (txt (nthT l 0)).length + 1 + 1 + (dec (mn)).length + 1 + (dec (mx)).length := by omega
  have z6 : ¬ 9223372036854775807 < 1 + (txt (nthT l 0)).length + 1 + 1 + (dec (mn)).length + 1 + (dec (mx)).length + 1 := by omega
  clear EE hr he hlen hI hk hcells hkid hv2 ih hb0 hkd
  unfold TxIs at *
  generalize txt (nthT l 0) = tl at *
  generalize bs tl = ts at *
  generalize nthT l 0 = x at *
  generalize dec (mn) = p at *
  generalize dec (mx) = p2 at *
  generalize bs p2 = t2 at *
  generalize bs p = t1 at *
  simp only [Nat.zero_mul, Nat.add_zero] at k0 k1 k2 k3 k4 k5 k6 k7
  go_enter Tryd.func16, Tryd.ntmps16
  go_wp2_with (first | (go_at_call 16; (with_reducible refine hcall.mono ?_); rintro e w1 ⟨rfl, b1⟩; have hbw := HB.out w1 b1; obtain ⟨d0, d1, d2, d3, d4, d5, d6, d7⟩ := hbw.1.cells; simp only [Tr.kind, Tr.min, Tr.max] at d0 d5 d6 d7; obtain ⟨m0, m1, m2, m3, m4, m5, m6, m7⟩ := hbw.2; simp only [Nat.zero_mul, Nat.add_zero] at m0) | (go_at_call 30; go_loud ((with_reducible refine (hIt _).mono ?_); rintro e w2 ⟨rfl, hw2⟩; obtain rfl := hw2.symm)) | (go_at_call 30; (with_reducible refine (hJt _).mono ?_); rintro e w3 ⟨rfl, hw3⟩; obtain rfl := hw3.symm))
  go_ret
  exact ⟨rfl, chain B0 b1⟩
set_option maxHeartbeats 4000000 in
set_option maxRecDepth 100000 in
theorem tr6cn (q : Q4) (l : List Tr) (mn : Int) (g0 : 0 ≤ mn) (g20 : mn ≤ 20) (m0 : ¬ mn = 0) (m1 : ¬ mn = 1) (mx : Int) (h0 : 0 ≤ mx) (h20 : mx ≤ 20) (nm : ¬ mx = mn) (x1 : ¬ mx = 1) (h1 : l.length = 1) (hkd : decide ((nthT l 0).kind = 1) = true) (ih : TxIs (nthT l 0)) : TxIs (.node 4 q (mn) (mx) l) := by
  intro v w hI hlen
  obtain ⟨o, cap, b', off, vs, rfl, hcap, hk⟩ := hI.form
  simp only [Tr.kids] at hcap hk ⊢
  simp only [Tr.kind, Tr.set, Tr.min, Tr.max]
  have hr : timesT (mn) (mx) = [123] ++ dec mn ++ [44] ++ dec mx ++ [125] := by unfold timesT; rw [if_neg (by omega), if_neg (by omega), if_neg (by omega), if_neg (by omega), if_neg (by omega)]; simp
  have he : txt (.node 4 q (mn) (mx) l) = par (!decide ((nthT l 0).kind = 1)) (txt (nthT l 0)) ++ timesT (mn) (mx) := by
    rw [txt_eq]
    match l, h1 with
    | [x], _ => rfl
  rw [he, hkd, hr] at hlen ⊢
  obtain ⟨rfl, hcm, hbl, hbB, hcells, hkid⟩ := hk 0 (by omega)
  rw [h1]
  have B0 : Below w.heap.size w (w.alloc (.cells #[.int .i64 4, .int .u64 q.a, .int .u64 q.b, .int .u64 q.c, .int .u64 q.d, .int .i64 (mn), .int .i64 (mx), .slice (some ⟨b', off, none⟩) 1 cap] 28)) := below_alloc _ _
  have hb0 : Box (w.alloc (.cells #[.int .i64 4, .int .u64 q.a, .int .u64 q.b, .int .u64 q.c, .int .u64 q.d, .int .i64 (mn), .int .i64 (mx), .slice (some ⟨b', off, none⟩) 1 cap] 28)) w.heap.size (.node 4 q (mn) (mx) l) (.slice (some ⟨b', off, none⟩) 1 cap) := box_new w (.node 4 q (mn) (mx) l) _
  have c := hb0.cells
  obtain ⟨c0, c1, c2, c3, c4, c5, c6, c7⟩ := c
  simp only [Tr.kind, Tr.set, Tr.min, Tr.max] at c0 c1 c2 c3 c4 c5 c6 c7
  have hkid2 := hkid.later B0
  have hcells2 : Cells (w.alloc (.cells #[.int .i64 4, .int .u64 q.a, .int .u64 q.b, .int .u64 q.c, .int .u64 q.d, .int .i64 (mn), .int .i64 (mx), .slice (some ⟨b', off, none⟩) 1 cap] 28)) b' (off + 0 * 8) (nthT l 0) (vs 0) := cells_old hcells hbl B0
  obtain ⟨o2, n2, cap2, hv2⟩ := hkid.shape
  rw [hv2] at hcells2 hkid2
  obtain ⟨k0, k1, k2, k3, k4, k5, k6, k7⟩ := hcells2
  have hst := bs_size (txt (nthT l 0))
  have hn0 : (txt (nthT l 0)).length ≤ 4294967296 := by
    have := hlen
    simp only [List.length_append, rp.par] at this
    simp at this
    omega
  have hcall := ih (.slice o2 n2 cap2) (w.alloc (.cells #[.int .i64 4, .int .u64 q.a, .int .u64 q.b, .int .u64 q.c, .int .u64 q.d, .int .i64 (mn), .int .i64 (mx), .slice (some ⟨b', off, none⟩) 1 cap] 28)) hkid2 hn0
  have HB := (show Hid (∀ W, Below (w.alloc (.cells #[.int .i64 4, .int .u64 q.a, .int .u64 q.b, .int .u64 q.c, .int .u64 q.d, .int .i64 (mn), .int .i64 (mx), .slice (some ⟨b', off, none⟩) 1 cap] 28)).heap.size (w.alloc (.cells #[.int .i64 4, .int .u64 q.a, .int .u64 q.b, .int .u64 q.c, .int .u64 q.d, .int .i64 (mn), .int .i64 (mx), .slice (some ⟨b', off, none⟩) 1 cap] 28)) W → Box W w.heap.size (.node 4 q (mn) (mx) l) (.slice (some ⟨b', off, none⟩) 1 cap) ∧ Cells W b' (off + 0 * 8) (nthT l 0) (.slice o2 n2 cap2)) from fun W h => ⟨hb0.below h, by
    have := (cells_old hcells hbl B0)
    rw [hv2] at this
    exact cells_old this (by simp; omega) h⟩)
  have hkk : ((nthT l 0).kind != 1) = !true := by rw [← hkd]; rfl
  have f0 := beqn m0
  have f1 := beqn m1
  have f7 := beqn x1
  have f3 := beqn nm
  have f2 : (mx == -1) = false := beqn (by omega)
  have f6 : (mx != mn) = true := by simpa using nm
  have hIt := itoa_any (mn) (by omega) (by omega)
  have hl := dec_len (mn) (by omega)
  have hs := bs_size (dec (mn))
  unfold ItoaIs at hIt
  have hJt := itoa_any (mx) (by omega) (by omega)
  have hl2 := dec_len (mx) (by omega)
  have hs2 := bs_size (dec (mx))
  unfold ItoaIs at hJt
  have EE : Hid (bs (txt (nthT l 0)) ++ (⟨#[123]⟩ : ByteArray) ++ bs (dec (mn)) ++ (⟨#[44]⟩ : ByteArray) ++ bs (dec (mx)) ++ (⟨#[125]⟩ : ByteArray) = bs (par (!true) (txt (nthT l 0)) ++ ([123] ++ dec mn ++ [44] ++ dec mx ++ [125]))) := by
    show _ = _
    have e1 : par (!true) (txt (nthT l 0)) = txt (nthT l 0) := rfl
    rw [e1]
    simp only [← bs_append, ByteArray.append_assoc]
    rfl
  rw [← EE.out]
  have z0 : ¬ 9223372036854775807 < (txt (nthT l 0)).length + 1 := by omega
  have z1 : ¬ 9223372036854775807 < (txt (nthT l 0)).length + 1 + (dec (mn)).length := by omega
  have z2 : ¬ 9223372036854775807 < (txt (nthT l 0)).length + 1 + (dec (mn)).length + 1 := by omega
  have z3 : ¬ 9223372036854775807 < (txt (nthT l 0)).length + 1 + (dec (mn)).length + 1 + (dec (mx)).length := by omega
  have z4 : ¬ 9223372036854775807 < (txt (nthT l 0)).length + 1 + (dec (mn)).length + 1 + (dec (mx)).length + 1 := by omega
  clear EE hr he hlen hI hk hcells hkid hv2 ih hb0 hkd
  unfold TxIs at *
  generalize txt (nthT l 0) = tl at *
  generalize bs tl = ts at *
  generalize nthT l 0 = x at *
  generalize dec (mn) = p at *
  generalize dec (mx) = p2 at *
  generalize bs p2 = t2 at *
  generalize bs p = t1 at *
  simp only [Nat.zero_mul, Nat.add_zero] at k0 k1 k2 k3 k4 k5 k6 k7
  go_enter Tryd.func16, Tryd.ntmps16
  go_wp2_with (first | (go_at_call 16; (with_reducible refine hcall.mono ?_); rintro e w1 ⟨rfl, b1⟩; have hbw := HB.out w1 b1; obtain ⟨d0, d1, d2, d3, d4, d5, d6, d7⟩ := hbw.1.cells; simp only [Tr.kind, Tr.min, Tr.max] at d0 d5 d6 d7; obtain ⟨m0, m1, m2, m3, m4, m5, m6, m7⟩ := hbw.2; simp only [Nat.zero_mul, Nat.add_zero] at m0) | (go_at_call 30; go_loud ((with_reducible refine (hIt _).mono ?_); rintro e w2 ⟨rfl, hw2⟩; obtain rfl := hw2.symm)) | (go_at_call 30; (with_reducible refine (hJt _).mono ?_); rintro e w3 ⟨rfl, hw3⟩; obtain rfl := hw3.symm))
  go_ret
  exact ⟨rfl, chain B0 b1⟩
theorem times_le {mn mx : Int} (h : timesOk mn mx = true) (x : ¬ mx = -1) : mn ≤ mx := by
  unfold timesOk at h
  simp only [Bool.and_eq_true, Bool.or_eq_true, decide_eq_true_eq] at h
  omega
theorem tx_rep (q : Q4) (mn mx : Int) (l : List Tr) (h : timesOk mn mx = true) (h1 : l.length = 1) (ih : TxIs (nthT l 0)) : TxIs (.node 4 q mn mx l) := by
  obtain ⟨a0, a20, b0, b20⟩ := times_bounds h
  cases hkd : decide ((nthT l 0).kind = 1)
  · by_cases x : mx = -1
    · subst x
      by_cases n0 : mn = 0
      · subst n0; exact tr1p q l h1 hkd ih
      · by_cases n1 : mn = 1
        · subst n1; exact tr2p q l h1 hkd ih
        · exact tr4p q l mn a0 a20 n0 n1 h1 hkd ih
    · have hle := times_le h x
      by_cases hm : mx = mn
      · subst hm
        by_cases n0 : mx = 0
        · subst n0; exact tr5ap q l h1 hkd ih
        · by_cases n1 : mx = 1
          · subst n1; exact tr5bp q l h1 hkd ih
          · exact tr5cp q l mx a0 a20 n0 n1 h1 hkd ih
      · by_cases n0 : mn = 0
        · subst n0
          by_cases n1 : mx = 1
          · subst n1; exact tr3p q l h1 hkd ih
          · exact tr6ap q l mx (by omega) b20 hm n1 h1 hkd ih
        · by_cases n1 : mn = 1
          · subst n1
            exact tr6bp q l mx (by omega) b20 hm h1 hkd ih
          · exact tr6cp q l mn a0 a20 n0 n1 mx (by omega) b20 hm (by omega) h1 hkd ih
  · by_cases x : mx = -1
    · subst x
      by_cases n0 : mn = 0
      · subst n0; exact tr1n q l h1 hkd ih
      · by_cases n1 : mn = 1
        · subst n1; exact tr2n q l h1 hkd ih
        · exact tr4n q l mn a0 a20 n0 n1 h1 hkd ih
    · have hle := times_le h x
      by_cases hm : mx = mn
      · subst hm
        by_cases n0 : mx = 0
        · subst n0; exact tr5an q l h1 hkd ih
        · by_cases n1 : mx = 1
          · subst n1; exact tr5bn q l h1 hkd ih
          · exact tr5cn q l mx a0 a20 n0 n1 h1 hkd ih
      · by_cases n0 : mn = 0
        · subst n0
          by_cases n1 : mx = 1
          · subst n1; exact tr3n q l h1 hkd ih
          · exact tr6an q l mx (by omega) b20 hm n1 h1 hkd ih
        · by_cases n1 : mn = 1
          · subst n1
            exact tr6bn q l mx (by omega) b20 hm h1 hkd ih
          · exact tr6cn q l mn a0 a20 n0 n1 mx (by omega) b20 hm (by omega) h1 hkd ih
theorem text_any (d : Nat) : ∀ t : Tr, t.depth ≤ d → t.good = true → t.sane → TxIs t := by
  induction d with
  | zero => intro t hd; have := t.depth_eq; omega
  | succ d ih =>
    intro t hd hg hs
    have hDe := t.depth_eq
    have hge := t.good_eq
    rw [hg] at hge
    have hok : okNode t = true := by
      cases hx : okNode t
      · rw [hx] at hge; simp at hge
      · rfl
    have hgs : goods t.kids = true := by rw [hok] at hge; simpa using hge.symm
    have kid : ∀ i, i < t.kids.length → TxIs (nthT t.kids i) := fun i hi => by
      refine ih _ ?_ ?_ ?_
      · have := depth_nth t.kids i hi; omega
      · cases hx : (nthT t.kids i).good
        · have := goods_false t.kids i hi hx
          rw [this] at hgs; simp at hgs
        · rfl
      · exact sane_nth t hs i hi
    have hk := ok_kind hok
    have hfit : Fits t.set := sane_fits t hs
    cases t with
    | node k q mn mx l =>
      simp only [Tr.kind, Tr.kids, Tr.set] at hk kid hfit
      rcases hk with rfl | rfl | rfl | rfl
      · exact tx_set q hfit mn mx l
      · exact tx_cat q mn mx l kid
      · exact tx_alt q mn mx l kid
      · have ht := ok_times hok rfl
        simp only [Tr.min, Tr.max, Tr.kids] at ht
        exact tx_rep q mn mx l ht.1 ht.2 (kid 0 (by omega))
end Go.Proofs.YtfclidcfhadohaaDoor.rp
