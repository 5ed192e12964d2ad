/-
  Contracts over this program: Print, the program's and the document's; the law RegexPrints.
-/
import Derived.Test.YtfclidcfhadohaaDoorPn
namespace Go.Proofs.YtfclidcfhadohaaDoor.rp
open Go.Proofs.YtfclidcfhadohaaDoor.st
open Go.Proofs.YtfclidcfhadohaaDoor.sp (chain)
open Go.ChangeShapes Go.WideShapes Go.ChangeAt Go.RowKit
set_option linter.unusedVariables false

theorem bd_len (B b : Nat) (out : L8) (w : World) (h : Bd B b out w) : Calls Tryd.prog 13 #[.pointer (some ⟨b, 0, none⟩)] w fun e w' => e = .returned (.int .i64 out.length) ∧ w' = w := by
  have hl : (Lib.byteCells out).length = out.length := bld.byteCells_length out
  obtain ⟨p, hB, v, hb, own, hne⟩ : ∃ p, Lib.BuilderAtF 42 5 B b p (Lib.byteCells out) w := h.elim (fun x => ⟨_, x⟩) (fun x => ⟨_, x⟩)
  have c1 : w.cell? ⟨b, 1, none⟩ = some v := by rw [Lib.cell_of_heap hb]; rfl
  rcases own.2 with ⟨rfl, h0⟩ | ⟨g, cap, cur, fz, rfl, _⟩
  · have hz : out.length = 0 := by omega
    rw [hz]
    clear h hb own hne hl hz h0
    go_enter Tryd.func13, Tryd.ntmps13
    go_wp2
    go_ret
    exact ⟨rfl, rfl⟩
  · rw [hl] at c1
    clear h hb own hne hl
    go_enter Tryd.func13, Tryd.ntmps13
    go_wp2
    go_ret
    exact ⟨rfl, rfl⟩

theorem good_of {t : Tr} (h : rightN t = 0) : t.good = true ∧ t.nodes ≤ 512 := by
  unfold rightN at h
  split at h
  · rename_i hh
    cases hg : t.good
    · rw [hg] at h; simp at h
    · exact ⟨rfl, hh.2⟩
  · omega
def outN (t : Tr) : L8 := if rightN t = 0 ∧ (txt t).length ≤ 512 then txt t else []
def errN (t : Tr) : Nat := if rightN t = 0 then (if (txt t).length ≤ 512 then 0 else 2) else rightN t
def PrIs (f : FuncId) (t : Tr) (r : L8) (n : Nat) : Prop := ∀ v w, Is w (fun _ => True) t v → Calls Tryd.prog f #[.agg #[.int .i64 t.kind, .int .u64 t.set.a, .int .u64 t.set.b, .int .u64 t.set.c, .int .u64 t.set.d, .int .i64 t.min, .int .i64 t.max, v]] w fun e w' => e = .returned (.tuple #[.string (bs r), .int .i64 n]) ∧ Below w.heap.size w w'
set_option maxHeartbeats 2000000 in
set_option maxRecDepth 100000 in
theorem print_no (t : Tr) (h : rightN t ≠ 0) : PrIs 6 t [] (rightN t) := by
  intro v w hI
  obtain ⟨o, n, cap, rfl⟩ := hI.shape
  have B0 : Below w.heap.size w (w.alloc (.cells #[.int .i64 t.kind, .int .u64 t.set.a, .int .u64 t.set.b, .int .u64 t.set.c, .int .u64 t.set.d, .int .i64 t.min, .int .i64 t.max, .slice o n cap] 28)) := below_alloc _ _
  have c := (box_new w t (.slice o n cap)).cells
  obtain ⟨c0, c1, c2, c3, c4, c5, c6, c7⟩ := c
  have hr := right_is t _ rfl (.slice o n cap) (w.alloc (.cells #[.int .i64 t.kind, .int .u64 t.set.a, .int .u64 t.set.b, .int .u64 t.set.c, .int .u64 t.set.d, .int .i64 t.min, .int .i64 t.max, .slice o n cap] 28)) (hI.later B0)
  have hne : ((rightN t : Int) != 0) = true := by simp; omega
  generalize rightN t = r at *
  go_enter Tryd.func6, Tryd.ntmps6
  go_wp2_with (go_at_call 11; (with_reducible refine hr.mono ?_); rintro e w1 ⟨rfl, b1⟩)
  go_ret2
  exact ⟨rfl, chain B0 b1⟩
set_option maxHeartbeats 2000000 in
set_option maxRecDepth 100000 in
theorem rprint_no (t : Tr) (h : rightN t ≠ 0) : PrIs 7 t [] (rightN t) := by
  intro v w hI
  obtain ⟨o, n, cap, rfl⟩ := hI.shape
  have B0 : Below w.heap.size w (w.alloc (.cells #[.int .i64 t.kind, .int .u64 t.set.a, .int .u64 t.set.b, .int .u64 t.set.c, .int .u64 t.set.d, .int .i64 t.min, .int .i64 t.max, .slice o n cap] 28)) := below_alloc _ _
  have c := (box_new w t (.slice o n cap)).cells
  obtain ⟨c0, c1, c2, c3, c4, c5, c6, c7⟩ := c
  have hr := rright_is t _ rfl (.slice o n cap) (w.alloc (.cells #[.int .i64 t.kind, .int .u64 t.set.a, .int .u64 t.set.b, .int .u64 t.set.c, .int .u64 t.set.d, .int .i64 t.min, .int .i64 t.max, .slice o n cap] 28)) (hI.later B0)
  have hne : ((rightN t : Int) != 0) = true := by simp; omega
  generalize rightN t = r at *
  go_enter Tryd.func7, Tryd.ntmps7
  go_wp2_with (go_at_call 15; (with_reducible refine hr.mono ?_); rintro e w1 ⟨rfl, b1⟩)
  go_ret2
  exact ⟨rfl, chain B0 b1⟩
set_option maxHeartbeats 2000000 in
set_option maxRecDepth 100000 in
theorem rprint_yes (t : Tr) (hs : t.sane) (h : rightN t = 0) (r : L8) (n : Nat) (hr0 : r = if (txt t).length ≤ 512 then txt t else []) (hn0 : n = if (txt t).length ≤ 512 then 0 else 2) : PrIs 7 t r n := by
  intro v w hI
  obtain ⟨o, nn, cap, rfl⟩ := hI.shape
  have B0 : Below w.heap.size w (w.alloc (.cells #[.int .i64 t.kind, .int .u64 t.set.a, .int .u64 t.set.b, .int .u64 t.set.c, .int .u64 t.set.d, .int .i64 t.min, .int .i64 t.max, .slice o nn cap] 28)) := below_alloc _ _
  have hb0 := box_new w t (.slice o nn cap)
  obtain ⟨c0, c1, c2, c3, c4, c5, c6, c7⟩ := hb0.cells
  have hr := rright_is t 0 h.symm (.slice o nn cap) (w.alloc (.cells #[.int .i64 t.kind, .int .u64 t.set.a, .int .u64 t.set.b, .int .u64 t.set.c, .int .u64 t.set.d, .int .i64 t.min, .int .i64 t.max, .slice o nn cap] 28)) (hI.later B0)
  have ⟨hg, hnod⟩ := good_of h
  have hlen := txt_len t hg
  have htx := text_any t.depth t (Nat.le_refl _) hg hs
  have hsz := bs_size (txt t)
  have HT := (show Hid (∀ W, Below (w.alloc (.cells #[.int .i64 t.kind, .int .u64 t.set.a, .int .u64 t.set.b, .int .u64 t.set.c, .int .u64 t.set.d, .int .i64 t.min, .int .i64 t.max, .slice o nn cap] 28)).heap.size (w.alloc (.cells #[.int .i64 t.kind, .int .u64 t.set.a, .int .u64 t.set.b, .int .u64 t.set.c, .int .u64 t.set.d, .int .i64 t.min, .int .i64 t.max, .slice o nn cap] 28)) W → Calls Tryd.prog 16 #[.agg #[.int .i64 t.kind, .int .u64 t.set.a, .int .u64 t.set.b, .int .u64 t.set.c, .int .u64 t.set.d, .int .i64 t.min, .int .i64 t.max, .slice o nn cap]] W (fun e w' => e = .returned (.string (bs (txt t))) ∧ Below W.heap.size W w') ∧ Box W w.heap.size t (.slice o nn cap)) from fun W hW => ⟨htx _ W ((hI.later B0).later hW) (by omega), hb0.below hW⟩)
  clear htx hlen hg hnod hs h
  by_cases hle : (txt t).length ≤ 512
  · rw [if_pos hle] at hr0 hn0
    subst hn0
    have f : decide ((512 : Int) < ((txt t).length : Int)) = false := decide_eq_false (by omega)
    rw [hr0]
    clear hr0
    generalize bs (txt t) = ts at *
    generalize (txt t).length = tl at *
    go_enter Tryd.func7, Tryd.ntmps7
    go_wp2_with (first | (go_at_call 15; (with_reducible refine hr.mono ?_); rintro e w1 ⟨rfl, b1⟩; have hh := HT.out w1 b1; have ht1 := hh.1; obtain ⟨d0, d1, d2, d3, d4, d5, d6, d7⟩ := hh.2.cells) | (go_at_call 16; (with_reducible refine ht1.mono ?_); rintro e w2 ⟨rfl, b2⟩))
    go_ret2
    exact ⟨rfl, chain (chain B0 b1) b2⟩
  · rw [if_neg hle] at hr0 hn0
    subst hn0
    have f : decide ((512 : Int) < ((txt t).length : Int)) = true := decide_eq_true (by omega)
    rw [hr0]
    clear hr0
    generalize bs (txt t) = ts at *
    generalize (txt t).length = tl at *
    go_enter Tryd.func7, Tryd.ntmps7
    go_wp2_with (first | (go_at_call 15; (with_reducible refine hr.mono ?_); rintro e w1 ⟨rfl, b1⟩; have hh := HT.out w1 b1; have ht1 := hh.1; obtain ⟨d0, d1, d2, d3, d4, d5, d6, d7⟩ := hh.2.cells) | (go_at_call 16; (with_reducible refine ht1.mono ?_); rintro e w2 ⟨rfl, b2⟩))
    go_ret2
    exact ⟨rfl, chain (chain B0 b1) b2⟩
theorem low_of {w w1 w2 : World} {t : Tr} {v : Value} (h : Is w (fun _ => True) t v) (b : Below w.heap.size w w2) (B : Nat) (hB : w.heap.size ≤ B) : Is w2 (· < B) t v :=
  h.old.carry b.size (fun k hk _ => by show k < B; omega) (fun k hk _ => b.block k hk)
set_option maxHeartbeats 2000000 in
set_option maxRecDepth 100000 in
theorem print_yes (t : Tr) (hs : t.sane) (h : rightN t = 0) (r : L8) (n : Nat) (hr0 : r = if (txt t).length ≤ 512 then txt t else []) (hn0 : n = if (txt t).length ≤ 512 then 0 else 2) : PrIs 6 t r n := by
  intro v w hI
  obtain ⟨o, nn, cap, rfl⟩ := hI.shape
  have B0 : Below w.heap.size w (w.alloc (.cells #[.int .i64 t.kind, .int .u64 t.set.a, .int .u64 t.set.b, .int .u64 t.set.c, .int .u64 t.set.d, .int .i64 t.min, .int .i64 t.max, .slice o nn cap] 28)) := below_alloc _ _
  have hb0 := box_new w t (.slice o nn cap)
  obtain ⟨c0, c1, c2, c3, c4, c5, c6, c7⟩ := hb0.cells
  have hr := right_is t 0 h.symm (.slice o nn cap) (w.alloc (.cells #[.int .i64 t.kind, .int .u64 t.set.a, .int .u64 t.set.b, .int .u64 t.set.c, .int .u64 t.set.d, .int .i64 t.min, .int .i64 t.max, .slice o nn cap] 28)) (hI.later B0)
  have ⟨hg, hnod⟩ := good_of h
  have hlen := txt_len t hg
  have htx := write_any t.depth t (Nat.le_refl _) hg hs
  have HT := (show Hid (∀ W, Below (w.alloc (.cells #[.int .i64 t.kind, .int .u64 t.set.a, .int .u64 t.set.b, .int .u64 t.set.c, .int .u64 t.set.d, .int .i64 t.min, .int .i64 t.max, .slice o nn cap] 28)).heap.size (w.alloc (.cells #[.int .i64 t.kind, .int .u64 t.set.a, .int .u64 t.set.b, .int .u64 t.set.c, .int .u64 t.set.d, .int .i64 t.min, .int .i64 t.max, .slice o nn cap] 28)) W → Calls Tryd.prog 12 #[.pointer (some ⟨W.heap.size, 0, none⟩), .agg #[.int .i64 t.kind, .int .u64 t.set.a, .int .u64 t.set.b, .int .u64 t.set.c, .int .u64 t.set.d, .int .i64 t.min, .int .i64 t.max, .slice o nn cap]] (W.alloc (.cells #[.pointer none, .slice none 0 0] 42)) (fun e w' => e = .returned (.tuple #[]) ∧ Bd W.heap.size W.heap.size (txt t) w' ∧ Below W.heap.size (W.alloc (.cells #[.pointer none, .slice none 0 0] 42)) w') ∧ Box W w.heap.size t (.slice o nn cap) ∧ w.heap.size < W.heap.size) from fun W hW => by
    have hWs : w.heap.size < W.heap.size := by have := hW.size; simp at this; omega
    have hA := below_alloc W (.cells #[.pointer none, .slice none 0 0] 42)
    refine ⟨?_, hb0.below hW, hWs⟩
    refine (htx W.heap.size W.heap.size [] _ _ (low_of (w1 := w) hI ((chain B0 hW).trans (hA.mono (by omega))) _ (by omega)) (bd_new W) (by simp) hA.size (by simp; omega)).mono ?_
    rintro e w' ⟨rfl, h1, h2, _⟩
    exact ⟨rfl, h1, h2⟩)
  clear htx hlen hg hnod hs h
  by_cases hle : (txt t).length ≤ 512
  · rw [if_pos hle] at hr0 hn0
    subst hn0
    have f : decide ((512 : Int) < ((txt t).length : Int)) = false := decide_eq_false (by omega)
    rw [hr0]
    clear hr0
    generalize txt t = tl at *
    go_enter Tryd.func6, Tryd.ntmps6
    go_wp2_with (first | (go_at_call 11; (with_reducible refine hr.mono ?_); rintro e w1 ⟨rfl, b1⟩; obtain ⟨ht1, hBx, hlt9⟩ := HT.out w1 b1; obtain ⟨d0, d1, d2, d3, d4, d5, d6, d7⟩ := hBx.cells; have hne9 : w.heap.size ≠ w1.heap.size := (by omega); have hne8 : ¬ w1.heap.size = w.heap.size := (by omega)) | (go_at_call 12; refine ht1.mono ?_; rintro e w2 ⟨rfl, hO2, b2⟩; have hLn := bd_len _ _ _ w2 hO2; have hSt := bd_string _ _ _ w2 hO2 (Nat.le_trans (below_alloc w1 (.cells #[.pointer none, .slice none 0 0] 42)).size b2.size)) | (go_at_call 13; (with_reducible refine hLn.mono ?_); rintro e w3 ⟨rfl, hw3⟩; obtain rfl := hw3.symm) | (go_at_call 14; (with_reducible refine hSt.mono ?_); rintro e w4 ⟨rfl, _, b4⟩))
    go_ret2
    exact ⟨rfl, ((chain B0 b1).trans ((below_alloc _ _).mono (by omega))).trans ((b2.trans b4).mono (by omega))⟩
  · rw [if_neg hle] at hr0 hn0
    subst hn0
    have f : decide ((512 : Int) < ((txt t).length : Int)) = true := decide_eq_true (by omega)
    rw [hr0]
    clear hr0
    generalize txt t = tl at *
    go_enter Tryd.func6, Tryd.ntmps6
    go_wp2_with (first | (go_at_call 11; (with_reducible refine hr.mono ?_); rintro e w1 ⟨rfl, b1⟩; obtain ⟨ht1, hBx, hlt9⟩ := HT.out w1 b1; obtain ⟨d0, d1, d2, d3, d4, d5, d6, d7⟩ := hBx.cells; have hne9 : w.heap.size ≠ w1.heap.size := (by omega); have hne8 : ¬ w1.heap.size = w.heap.size := (by omega)) | (go_at_call 12; refine ht1.mono ?_; rintro e w2 ⟨rfl, hO2, b2⟩; have hLn := bd_len _ _ _ w2 hO2; have hSt := bd_string _ _ _ w2 hO2 (Nat.le_trans (below_alloc w1 (.cells #[.pointer none, .slice none 0 0] 42)).size b2.size)) | (go_at_call 13; (with_reducible refine hLn.mono ?_); rintro e w3 ⟨rfl, hw3⟩; obtain rfl := hw3.symm))
    go_ret2
    exact ⟨rfl, ((chain B0 b1).trans ((below_alloc _ _).mono (by omega))).trans (b2.mono (by omega))⟩
theorem both_print (t : Tr) (hs : t.sane) : ∃ (r : L8) (n : Nat), r.length ≤ 512 ∧ PrIs 6 t r n ∧ PrIs 7 t r n := by
  by_cases h : rightN t = 0
  · refine ⟨_, _, ?_, print_yes t hs h _ _ rfl rfl, rprint_yes t hs h _ _ rfl rfl⟩
    split
    · assumption
    · simp
  · exact ⟨_, _, by simp, print_no t h, rprint_no t h⟩
set_option maxHeartbeats 2000000 in
set_option maxRecDepth 100000 in
theorem law_any (t : Tr) (hs : t.sane) (v : Value) (w : World) (hI : Is w (fun _ => True) t v) : Calls Tryd.prog 3 #[.agg #[.int .i64 t.kind, .int .u64 t.set.a, .int .u64 t.set.b, .int .u64 t.set.c, .int .u64 t.set.d, .int .i64 t.min, .int .i64 t.max, v]] w fun e w' => e = .returned (.bool true) ∧ Below w.heap.size w w' := by
  obtain ⟨r, n, hrl, hp, hq⟩ := both_print t hs
  obtain ⟨o, nn, cap, rfl⟩ := hI.shape
  have B0 : Below w.heap.size w (w.alloc (.cells #[.int .i64 t.kind, .int .u64 t.set.a, .int .u64 t.set.b, .int .u64 t.set.c, .int .u64 t.set.d, .int .i64 t.min, .int .i64 t.max, .slice o nn cap] 28)) := below_alloc _ _
  have hb0 := box_new w t (.slice o nn cap)
  obtain ⟨c0, c1, c2, c3, c4, c5, c6, c7⟩ := hb0.cells
  have h1 := hp (.slice o nn cap) (w.alloc (.cells #[.int .i64 t.kind, .int .u64 t.set.a, .int .u64 t.set.b, .int .u64 t.set.c, .int .u64 t.set.d, .int .i64 t.min, .int .i64 t.max, .slice o nn cap] 28)) (hI.later B0)
  have HQ := (show Hid (∀ W, Below (w.alloc (.cells #[.int .i64 t.kind, .int .u64 t.set.a, .int .u64 t.set.b, .int .u64 t.set.c, .int .u64 t.set.d, .int .i64 t.min, .int .i64 t.max, .slice o nn cap] 28)).heap.size (w.alloc (.cells #[.int .i64 t.kind, .int .u64 t.set.a, .int .u64 t.set.b, .int .u64 t.set.c, .int .u64 t.set.d, .int .i64 t.min, .int .i64 t.max, .slice o nn cap] 28)) W → Calls Tryd.prog 7 #[.agg #[.int .i64 t.kind, .int .u64 t.set.a, .int .u64 t.set.b, .int .u64 t.set.c, .int .u64 t.set.d, .int .i64 t.min, .int .i64 t.max, .slice o nn cap]] W (fun e w' => e = .returned (.tuple #[.string (bs r), .int .i64 n]) ∧ Below W.heap.size W w') ∧ Box W w.heap.size t (.slice o nn cap)) from fun W hW => ⟨hq _ W ((hI.later B0).later hW), hb0.below hW⟩)
  clear hp hq hI hs
  generalize bs r = ts at *
  go_enter Tryd.func3, Tryd.ntmps3
  go_wp2_with (first | (go_at_call 6; (with_reducible refine h1.mono ?_); rintro e w1 ⟨rfl, b1⟩; obtain ⟨h2, hBx⟩ := HQ.out w1 b1; obtain ⟨d0, d1, d2, d3, d4, d5, d6, d7⟩ := hBx.cells) | (go_at_call 7; (with_reducible refine h2.mono ?_); rintro e w2 ⟨rfl, b2⟩))
  go_ret
  exact ⟨rfl, chain (chain B0 b1) b2⟩
end Go.Proofs.YtfclidcfhadohaaDoor.rp
