/-
  Texts put together: Contracts over this program: trans.singles. Contracts over this program: which states of a machine are reached (the document's Reached).
-/
import Derived.Test.YtlmodfeiphffcaaKRg
import Derived.Sort.LoopGhostIn
namespace Go.Proofs.Ytlmodfeiphffcaa.tr
open Go.ChangeShapes Go.WideShapes Go.ChangeAt Go.RowKit Go.Shelf
set_option linter.unusedVariables false

theorem empty_eq (b : ByteArray) : b.toList.isEmpty = (b.size == 0) := by
  rw [ByteArray.toList_eq]
  cases b with
  | mk a =>
    cases a with
    | mk l => cases l <;> rfl
theorem head_at (t : ByteArray) (h : 0 < t.size) : t.data.toList.headD 0 = t[0] := by
  have hl : 0 < t.data.toList.length := by rw [list_len]; exact h
  cases t with
  | mk a =>
    cases a with
    | mk l =>
      cases l with
      | nil => simp at hl
      | cons x l => rfl
theorem heap3 (w : World) (A B C : Obj) : (((w.alloc A).alloc B).alloc C).heap[w.heap.size + 1 + 1]? = some C := by
  have := heap_alloc_new ((w.alloc A).alloc B) C
  rw [World.size_alloc, World.size_alloc] at this
  exact this
theorem heap3_mid (w : World) (A B C : Obj) : (((w.alloc A).alloc B).alloc C).heap[w.heap.size + 1]? = some B := by
  rw [Below.heap_alloc _ _ _ (by rw [World.size_alloc, World.size_alloc]; omega)]
  have := heap_alloc_new (w.alloc A) B
  rw [World.size_alloc] at this
  exact this
theorem heap3_old (w : World) (A B C : Obj) : (((w.alloc A).alloc B).alloc C).heap[w.heap.size]? = some A := by
  rw [Below.heap_alloc _ _ _ (by rw [World.size_alloc, World.size_alloc]; omega), Below.heap_alloc _ _ _ (by rw [World.size_alloc]; omega)]
  exact heap_alloc_new w A
theorem below3 (w : World) (A B C : Obj) : Below w.heap.size w (((w.alloc A).alloc B).alloc C) := chain (chain (below_alloc w A) (below_alloc _ B)) (below_alloc _ C)

/-- what stands while singles goes on -/
structure Sn (w : World) (m : Mc) (p : Mp) (xs : List Nat) (W : World) : Prop where
  be : Below w.heap.size w W
  bx : Box W w.heap.size m p
  res : Arr W (w.heap.size + 1) noughts
  to : Arr W (w.heap.size + 1 + 1) xs
theorem Sn.put {w : World} {m : Mc} {p : Mp} {xs : List Nat} {W : World} (h : Sn w m p xs W) (i v : Nat) : Sn w m p (xs.set i v) (W.setCell ⟨w.heap.size + 1 + 1, i, none⟩ (.int .u8 v)) :=
  ⟨h.be.setCell (p := ⟨w.heap.size + 1 + 1, i, none⟩) (by show w.heap.size ≤ w.heap.size + 1 + 1; omega) _, (Below.heap_setCell _ _ _ _ (show w.heap.size ≠ w.heap.size + 1 + 1 by omega)).trans h.bx, h.res.other (by omega) i _, h.to.put i v⟩

def SinOut (m : Mc) (s : Nat) (w : World) (e : Ending) (w' : World) : Prop := ∃ xs ok, e = .returned (.tuple #[.agg (cells48 xs), .bool ok]) ∧ xs.length = 256 ∧ (ok = true → Sg m s ∧ xs = fb m s) ∧ (ok = false → ¬ Sg m s) ∧ Below w.heap.size w w'
def SinIs (m : Mc) (s : Nat) : Prop := ∀ p w, MAt (In w) w m p → Calls Try.prog 46 #[.agg (mv m p), .int .i64 (s : Int)] w (SinOut m s w)
set_option maxHeartbeats 4000000 in
set_option maxRecDepth 100000 in
theorem singles_any (m : Mc) (hR : Right m) (s : Nat) (hs : s < m.next.length) : SinIs m s := by
  intro p w hM
  have hz := zero48
  have hcs := cells48_size noughts noughts_len
  have HS0 : Hid (Sn w m p noughts (((w.alloc (.cells (mv m p) 26)).alloc (.cells (cells48 noughts) 48)).alloc (.cells (cells48 noughts) 48))) := ⟨below3 w _ _ _, heap3_old w _ _ _, ⟨heap3_mid w _ _ _, noughts_len⟩, ⟨heap3 w _ _ _, noughts_len⟩⟩
  have HM : Hid (∀ W, Below w.heap.size w W → MAt (Lo w.heap.size) W m p) := fun W b => hM.carry (fun k hk => b.block k hk) (fun _ h => h)
  have t2 := hM.rpt.fit
  have t3 := hM.rpt.top
  have t4 := hM.ren.fit
  have t5 := hM.ren.top
  have t6 := hM.rtx.fit
  have t7 := hM.rtx.top
  have hpl : s < m.put.length := by rw [hR.puts]; exact hs
  have hfl : s < m.fin.length := by rw [hR.fins]; exact hs
  have k1 := HS0.out.bx.c1
  obtain ⟨pb, poff, rb, roff, rc, e1, h1, h2, h3, h4, h5, h6⟩ := (HM.out _ HS0.out.be).put_at hR hs (b := 0) (by omega)
  have HROW : Hid (∀ W, Below w.heap.size w W → ∀ b, b < 256 → W.cell? ⟨rb, roff + b, none⟩ = some (.int .i64 (pt m s b : Nat))) := fun W bW b hb => by
    obtain ⟨pb', poff', rb', roff', rc', e', a1, a2, a3, a4, _, _⟩ := (HM.out W bW).put_at hR hs hb
    have q2 := h2
    rw [HS0.out.be.cell h1] at q2
    rw [e1] at e'
    simp only [Option.some.injEq, Addr.mk.injEq, and_true] at e'
    obtain ⟨rfl, rfl⟩ := e'
    rw [bW.cell h1, q2] at a2
    simp only [Option.some.injEq, Value.slice.injEq, Addr.mk.injEq, and_true, true_and] at a2
    obtain ⟨⟨rfl, rfl⟩, _⟩ := a2
    exact a4
  obtain ⟨no, nc, po, pc, eo, ec, xo, xc⟩ := p
  simp only at e1
  subst e1
  have HNS : Hid (∀ b, b < 256 → ol m s b ≠ 1 → ¬ Sg m s) := fun b hb h hg => h (hg.2 b hb)
  clear h4 hM
  go_enter Try.func46, Try.ntmps46
  go_wp2_with (fail)
  obtain ⟨w0, HW0⟩ : ∃ w0, Hid (w0 = ((w.alloc (.cells (mv m ⟨no, nc, some ⟨pb, poff, none⟩, pc, eo, ec, xo, xc⟩) 26)).alloc (.cells (cells48 noughts) 48)).alloc (.cells (cells48 noughts) 48)) := ⟨_, rfl⟩
  rw [← HW0.out] at HS0 ⊢
  clear HW0 h2 k1
  go_loopw [17] (fun x wr => ∃ b : Nat, x = .int .i64 b ∧ b ≤ 256 ∧ Hid (Sn w m ⟨no, nc, some ⟨pb, poff, none⟩, pc, eo, ec, xo, xc⟩ (tb (fbyte m s) b) wr) ∧ Hid (∀ b', b' < b → ol m s b' = 1)) (fun x _ => 256 - (intOf x).toNat)
  case atStart => exact ⟨0, rfl, by omega, by rw [tb_zero]; exact HS0, fun b' h => by omega⟩
  case round =>
    obtain ⟨b, rfl, hb, HS, HB⟩ := hrel
    clear HS0
    have k2 := HS.out.bx.c2
    have k3 := HS.out.bx.c3
    by_cases hbe : b < 256
    · have hq := HROW.out wr HS.out.be b hbe
      have hpt := hR.pt_lt hs hbe
      obtain ⟨xb, xoff, e7, h7, h8⟩ := (HM.out wr HS.out.be).tx_at (k := pt m s b / 2) (by omega)
      simp only at e7
      subst e7
      have harr := HS.out.to
      have kc := harr.cell b hbe
      have kf := harr.fz b
      have hu := u8_nat b hbe
      have HFB : Hid (fbyte m s b = if pt m s b % 2 = 1 then b else ((tx m (pt m s b / 2)).data.toList.headD 0).toNat) := rfl
      have HOL : Hid (ol m s b = (tx m (pt m s b / 2)).size + pt m s b % 2) := rfl
      have HNX : Hid (ol m s b = 1 → ∀ b', b' < b + 1 → ol m s b' = 1) := fun h b' hb' => by
        rcases Nat.lt_succ_iff_lt_or_eq.1 hb' with h' | h'
        · exact HB.out b' h'
        · rw [h']; exact h
      have HPUT : Hid (∀ v, v = fbyte m s b → Sn w m ⟨no, nc, some ⟨pb, poff, none⟩, pc, eo, ec, some ⟨xb, xoff, none⟩, xc⟩ (tb (fbyte m s) (b + 1)) (wr.setCell ⟨w.heap.size + 1 + 1, b, none⟩ (.int .u8 v))) := fun v hv => by
        rw [← tb_set _ b hbe, ← hv]
        exact HS.out.put b v
      have HNS2 : Hid (ol m s b ≠ 1 → ¬ Sg m s) := HNS.out b hbe
      have hres := HS.out.res
      generalize pt m s b = z at *
      generalize tx m (z / 2) = t at *
      have hd := div2 z
      have hmd := mod2 z
      have hz2 : z / 2 < m.txt.length := by omega
      by_cases hodd : z % 2 = 1
      · rw [hodd] at hmd HOL
        have HF2 : Hid (b = fbyte m s b) := by show _ = _; rw [HFB.out, if_pos hodd]
        by_cases hte : t.size = 0
        · have f1 : t.toList.isEmpty = true := by rw [empty_eq, hte]; rfl
          have HO1 : Hid (ol m s b = 1) := by show _ = _; rw [HOL.out, hte]
          clear hte hodd HFB
          go_wp2_with (fail)
          go_roundw
          case rel => exact ⟨b + 1, by go_num, by omega, HPUT.out b HF2.out, HNX.out HO1.out⟩
          case measure => simp [intOf]; omega
        · have f1 : t.toList.isEmpty = false := by rw [empty_eq]; exact beq_eq_false_iff_ne.2 hte
          have HO1 : Hid (¬ Sg m s) := HNS2.out (by rw [HOL.out]; omega)
          clear hte hodd HFB
          go_wp2_with (refine wpList_store_row rfl 48 (.tmp 4) (.tmp 31) rfl (w.heap.size + 1) (cells48 noughts) rfl rfl 48 _ hres.1 (info48 _ noughts_len) (by rfl) (cells48_one _) ?_)
          refine ret48 Try.results46 (w.heap.size + 1) noughts false rfl (hres.row noughts_len) rfl rfl ?_
          exact ⟨noughts, false, rfl, noughts_len, (fun h => by cases h), fun _ => HO1.out, below_setRow HS.out.be (by omega) _⟩
      · have hev : z % 2 = 0 := by omega
        rw [hev] at hmd HOL
        by_cases hte : t.size = 1
        · have f1 : ((t.size : Int) == 1) = true := beq_iff_eq.2 (by omega)
          have hts : 0 < t.size := by omega
          have f3 : (0 : Int) < (t.size : Int) := by omega
          have HO1 : Hid (ol m s b = 1) := by show _ = _; rw [HOL.out, hte]
          have HF2 : Hid (t[0].toNat = fbyte m s b) := by show _ = _; rw [HFB.out, if_neg hodd, head_at t hts]
          clear hte hodd hev HFB
          go_wp2_with (fail)
          go_roundw
          case rel => exact ⟨b + 1, by go_num, by omega, HPUT.out _ HF2.out, HNX.out HO1.out⟩
          case measure => simp [intOf]; omega
        · have f1 : ((t.size : Int) == 1) = false := beq_eq_false_iff_ne.2 (by omega)
          have HO1 : Hid (¬ Sg m s) := HNS2.out (by rw [HOL.out]; omega)
          clear hte hodd hev HFB
          go_wp2_with (refine wpList_store_row rfl 48 (.tmp 4) (.tmp 31) rfl (w.heap.size + 1) (cells48 noughts) rfl rfl 48 _ hres.1 (info48 _ noughts_len) (by rfl) (cells48_one _) ?_)
          refine ret48 Try.results46 (w.heap.size + 1) noughts false rfl (hres.row noughts_len) rfl rfl ?_
          exact ⟨noughts, false, rfl, noughts_len, (fun h => by cases h), fun _ => HO1.out, below_setRow HS.out.be (by omega) _⟩
    · obtain ⟨eb, eoff, e, heb, hec⟩ := (HM.out wr HS.out.be).fin_at hR hs
      simp only at e
      subst e
      have hen := hR.en_lt hs
      obtain ⟨xb, xoff, e, hxb, hxc⟩ := (HM.out wr HS.out.be).tx_at hen
      simp only at e
      subst e
      have HEL : Hid (el m s = (tx m (en m s)).size) := rfl
      have HAL : Hid (∀ b', b' < 256 → ol m s b' = 1) := fun b' h => HB.out b' (by omega)
      have harr := HS.out.to
      rw [show tb (fbyte m s) b = fb m s by unfold fb; rw [show b = 256 by omega]] at harr
      have hfl2 : (fb m s).length = 256 := tb_len _ _
      have hres := HS.out.res
      have HBE := HS.out.be
      generalize en m s = z at *
      generalize tx m z = t at *
      generalize hfx : fb m s = xs at *
      have HFX : Hid (fb m s = xs) := hfx
      clear hfx HB
      have hbx := HS.out.bx
      clear HS
      go_wp2_with (fail)
      refine wp_region_held (S := fun W => Box W w.heap.size m ⟨no, nc, some ⟨pb, poff, none⟩, pc, some ⟨eb, eoff, none⟩, ec, some ⟨xb, xoff, none⟩, xc⟩ ∧ Arr W (w.heap.size + 1 + 1) xs ∧ W.cell? ⟨eb, eoff + s, none⟩ = some (.int .i64 (z : Nat)) ∧ W.cell? ⟨xb, xoff + z, none⟩ = some (.string t)) (by kernel_rfl) ?_
      have hS0 : Box wr.drew w.heap.size m ⟨no, nc, some ⟨pb, poff, none⟩, pc, some ⟨eb, eoff, none⟩, ec, some ⟨xb, xoff, none⟩, xc⟩ ∧ Arr wr.drew (w.heap.size + 1 + 1) xs ∧ wr.drew.cell? ⟨eb, eoff + s, none⟩ = some (.int .i64 (z : Nat)) ∧ wr.drew.cell? ⟨xb, xoff + z, none⟩ = some (.string t) := ⟨hbx, harr, hec, hxc⟩
      refine rg.take_op (i := 0) 55 rfl rfl (rg.yields_run (by kernel_rfl) (fun W h => rg.x_load48 (x := .tmp 6) (g := w.heap.size + 1 + 1) rfl rfl h.2.1)) (by kernel_rfl) (by kernel_rfl) (by kernel_rfl) (fun _ _ _ h => h) hS0 ?_
      simp only [Act.put, List.setIfInBounds_toArray, List.set_cons_zero, List.set_cons_succ]
      refine rg.take_op (i := 1) 56 rfl rfl (rg.yields_run (by kernel_rfl) (v := .pointer (some ⟨w.heap.size, 3, none⟩)) (fun W h => by kernel_rfl)) (by kernel_rfl) (by kernel_rfl) (by kernel_rfl) (fun _ _ _ h => h) hS0 ?_
      simp only [Act.put, List.setIfInBounds_toArray, List.set_cons_zero, List.set_cons_succ]
      refine rg.take_op (i := 2) 57 rfl rfl (rg.yields_run (by kernel_rfl) (fun W h => rg.x_load24 (x := .tmp 56) rfl rfl h.1.c3)) (by kernel_rfl) (by kernel_rfl) (by kernel_rfl) (fun _ _ _ h => h) hS0 ?_
      simp only [Act.put, List.setIfInBounds_toArray, List.set_cons_zero, List.set_cons_succ]
      refine rg.take_op (i := 3) 58 rfl rfl (rg.yields_run (by kernel_rfl) (v := .pointer (some ⟨w.heap.size, 2, none⟩)) (fun W h => by kernel_rfl)) (by kernel_rfl) (by kernel_rfl) (by kernel_rfl) (fun _ _ _ h => h) hS0 ?_
      simp only [Act.put, List.setIfInBounds_toArray, List.set_cons_zero, List.set_cons_succ]
      refine rg.take_op (i := 4) 59 rfl rfl (rg.yields_run (by kernel_rfl) (fun W h => rg.x_load23 (x := .tmp 58) rfl rfl h.1.c2)) (by kernel_rfl) (by kernel_rfl) (by kernel_rfl) (fun _ _ _ h => h) hS0 ?_
      simp only [Act.put, List.setIfInBounds_toArray, List.set_cons_zero, List.set_cons_succ]
      refine rg.take_op (i := 5) 60 rfl rfl (rg.yields_run (by kernel_rfl) (v := .int .i64 (s : Int)) (fun W h => by kernel_rfl)) (by kernel_rfl) (by kernel_rfl) (by kernel_rfl) (fun _ _ _ h => h) hS0 ?_
      simp only [Act.put, List.setIfInBounds_toArray, List.set_cons_zero, List.set_cons_succ]
      refine rg.take_op (i := 6) 61 rfl rfl (rg.yields_run (by kernel_rfl) (fun W h => rg.x_index23 (x := .tmp 59) (y := .tmp 60) rfl rfl rfl hfl)) (by kernel_rfl) (by kernel_rfl) (by kernel_rfl) (fun _ _ _ h => h) hS0 ?_
      simp only [Act.put, List.setIfInBounds_toArray, List.set_cons_zero, List.set_cons_succ]
      refine rg.take_op (i := 7) 62 rfl rfl (rg.yields_run (by kernel_rfl) (fun W h => rg.x_load3 (x := .tmp 61) rfl rfl h.2.2.1)) (by kernel_rfl) (by kernel_rfl) (by kernel_rfl) (fun _ _ _ h => h) hS0 ?_
      simp only [Act.put, List.setIfInBounds_toArray, List.set_cons_zero, List.set_cons_succ]
      refine rg.take_op (i := 8) 63 rfl rfl (rg.yields_run (by kernel_rfl) (fun W h => rg.x_index24 (x := .tmp 57) (y := .tmp 62) rfl rfl rfl hen)) (by kernel_rfl) (by kernel_rfl) (by kernel_rfl) (fun _ _ _ h => h) hS0 ?_
      simp only [Act.put, List.setIfInBounds_toArray, List.set_cons_zero, List.set_cons_succ]
      refine rg.take_op (i := 9) 64 rfl rfl (rg.yields_run (by kernel_rfl) (fun W h => rg.x_load9 (x := .tmp 63) rfl rfl h.2.2.2)) (by kernel_rfl) (by kernel_rfl) (by kernel_rfl) (fun _ _ _ h => h) hS0 ?_
      simp only [Act.put, List.setIfInBounds_toArray, List.set_cons_zero, List.set_cons_succ]
      refine rg.take_op (i := 10) 65 rfl rfl (rg.yields_run (by kernel_rfl) (fun W h => rg.x_eql9 (x := .tmp 64) rfl rfl)) (by kernel_rfl) (by kernel_rfl) (by kernel_rfl) (fun _ _ _ h => h) hS0 ?_
      simp only [Act.put, List.setIfInBounds_toArray, List.set_cons_zero, List.set_cons_succ]
      have hne1 : (⟨eb, eoff + s, none⟩ : Addr).block ≠ w.heap.size + 1 := by show eb ≠ _; omega
      have hne2 : (⟨xb, xoff + z, none⟩ : Addr).block ≠ w.heap.size + 1 := by show xb ≠ _; omega
      have hbl : Below w.heap.size w (wr.drew.setRow (w.heap.size + 1) (cells48 xs)) := below_setRow HBE.drew (by omega) _
      have hSr : Box (wr.drew.setRow (w.heap.size + 1) (cells48 xs)) w.heap.size m ⟨no, nc, some ⟨pb, poff, none⟩, pc, some ⟨eb, eoff, none⟩, ec, some ⟨xb, xoff, none⟩, xc⟩ ∧ Arr (wr.drew.setRow (w.heap.size + 1) (cells48 xs)) (w.heap.size + 1 + 1) xs ∧ (wr.drew.setRow (w.heap.size + 1) (cells48 xs)).cell? ⟨eb, eoff + s, none⟩ = some (.int .i64 (z : Nat)) ∧ (wr.drew.setRow (w.heap.size + 1) (cells48 xs)).cell? ⟨xb, xoff + z, none⟩ = some (.string t) := by
        refine ⟨?_, harr.row_other (w := wr.drew) (by omega) _, ?_, ?_⟩
        · unfold Box
          rw [setRow_other _ _ _ _ (by omega)]
          exact hbx
        · rw [World.cell?_of_block (w := wr.drew) (setRow_other _ _ _ _ hne1)]
          exact hec
        · rw [World.cell?_of_block (w := wr.drew) (setRow_other _ _ _ _ hne2)]
          exact hxc
      have hres2 : Arr (wr.drew.setRow (w.heap.size + 1) (cells48 xs)) (w.heap.size + 1) xs := Arr.row (w := wr.drew) hres hfl2
      refine rg.wp_op 11 (by kernel_rfl) rfl (by kernel_rfl) ?_
      refine wp_store_row 48 (.tmp 4) (.tmp 55) rfl (w.heap.size + 1) (cells48 xs) rfl rfl 48 (cells48 noughts) hres.1 (info48 xs hfl2) (by rw [cells48_size _ hres.2, cells48_size _ hfl2]) (cells48_one _) ?_
      refine ⟨hSr, ?_⟩
      have hS0 := hSr
      refine rg.take_op (i := 12) 5 rfl rfl (rg.yields_run (by kernel_rfl) (v := .bool (t.size == 0)) (fun W h => by kernel_rfl)) (by kernel_rfl) (by kernel_rfl) (by kernel_rfl) (fun _ _ _ h => h) hS0 ?_
      simp only [Act.put, List.setIfInBounds_toArray]
      refine rg.done_op (by kernel_rfl) ?_
      go_wp2_with (fail)
      refine ret48 Try.results46 (w.heap.size + 1) xs (t.size == 0) rfl hres2 rfl rfl ?_
      refine ⟨xs, t.size == 0, rfl, hfl2, fun h => ?_, fun h => ?_, hbl⟩
      · exact ⟨⟨by rw [HEL.out]; exact beq_iff_eq.1 h, HAL.out⟩, HFX.out.symm⟩
      · rintro ⟨h1, _⟩
        rw [HEL.out] at h1
        rw [h1] at h
        cases h
end Go.Proofs.Ytlmodfeiphffcaa.tr

namespace Go.Proofs.Ytlmodfeiphffcaa.tr
open Go.ChangeShapes Go.WideShapes Go.ChangeAt Go.RowKit
set_option linter.unusedVariables false
set_option maxRecDepth 10000

def zeros (M : List Int) : Nat := M.count 0
theorem zeros_set (M : List Int) (i : Nat) (h : i < M.length) (h0 : M[i] = 0) : zeros (M.set i 1) < zeros M := by
  unfold zeros
  rw [List.count_set h]
  have : 0 < M.count 0 := List.count_pos_iff.2 (h0 ▸ List.getElem_mem h)
  simp [h0]
  omega
/-- the marks so far are closed up to a state and a byte -/
def ClsTo (m : Mc) (M : List Int) (i b : Nat) : Prop := ∀ i' b', (i' < i ∨ i' = i ∧ b' < b) → b' < 256 → M[i']? = some 1 → M[nx m i' b']? = some 1
structure Mks (m : Mc) (M : List Int) : Prop where
  len : M.length = m.next.length
  two : ∀ i (h : i < M.length), M[i] = 0 ∨ M[i] = 1
  one : M[0]? = some 1
  rch : ∀ i, M[i]? = some 1 → Rch m i
theorem Mks.set {m : Mc} {M : List Int} (h : Mks m M) (j : Nat) (hr : Rch m j) : Mks m (M.set j 1) :=
  ⟨by rw [List.length_set]; exact h.len, fun i hi => by
    rw [List.getElem_set]
    by_cases e : j = i
    · rw [if_pos e]; exact .inr rfl
    · rw [if_neg e]; exact h.two i (by simpa using hi), by
    by_cases e : j = 0
    · subst e
      have := (List.getElem?_eq_some_iff.1 h.one).1
      rw [List.getElem?_set_self this]
    · rw [List.getElem?_set_ne e]; exact h.one, fun i hi => by
    by_cases e : j = i
    · subst e; exact hr
    · rw [List.getElem?_set_ne e] at hi; exact h.rch i hi⟩
theorem Mks.all {m : Mc} {M : List Int} (h : Mks m M) (hc : ClsTo m M m.next.length 0) (hR : Right m) : ∀ s, Rch m s ↔ M[s]? = some 1 := by
  intro s
  constructor
  · intro r
    induction r with
    | zero => exact h.one
    | step r hb ih => exact hc _ _ (.inl (r.lt hR)) hb ih
  · exact h.rch s
theorem cls_step {m : Mc} {M : List Int} {i b : Nat} (h : ClsTo m M i b) (hk : M[i]? = some 1 → M[nx m i b]? = some 1) : ClsTo m M i (b + 1) := fun i' b' hh hb hm => by
  rcases hh with h1 | ⟨h1, h2⟩
  · exact h i' b' (.inl h1) hb hm
  · by_cases e : b' = b
    · subst e h1; exact hk hm
    · exact h i' b' (.inr ⟨h1, by omega⟩) hb hm
theorem cls_row {m : Mc} {M : List Int} {i : Nat} (h : ClsTo m M i 256) : ClsTo m M (i + 1) 0 := fun i' b' hh hb hm => by
  rcases hh with h1 | ⟨h1, h2⟩
  · by_cases e : i' = i
    · exact h i' b' (.inr ⟨e, hb⟩) hb hm
    · exact h i' b' (.inl (by omega)) hb hm
  · omega
theorem zeros_lt (M : List Int) (i : Nat) (h : M[i]? = some 0) : zeros (M.set i 1) < zeros M := by
  obtain ⟨h1, h2⟩ := List.getElem?_eq_some_iff.1 h
  exact zeros_set M i h1 h2
theorem get_one {M : List Int} {i : Nat} (h : i < M.length) {v : Int} (e : M[i] = v) : M[i]? = some v := by rw [List.getElem?_eq_getElem h, e]
/-- a row of Next, at every byte -/
theorem MAt.next_all {w : World} {B : Nat} {m : Mc} {p : Mp} (h : MAt (Lo B) w m p) (hR : Right m) {s : Nat} (hs : s < m.next.length) :
    ∃ pb poff rb roff rc, p.no = some ⟨pb, poff, none⟩ ∧ pb < B ∧ w.cell? ⟨pb, poff + s, none⟩ = some (.slice (some ⟨rb, roff, none⟩) 256 rc) ∧ rb < B ∧ 256 ≤ rc ∧ rc ≤ 9223372036854775807 ∧ ∀ b, b < 256 → w.cell? ⟨rb, roff + b, none⟩ = some (.int .i64 (nx m s b : Nat)) := by
  obtain ⟨pb, poff, rb, roff, rc, e1, h1, h2, h3, h4, h5, h6⟩ := h.next_at hR hs (b := 0) (by omega)
  refine ⟨pb, poff, rb, roff, rc, e1, h1, h2, h3, h5, h6, fun b hb => ?_⟩
  obtain ⟨pb', poff', rb', roff', rc', e', a1, a2, a3, a4, _, _⟩ := h.next_at hR hs hb
  rw [e1] at e'
  simp only [Option.some.injEq, Addr.mk.injEq, and_true] at e'
  obtain ⟨rfl, rfl⟩ := e'
  rw [h2] at a2
  simp only [Option.some.injEq, Value.slice.injEq, Addr.mk.injEq, and_true, true_and] at a2
  obtain ⟨⟨rfl, rfl⟩, _⟩ := a2
  exact a4
def RchOut (m : Mc) (w : World) (e : Ending) (w' : World) : Prop := ∃ g M, e = .returned (.slice (some ⟨g, 0, none⟩) m.next.length m.next.length) ∧ IRow w' g M ∧ M.length = m.next.length ∧ (∀ i (h : i < M.length), M[i] = 0 ∨ M[i] = 1) ∧ (∀ s, Rch m s ↔ M[s]? = some 1) ∧ w.heap.size ≤ g ∧ Below w.heap.size w w'
structure Rc (w : World) (m : Mc) (p : Mp) (M : List Int) (wr : World) : Prop where
  be : Below w.heap.size w wr
  bx : Box wr w.heap.size m p
  ir : IRow wr (w.heap.size + 1) M
set_option maxHeartbeats 4000000 in
set_option maxRecDepth 100000 in
theorem rreached_any (m : Mc) (hR : Right m) (p : Mp) (w : World) (hM : MAt (In w) w m p) : Calls Try.prog 47 #[.agg (mv m p)] w (RchOut m w) := by
  have b0 := box_new w m p
  have B0 := below_alloc w (.cells (mv m p) 26)
  have hn1 := hR.one
  have hn4 := hR.most
  have HRR := (show Hid (Right m) from hR)
  have HML := (show Hid (∀ W, Below w.heap.size w W → MAt (Lo w.heap.size) W m p) from fun W b => hM.carry (fun k hk => b.block k hk) (fun _ h => h))
  have mk := make23 m.next.length (by omega)
  have nx0 := b0.c0
  have hfit := hM.rnx.fit
  have htop := hM.rnx.top
  have I0 := irow_new (w.alloc (.cells (mv m p) 26)) (List.replicate m.next.length 0)
  rw [World.size_alloc] at I0
  have HIC := (show Hid ((icells (List.replicate m.next.length 0)).setIfInBounds 0 (.int .i64 1) = icells ((List.replicate m.next.length 0).set 0 1)) from by show _ = _; unfold icells; rw [List.setIfInBounds_toArray, List.map_set])
  have HS := (show Hid (Rc w m p ((List.replicate m.next.length 0).set 0 1) ((w.alloc (.cells (mv m p) 26)).alloc (.cells ((icells (List.replicate m.next.length 0)).setIfInBounds 0 (.int .i64 1)) 3))) from ⟨chain B0 (below_alloc _ _), b0.later (below_alloc _ _), by rw [HIC.out]; have := irow_new (w.alloc (.cells (mv m p) 26)) ((List.replicate m.next.length 0).set 0 1); rw [World.size_alloc] at this; exact this⟩)
  have q0 := I0.cell 0 (by simp; omega)
  have q1 := I0.fz 0
  simp only [List.getElem_replicate] at q0
  have HM0 := (show Hid (Mks m ((List.replicate m.next.length 0).set 0 1)) from ⟨by simp, fun i hi => by
    rw [List.getElem_set]
    by_cases e : 0 = i
    · rw [if_pos e]; exact .inr rfl
    · rw [if_neg e]; exact .inl (by simp), by rw [List.getElem?_set_self (by simp; omega)], fun i hi => by
    by_cases e : 0 = i
    · subst e; exact .zero
    · rw [List.getElem?_set_ne e, List.getElem?_replicate] at hi
      split at hi <;> simp at hi⟩)
  have nx1 := (b0.later (below_alloc _ (.cells (icells (List.replicate m.next.length 0)) 3))).c0
  clear hR hM b0 B0 I0
  go_enter Try.func47, Try.ntmps47
  go_wp2_with (fail)
  obtain ⟨w0, HW0⟩ : ∃ w0, Hid (w0 = (w.alloc (.cells (mv m p) 26)).alloc (.cells ((icells (List.replicate m.next.length 0)).setIfInBounds 0 (.int .i64 1)) 3)) := ⟨_, rfl⟩
  rw [← HW0.out] at HS ⊢
  obtain ⟨M0, HM00⟩ : ∃ M0, Hid (M0 = (List.replicate m.next.length (0 : Int)).set 0 1) := ⟨_, rfl⟩
  rw [← HM00.out] at HS HM0
  clear nx0 nx1 q0 q1 mk HW0 HM00 HIC
  go_loopg [4] (zeros M0 + 1) (fun k y wr => ∃ (M : List Int) (more : Bool), y = .bool more ∧ Hid (k = zeros M + if more = true then 1 else 0) ∧ Hid (Mks m M) ∧ Hid (more = false → ClsTo m M m.next.length 0) ∧ Hid (Rc w m p M wr))
  case atStart => exact ⟨M0, true, rfl, rfl, HM0, fun h => by (cases h), HS⟩
  case round =>
    obtain ⟨M1, more, rfl, HK, HM1, HC1, HR1⟩ := hrel
    clear HS HM0
    cases more with
    | false =>
      have HE := (show Hid (∀ s, Rch m s ↔ M1[s]? = some 1) from HM1.out.all (HC1.out rfl) HRR.out)
      clear HC1 HK
      go_wp2_with (fail)
      go_ret
      exact ⟨w.heap.size + 1, M1, rfl, HR1.out.ir, HM1.out.len, HM1.out.two, HE.out, by omega, HR1.out.be⟩
    | true =>
      have e0 := HR1.out.bx.c0
      clear HC1
      go_wp2_with (fail)
      go_loopw [4, 19] (fun y z wr => ∃ (i : Nat) (M : List Int) (ch : Bool), y = .bool ch ∧ z = .int .i64 i ∧ i ≤ m.next.length ∧ Hid (Mks m M) ∧ Hid (ch = true → zeros M < zeros M1) ∧ Hid (ch = false → M = M1 ∧ ClsTo m M i 0) ∧ Hid (zeros M ≤ zeros M1) ∧ Hid (Rc w m p M wr)) (fun _ z _ => m.next.length - (intOf z).toNat)
      case atStart => exact ⟨0, M1, false, rfl, rfl, by omega, HM1, fun h => (by cases h), fun _ => ⟨rfl, fun i' b' hh => by omega⟩, Nat.le_refl _, HR1⟩
      case round =>
        obtain ⟨i, M2, ch, rfl, rfl, hi, HM2, HZ1, HZ2, HZ3, HR2⟩ := hrel
        clear e0 HR1
        by_cases hend : i < m.next.length
        · obtain ⟨rb, roff, rb', roff', rci, hno, hrb, hrc, hrb', hrf, hrt, hrow⟩ := (HML.out wr HR2.out.be).next_all HRR.out hend
          have HROW := (show Hid (∀ W : World, Below w.heap.size w W → ∀ c, c < 256 → W.cell? ⟨rb', roff' + c, none⟩ = some (.int .i64 (nx m i c : Nat))) from fun W hb c hc => by
            have h1 := hrow c hc
            rw [HR2.out.be.cell (p := ⟨rb', roff' + c, none⟩) hrb'] at h1
            rw [hb.cell (p := ⟨rb', roff' + c, none⟩) hrb']
            exact h1)
          have HNO := (show Hid (p.no = some ⟨rb, roff, none⟩) from hno)
          rw [HNO.out]
          clear hrow hrb hrb' hno
          go_wp2_with (fail)
          go_loopw [4, 26] (fun y z wr => ∃ (b : Nat) (M : List Int) (ch : Bool), y = .bool ch ∧ z = .int .i64 b ∧ b ≤ 256 ∧ Hid (Mks m M) ∧ Hid (ch = true → zeros M < zeros M1) ∧ Hid (ch = false → M = M1 ∧ ClsTo m M i b) ∧ Hid (zeros M ≤ zeros M1) ∧ Hid (Rc w m p M wr)) (fun _ z _ => 256 - (intOf z).toNat)
          case atStart => exact ⟨0, M2, ch, rfl, rfl, by omega, HM2, HZ1, HZ2, HZ3, HR2⟩
          case round =>
            obtain ⟨b, M, ch, rfl, rfl, hb, HM, HY1, HY2, HY3, HR⟩ := hrel
            clear HM2 HZ1 HZ2 HZ3 HR2 hrc
            by_cases hbe : b < 256
            · have k2 := HROW.out wr HR.out.be b hbe
              have hML := HM.out.len
              have k3 := HR.out.ir.cell i (by omega)
              have htwo := HM.out.two i (by omega)
              have HSTP := (show Hid ((M[i]? = some 1 → M[nx m i b]? = some 1) → ch = false → M = M1 ∧ ClsTo m M i (b + 1)) from fun hk hc => ⟨(HY2.out hc).1, cls_step (HY2.out hc).2 hk⟩)
              have hjn := HRR.out.nx_lt hend hbe
              rcases htwo with ht | ht
              · have HQ := (show Hid (ch = false → M = M1 ∧ ClsTo m M i (b + 1)) from HSTP.out fun h => by rw [get_one (by omega) ht] at h; cases h)
                rw [ht] at k3
                clear HSTP HY2
                generalize nx m i b = j at *
                go_wp2_with (fail)
                go_roundw
                case rel => exact ⟨b + 1, M, ch, rfl, by go_num, by omega, HM, HY1, HQ, HY3, HR⟩
                case measure => simp [intOf]; omega
              · rw [ht] at k3
                have HRI := (show Hid (Rch m (nx m i b)) from .step (HM.out.rch i (get_one (by omega) ht)) hbe)
                have hjl : nx m i b < M.length := by omega
                have k4 := HR.out.ir.cell (nx m i b) hjl
                have k5 := HR.out.ir.fz (nx m i b)
                rcases HM.out.two (nx m i b) hjl with hj0 | hj1
                · have HLT := (show Hid (zeros (M.set (nx m i b) 1) < zeros M1) from Nat.lt_of_lt_of_le (zeros_lt M _ (get_one hjl hj0)) HY3.out)
                  have HMN := (show Hid (Mks m (M.set (nx m i b) 1)) from HM.out.set _ HRI.out)
                  have HRN := (show Hid (Rc w m p (M.set (nx m i b) 1) (wr.setCell ⟨w.heap.size + 1, nx m i b, none⟩ (.int .i64 1))) from ⟨HR.out.be.setCell (p := ⟨w.heap.size + 1, nx m i b, none⟩) (by show w.heap.size ≤ w.heap.size + 1; omega) _, (Below.heap_setCell _ _ _ _ (show w.heap.size ≠ w.heap.size + 1 by omega)).trans HR.out.bx, HR.out.ir.put _ 1⟩)
                  rw [hj0] at k4
                  clear HSTP HY2 HRI hj0
                  generalize nx m i b = j at *
                  go_wp2_with (fail)
                  go_roundw
                  case rel => exact ⟨b + 1, M.set j 1, true, rfl, by go_num, by omega, HMN, fun _ => HLT.out, fun h => (by cases h), Nat.le_of_lt HLT.out, HRN⟩
                  case measure => simp [intOf]; omega
                · have HQ := (show Hid (ch = false → M = M1 ∧ ClsTo m M i (b + 1)) from HSTP.out fun _ => get_one hjl hj1)
                  rw [hj1] at k4
                  clear HSTP HY2 HRI hj1
                  generalize nx m i b = j at *
                  go_wp2_with (fail)
                  go_roundw
                  case rel => exact ⟨b + 1, M, ch, rfl, by go_num, by omega, HM, HY1, HQ, HY3, HR⟩
                  case measure => simp [intOf]; omega
            · have HQ := (show Hid (ch = false → M = M1 ∧ ClsTo m M (i + 1) 0) from fun h => ⟨(HY2.out h).1, cls_row (by have := (HY2.out h).2; rw [show b = 256 by omega] at this; exact this)⟩)
              clear HY2
              go_wp2_with (fail)
              go_roundw
              case rel => exact ⟨i + 1, M, ch, rfl, by go_num, by omega, HM, HY1, HQ, HY3, HR⟩
              case measure => simp [intOf]; omega
        · have HCF := (show Hid (ch = false → ClsTo m M2 m.next.length 0) from fun h => by have := (HZ2.out h).2; rw [show i = m.next.length by omega] at this; exact this)
          have HLT := (show Hid (zeros M2 + (if ch = true then 1 else 0) < gk) from by
            show _ < _
            rw [HK.out]
            cases ch with
            | true => have := HZ1.out rfl; simp; omega
            | false => rw [(HZ2.out rfl).1]; simp)
          clear HZ1 HZ2 HZ3 HK
          go_wp2_with (fail)
          go_roundg (zeros M2 + (if ch = true then 1 else 0))
          case rel => exact ⟨M2, ch, rfl, rfl, HM2, HCF, HR2⟩
          case measure => exact HLT.out
end Go.Proofs.Ytlmodfeiphffcaa.tr
