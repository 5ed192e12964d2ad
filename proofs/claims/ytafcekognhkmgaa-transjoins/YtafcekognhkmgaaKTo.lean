/-
  Contracts over this program: trans.singles.
-/
import Derived.Test.YtafcekognhkmgaaKRg
namespace Go.Proofs.Ytafcekognhkmgaa.tr
open Go.ChangeShapes Go.WideShapes Go.ChangeAt Go.RowKit Go.Shelf
set_option linter.unusedVariables false

theorem empty_eq (b : ByteArray) : b.toList.isEmpty = (b.size == 0) := by
  rw [ByteArray.toList_eq]
  cases b with
  | mk a =>
    cases a with
    | mk l => cases l <;> rfl
theorem head_at (t : ByteArray) (h : 0 < t.size) : t.data.toList.headD 0 = t[0] := by
  have hl : 0 < t.data.toList.length := by rw [list_len]; exact h
  cases t with
  | mk a =>
    cases a with
    | mk l =>
      cases l with
      | nil => simp at hl
      | cons x l => rfl
theorem heap3 (w : World) (A B C : Obj) : (((w.alloc A).alloc B).alloc C).heap[w.heap.size + 1 + 1]? = some C := by
  have := heap_alloc_new ((w.alloc A).alloc B) C
  rw [World.size_alloc, World.size_alloc] at this
  exact this
theorem heap3_mid (w : World) (A B C : Obj) : (((w.alloc A).alloc B).alloc C).heap[w.heap.size + 1]? = some B := by
  rw [Below.heap_alloc _ _ _ (by rw [World.size_alloc, World.size_alloc]; omega)]
  have := heap_alloc_new (w.alloc A) B
  rw [World.size_alloc] at this
  exact this
theorem heap3_old (w : World) (A B C : Obj) : (((w.alloc A).alloc B).alloc C).heap[w.heap.size]? = some A := by
  rw [Below.heap_alloc _ _ _ (by rw [World.size_alloc, World.size_alloc]; omega), Below.heap_alloc _ _ _ (by rw [World.size_alloc]; omega)]
  exact heap_alloc_new w A
theorem below3 (w : World) (A B C : Obj) : Below w.heap.size w (((w.alloc A).alloc B).alloc C) := chain (chain (below_alloc w A) (below_alloc _ B)) (below_alloc _ C)

/-- what stands while singles goes on -/
structure Sn (w : World) (m : Mc) (p : Mp) (xs : List Nat) (W : World) : Prop where
  be : Below w.heap.size w W
  bx : Box W w.heap.size m p
  res : Arr W (w.heap.size + 1) noughts
  to : Arr W (w.heap.size + 1 + 1) xs
theorem Sn.put {w : World} {m : Mc} {p : Mp} {xs : List Nat} {W : World} (h : Sn w m p xs W) (i v : Nat) : Sn w m p (xs.set i v) (W.setCell ⟨w.heap.size + 1 + 1, i, none⟩ (.int .u8 v)) :=
  ⟨h.be.setCell (p := ⟨w.heap.size + 1 + 1, i, none⟩) (by show w.heap.size ≤ w.heap.size + 1 + 1; omega) _, (Below.heap_setCell _ _ _ _ (show w.heap.size ≠ w.heap.size + 1 + 1 by omega)).trans h.bx, h.res.other (by omega) i _, h.to.put i v⟩

def SinOut (m : Mc) (s : Nat) (w : World) (e : Ending) (w' : World) : Prop := ∃ xs ok, e = .returned (.tuple #[.agg (cells48 xs), .bool ok]) ∧ xs.length = 256 ∧ (ok = true → Sg m s ∧ xs = fb m s) ∧ (ok = false → ¬ Sg m s) ∧ Below w.heap.size w w'
def SinIs (m : Mc) (s : Nat) : Prop := ∀ p w, MAt (In w) w m p → Calls Try.prog 48 #[.agg (mv m p), .int .i64 (s : Int)] w (SinOut m s w)
set_option maxHeartbeats 4000000 in
set_option maxRecDepth 100000 in
theorem singles_any (m : Mc) (hR : Right m) (s : Nat) (hs : s < m.next.length) : SinIs m s := by
  intro p w hM
  have hz := zero48
  have hcs := cells48_size noughts noughts_len
  have HS0 : Hid (Sn w m p noughts (((w.alloc (.cells (mv m p) 26)).alloc (.cells (cells48 noughts) 48)).alloc (.cells (cells48 noughts) 48))) := ⟨below3 w _ _ _, heap3_old w _ _ _, ⟨heap3_mid w _ _ _, noughts_len⟩, ⟨heap3 w _ _ _, noughts_len⟩⟩
  have HM : Hid (∀ W, Below w.heap.size w W → MAt (Lo w.heap.size) W m p) := fun W b => hM.carry (fun k hk => b.block k hk) (fun _ h => h)
  have t2 := hM.rpt.fit
  have t3 := hM.rpt.top
  have t4 := hM.ren.fit
  have t5 := hM.ren.top
  have t6 := hM.rtx.fit
  have t7 := hM.rtx.top
  have hpl : s < m.put.length := by rw [hR.puts]; exact hs
  have hfl : s < m.fin.length := by rw [hR.fins]; exact hs
  have k1 := HS0.out.bx.c1
  obtain ⟨pb, poff, rb, roff, rc, e1, h1, h2, h3, h4, h5, h6⟩ := (HM.out _ HS0.out.be).put_at hR hs (b := 0) (by omega)
  have HROW : Hid (∀ W, Below w.heap.size w W → ∀ b, b < 256 → W.cell? ⟨rb, roff + b, none⟩ = some (.int .i64 (pt m s b : Nat))) := fun W bW b hb => by
    obtain ⟨pb', poff', rb', roff', rc', e', a1, a2, a3, a4, _, _⟩ := (HM.out W bW).put_at hR hs hb
    have q2 := h2
    rw [HS0.out.be.cell h1] at q2
    rw [e1] at e'
    simp only [Option.some.injEq, Addr.mk.injEq, and_true] at e'
    obtain ⟨rfl, rfl⟩ := e'
    rw [bW.cell h1, q2] at a2
    simp only [Option.some.injEq, Value.slice.injEq, Addr.mk.injEq, and_true, true_and] at a2
    obtain ⟨⟨rfl, rfl⟩, _⟩ := a2
    exact a4
  obtain ⟨no, nc, po, pc, eo, ec, xo, xc⟩ := p
  simp only at e1
  subst e1
  have HNS : Hid (∀ b, b < 256 → ol m s b ≠ 1 → ¬ Sg m s) := fun b hb h hg => h (hg.2 b hb)
  clear h4 hM
  go_enter Try.func48, Try.ntmps48
  go_wp2_with (fail)
  obtain ⟨w0, HW0⟩ : ∃ w0, Hid (w0 = ((w.alloc (.cells (mv m ⟨no, nc, some ⟨pb, poff, none⟩, pc, eo, ec, xo, xc⟩) 26)).alloc (.cells (cells48 noughts) 48)).alloc (.cells (cells48 noughts) 48)) := ⟨_, rfl⟩
  rw [← HW0.out] at HS0 ⊢
  clear HW0 h2 k1
  go_loopw [17] (fun x wr => ∃ b : Nat, x = .int .i64 b ∧ b ≤ 256 ∧ Hid (Sn w m ⟨no, nc, some ⟨pb, poff, none⟩, pc, eo, ec, xo, xc⟩ (tb (fbyte m s) b) wr) ∧ Hid (∀ b', b' < b → ol m s b' = 1)) (fun x _ => 256 - (intOf x).toNat)
  case atStart => exact ⟨0, rfl, by omega, by rw [tb_zero]; exact HS0, fun b' h => by omega⟩
  case round =>
    obtain ⟨b, rfl, hb, HS, HB⟩ := hrel
    clear HS0
    have k2 := HS.out.bx.c2
    have k3 := HS.out.bx.c3
    by_cases hbe : b < 256
    · have hq := HROW.out wr HS.out.be b hbe
      have hpt := hR.pt_lt hs hbe
      obtain ⟨xb, xoff, e7, h7, h8⟩ := (HM.out wr HS.out.be).tx_at (k := pt m s b / 2) (by omega)
      simp only at e7
      subst e7
      have harr := HS.out.to
      have kc := harr.cell b hbe
      have kf := harr.fz b
      have hu := u8_nat b hbe
      have HFB : Hid (fbyte m s b = if pt m s b % 2 = 1 then b else ((tx m (pt m s b / 2)).data.toList.headD 0).toNat) := rfl
      have HOL : Hid (ol m s b = (tx m (pt m s b / 2)).size + pt m s b % 2) := rfl
      have HNX : Hid (ol m s b = 1 → ∀ b', b' < b + 1 → ol m s b' = 1) := fun h b' hb' => by
        rcases Nat.lt_succ_iff_lt_or_eq.1 hb' with h' | h'
        · exact HB.out b' h'
        · rw [h']; exact h
      have HPUT : Hid (∀ v, v = fbyte m s b → Sn w m ⟨no, nc, some ⟨pb, poff, none⟩, pc, eo, ec, some ⟨xb, xoff, none⟩, xc⟩ (tb (fbyte m s) (b + 1)) (wr.setCell ⟨w.heap.size + 1 + 1, b, none⟩ (.int .u8 v))) := fun v hv => by
        rw [← tb_set _ b hbe, ← hv]
        exact HS.out.put b v
      have HNS2 : Hid (ol m s b ≠ 1 → ¬ Sg m s) := HNS.out b hbe
      have hres := HS.out.res
      generalize pt m s b = z at *
      generalize tx m (z / 2) = t at *
      have hd := div2 z
      have hmd := mod2 z
      have hz2 : z / 2 < m.txt.length := by omega
      by_cases hodd : z % 2 = 1
      · rw [hodd] at hmd HOL
        have HF2 : Hid (b = fbyte m s b) := by show _ = _; rw [HFB.out, if_pos hodd]
        by_cases hte : t.size = 0
        · have f1 : t.toList.isEmpty = true := by rw [empty_eq, hte]; rfl
          have HO1 : Hid (ol m s b = 1) := by show _ = _; rw [HOL.out, hte]
          clear hte hodd HFB
          go_wp2_with (fail)
          go_roundw
          case rel => exact ⟨b + 1, by go_num, by omega, HPUT.out b HF2.out, HNX.out HO1.out⟩
          case measure => simp [intOf]; omega
        · have f1 : t.toList.isEmpty = false := by rw [empty_eq]; exact beq_eq_false_iff_ne.2 hte
          have HO1 : Hid (¬ Sg m s) := HNS2.out (by rw [HOL.out]; omega)
          clear hte hodd HFB
          go_wp2_with (refine wpList_store_row rfl 48 (.tmp 4) (.tmp 31) rfl (w.heap.size + 1) (cells48 noughts) rfl rfl 48 _ hres.1 (info48 _ noughts_len) (by rfl) (cells48_one _) ?_)
          refine ret48 Try.results48 (w.heap.size + 1) noughts false rfl (hres.row noughts_len) rfl rfl ?_
          exact ⟨noughts, false, rfl, noughts_len, (fun h => by cases h), fun _ => HO1.out, below_setRow HS.out.be (by omega) _⟩
      · have hev : z % 2 = 0 := by omega
        rw [hev] at hmd HOL
        by_cases hte : t.size = 1
        · have f1 : ((t.size : Int) == 1) = true := beq_iff_eq.2 (by omega)
          have hts : 0 < t.size := by omega
          have f3 : (0 : Int) < (t.size : Int) := by omega
          have HO1 : Hid (ol m s b = 1) := by show _ = _; rw [HOL.out, hte]
          have HF2 : Hid (t[0].toNat = fbyte m s b) := by show _ = _; rw [HFB.out, if_neg hodd, head_at t hts]
          clear hte hodd hev HFB
          go_wp2_with (fail)
          go_roundw
          case rel => exact ⟨b + 1, by go_num, by omega, HPUT.out _ HF2.out, HNX.out HO1.out⟩
          case measure => simp [intOf]; omega
        · have f1 : ((t.size : Int) == 1) = false := beq_eq_false_iff_ne.2 (by omega)
          have HO1 : Hid (¬ Sg m s) := HNS2.out (by rw [HOL.out]; omega)
          clear hte hodd hev HFB
          go_wp2_with (refine wpList_store_row rfl 48 (.tmp 4) (.tmp 31) rfl (w.heap.size + 1) (cells48 noughts) rfl rfl 48 _ hres.1 (info48 _ noughts_len) (by rfl) (cells48_one _) ?_)
          refine ret48 Try.results48 (w.heap.size + 1) noughts false rfl (hres.row noughts_len) rfl rfl ?_
          exact ⟨noughts, false, rfl, noughts_len, (fun h => by cases h), fun _ => HO1.out, below_setRow HS.out.be (by omega) _⟩
    · obtain ⟨eb, eoff, e, heb, hec⟩ := (HM.out wr HS.out.be).fin_at hR hs
      simp only at e
      subst e
      have hen := hR.en_lt hs
      obtain ⟨xb, xoff, e, hxb, hxc⟩ := (HM.out wr HS.out.be).tx_at hen
      simp only at e
      subst e
      have HEL : Hid (el m s = (tx m (en m s)).size) := rfl
      have HAL : Hid (∀ b', b' < 256 → ol m s b' = 1) := fun b' h => HB.out b' (by omega)
      have harr := HS.out.to
      rw [show tb (fbyte m s) b = fb m s by unfold fb; rw [show b = 256 by omega]] at harr
      have hfl2 : (fb m s).length = 256 := tb_len _ _
      have hres := HS.out.res
      have HBE := HS.out.be
      generalize en m s = z at *
      generalize tx m z = t at *
      generalize hfx : fb m s = xs at *
      have HFX : Hid (fb m s = xs) := hfx
      clear hfx HB
      have hbx := HS.out.bx
      clear HS
      go_wp2_with (fail)
      refine wp_region_held (S := fun W => Box W w.heap.size m ⟨no, nc, some ⟨pb, poff, none⟩, pc, some ⟨eb, eoff, none⟩, ec, some ⟨xb, xoff, none⟩, xc⟩ ∧ Arr W (w.heap.size + 1 + 1) xs ∧ W.cell? ⟨eb, eoff + s, none⟩ = some (.int .i64 (z : Nat)) ∧ W.cell? ⟨xb, xoff + z, none⟩ = some (.string t)) (by kernel_rfl) ?_
      have hS0 : Box wr.drew w.heap.size m ⟨no, nc, some ⟨pb, poff, none⟩, pc, some ⟨eb, eoff, none⟩, ec, some ⟨xb, xoff, none⟩, xc⟩ ∧ Arr wr.drew (w.heap.size + 1 + 1) xs ∧ wr.drew.cell? ⟨eb, eoff + s, none⟩ = some (.int .i64 (z : Nat)) ∧ wr.drew.cell? ⟨xb, xoff + z, none⟩ = some (.string t) := ⟨hbx, harr, hec, hxc⟩
      refine rg.take_op (i := 0) 55 rfl rfl (rg.yields_run (by kernel_rfl) (fun W h => rg.x_load48 (x := .tmp 6) (g := w.heap.size + 1 + 1) rfl rfl h.2.1)) (by kernel_rfl) (by kernel_rfl) (by kernel_rfl) (fun _ _ _ h => h) hS0 ?_
      simp only [Act.put, List.setIfInBounds_toArray, List.set_cons_zero, List.set_cons_succ]
      refine rg.take_op (i := 1) 56 rfl rfl (rg.yields_run (by kernel_rfl) (v := .pointer (some ⟨w.heap.size, 3, none⟩)) (fun W h => by kernel_rfl)) (by kernel_rfl) (by kernel_rfl) (by kernel_rfl) (fun _ _ _ h => h) hS0 ?_
      simp only [Act.put, List.setIfInBounds_toArray, List.set_cons_zero, List.set_cons_succ]
      refine rg.take_op (i := 2) 57 rfl rfl (rg.yields_run (by kernel_rfl) (fun W h => rg.x_load24 (x := .tmp 56) rfl rfl h.1.c3)) (by kernel_rfl) (by kernel_rfl) (by kernel_rfl) (fun _ _ _ h => h) hS0 ?_
      simp only [Act.put, List.setIfInBounds_toArray, List.set_cons_zero, List.set_cons_succ]
      refine rg.take_op (i := 3) 58 rfl rfl (rg.yields_run (by kernel_rfl) (v := .pointer (some ⟨w.heap.size, 2, none⟩)) (fun W h => by kernel_rfl)) (by kernel_rfl) (by kernel_rfl) (by kernel_rfl) (fun _ _ _ h => h) hS0 ?_
      simp only [Act.put, List.setIfInBounds_toArray, List.set_cons_zero, List.set_cons_succ]
      refine rg.take_op (i := 4) 59 rfl rfl (rg.yields_run (by kernel_rfl) (fun W h => rg.x_load23 (x := .tmp 58) rfl rfl h.1.c2)) (by kernel_rfl) (by kernel_rfl) (by kernel_rfl) (fun _ _ _ h => h) hS0 ?_
      simp only [Act.put, List.setIfInBounds_toArray, List.set_cons_zero, List.set_cons_succ]
      refine rg.take_op (i := 5) 60 rfl rfl (rg.yields_run (by kernel_rfl) (v := .int .i64 (s : Int)) (fun W h => by kernel_rfl)) (by kernel_rfl) (by kernel_rfl) (by kernel_rfl) (fun _ _ _ h => h) hS0 ?_
      simp only [Act.put, List.setIfInBounds_toArray, List.set_cons_zero, List.set_cons_succ]
      refine rg.take_op (i := 6) 61 rfl rfl (rg.yields_run (by kernel_rfl) (fun W h => rg.x_index23 (x := .tmp 59) (y := .tmp 60) rfl rfl rfl hfl)) (by kernel_rfl) (by kernel_rfl) (by kernel_rfl) (fun _ _ _ h => h) hS0 ?_
      simp only [Act.put, List.setIfInBounds_toArray, List.set_cons_zero, List.set_cons_succ]
      refine rg.take_op (i := 7) 62 rfl rfl (rg.yields_run (by kernel_rfl) (fun W h => rg.x_load3 (x := .tmp 61) rfl rfl h.2.2.1)) (by kernel_rfl) (by kernel_rfl) (by kernel_rfl) (fun _ _ _ h => h) hS0 ?_
      simp only [Act.put, List.setIfInBounds_toArray, List.set_cons_zero, List.set_cons_succ]
      refine rg.take_op (i := 8) 63 rfl rfl (rg.yields_run (by kernel_rfl) (fun W h => rg.x_index24 (x := .tmp 57) (y := .tmp 62) rfl rfl rfl hen)) (by kernel_rfl) (by kernel_rfl) (by kernel_rfl) (fun _ _ _ h => h) hS0 ?_
      simp only [Act.put, List.setIfInBounds_toArray, List.set_cons_zero, List.set_cons_succ]
      refine rg.take_op (i := 9) 64 rfl rfl (rg.yields_run (by kernel_rfl) (fun W h => rg.x_load9 (x := .tmp 63) rfl rfl h.2.2.2)) (by kernel_rfl) (by kernel_rfl) (by kernel_rfl) (fun _ _ _ h => h) hS0 ?_
      simp only [Act.put, List.setIfInBounds_toArray, List.set_cons_zero, List.set_cons_succ]
      refine rg.take_op (i := 10) 65 rfl rfl (rg.yields_run (by kernel_rfl) (fun W h => rg.x_eql9 (x := .tmp 64) rfl rfl)) (by kernel_rfl) (by kernel_rfl) (by kernel_rfl) (fun _ _ _ h => h) hS0 ?_
      simp only [Act.put, List.setIfInBounds_toArray, List.set_cons_zero, List.set_cons_succ]
      have hne1 : (⟨eb, eoff + s, none⟩ : Addr).block ≠ w.heap.size + 1 := by show eb ≠ _; omega
      have hne2 : (⟨xb, xoff + z, none⟩ : Addr).block ≠ w.heap.size + 1 := by show xb ≠ _; omega
      have hbl : Below w.heap.size w (wr.drew.setRow (w.heap.size + 1) (cells48 xs)) := below_setRow HBE.drew (by omega) _
      have hSr : Box (wr.drew.setRow (w.heap.size + 1) (cells48 xs)) w.heap.size m ⟨no, nc, some ⟨pb, poff, none⟩, pc, some ⟨eb, eoff, none⟩, ec, some ⟨xb, xoff, none⟩, xc⟩ ∧ Arr (wr.drew.setRow (w.heap.size + 1) (cells48 xs)) (w.heap.size + 1 + 1) xs ∧ (wr.drew.setRow (w.heap.size + 1) (cells48 xs)).cell? ⟨eb, eoff + s, none⟩ = some (.int .i64 (z : Nat)) ∧ (wr.drew.setRow (w.heap.size + 1) (cells48 xs)).cell? ⟨xb, xoff + z, none⟩ = some (.string t) := by
        refine ⟨?_, harr.row_other (w := wr.drew) (by omega) _, ?_, ?_⟩
        · unfold Box
          rw [setRow_other _ _ _ _ (by omega)]
          exact hbx
        · rw [World.cell?_of_block (w := wr.drew) (setRow_other _ _ _ _ hne1)]
          exact hec
        · rw [World.cell?_of_block (w := wr.drew) (setRow_other _ _ _ _ hne2)]
          exact hxc
      have hres2 : Arr (wr.drew.setRow (w.heap.size + 1) (cells48 xs)) (w.heap.size + 1) xs := Arr.row (w := wr.drew) hres hfl2
      refine rg.wp_op 11 (by kernel_rfl) rfl (by kernel_rfl) ?_
      refine wp_store_row 48 (.tmp 4) (.tmp 55) rfl (w.heap.size + 1) (cells48 xs) rfl rfl 48 (cells48 noughts) hres.1 (info48 xs hfl2) (by rw [cells48_size _ hres.2, cells48_size _ hfl2]) (cells48_one _) ?_
      refine ⟨hSr, ?_⟩
      have hS0 := hSr
      refine rg.take_op (i := 12) 5 rfl rfl (rg.yields_run (by kernel_rfl) (v := .bool (t.size == 0)) (fun W h => by kernel_rfl)) (by kernel_rfl) (by kernel_rfl) (by kernel_rfl) (fun _ _ _ h => h) hS0 ?_
      simp only [Act.put, List.setIfInBounds_toArray]
      refine rg.done_op (by kernel_rfl) ?_
      go_wp2_with (fail)
      refine ret48 Try.results48 (w.heap.size + 1) xs (t.size == 0) rfl hres2 rfl rfl ?_
      refine ⟨xs, t.size == 0, rfl, hfl2, fun h => ?_, fun h => ?_, hbl⟩
      · exact ⟨⟨by rw [HEL.out]; exact beq_iff_eq.1 h, HAL.out⟩, HFX.out.symm⟩
      · rintro ⟨h1, _⟩
        rw [HEL.out] at h1
        rw [h1] at h
        cases h
end Go.Proofs.Ytafcekognhkmgaa.tr
