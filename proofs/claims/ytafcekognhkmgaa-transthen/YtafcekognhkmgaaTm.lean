/-
  Contracts over this program: the document's Grow (fretsawref12).
-/
import Derived.Test.YtafcekognhkmgaaTl
namespace Go.Proofs.Ytafcekognhkmgaa.tr
open Go.ChangeShapes Go.WideShapes Go.ChangeAt Go.RowKit Go.Shelf
set_option linter.unusedVariables false

theorem u8_nat (b : Nat) (hb : b < 256) : IntKind.u8.wrap (b : Int) = (b : Int) := by
  unfold IntKind.wrap
  simp [IntKind.bits, IntKind.signed]
  omega
theorem of_nat (b : Nat) (hb : b < 256) : (UInt8.ofNat b).toNat = b := by simp; omega
set_option maxHeartbeats 4000000 in
set_option maxRecDepth 100000 in
theorem rgrow_any (N : Nat) (hN : N = 256) (m : Mc) (hR : Right m) (n l : Nat) (hn : n = most N m m.next.length) (hl : l = last m m.next.length) : GrowIs 25 m n l := by
  intro p w hM
  have HNN : Hid (N = 256) := hN
  clear hN
  obtain ⟨wA, HWA⟩ : ∃ wA, Hid (wA = w.alloc (.cells (mv m p) 26)) := ⟨_, rfl⟩
  have B0 : Below w.heap.size w wA := by rw [HWA.out]; exact below_alloc w _
  have hMA : MAt (In wA) wA m p := hM.later B0
  have hXA : Box wA w.heap.size m p := by rw [HWA.out]; exact box_new w m p
  have HK : Hid (∀ W, Below wA.heap.size wA W → Box W w.heap.size m p ∧ MAt (In W) W m p) := fun W b => ⟨hXA.later b, hMA.later b⟩
  have t0 := hM.rnx.fit
  have t1 := hM.rnx.top
  have t4 := hM.ren.fit
  have t5 := hM.ren.top
  have t6 := hM.rtx.fit
  have t7 := hM.rtx.top
  have HN : Hid (n = most N m m.next.length ∧ l = last m m.next.length) := ⟨hn, hl⟩
  have HFL : Hid (m.fin.length = m.next.length) := hR.fins
  have hb0 := hXA
  unfold Box at hb0
  rw [HWA.out] at hb0
  clear hn hl hM hMA hXA
  have HOUT : Hid (∀ i, i < m.next.length → ∀ b : Nat, b < 256 → ∃ t : ByteArray, t.size = ol m i b ∧ ∀ W, Below wA.heap.size wA W → Calls Try.prog 33 #[.agg (mv m p), .int .i64 (i : Int), .int .u8 (b : Int)] W fun e w' => e = .returned (.string t) ∧ Below W.heap.size W w') := fun i hi b hb => by
    refine ⟨bs (outp m i (UInt8.ofNat b)), ?_, fun W bW => ?_⟩
    · rw [bs_size, outp_length, of_nat b hb]
    · have := out_any m hR i hi (UInt8.ofNat b) p W (HK.out W bW).2
      rw [of_nat b hb] at this
      exact this
  go_enter Try.func25, Try.ntmps25
  go_wp2_with (fail)
  rw [← HWA.out]
  clear hb0
  go_loopw [4, 5, 13] (fun y z x wr => ∃ i : Nat, x = .int .i64 i ∧ y = .int .i64 (most N m i : Nat) ∧ z = .int .i64 (last m i : Nat) ∧ i ≤ m.next.length ∧ Below wA.heap.size wA wr) (fun _ _ x _ => m.next.length - (intOf x).toNat)
  case atStart => exact ⟨0, rfl, rfl, rfl, by omega, Below.refl _ _⟩
  case round =>
    obtain ⟨i, rfl, rfl, rfl, hi, bl⟩ := hrel
    by_cases hend : i < m.next.length
    · have hif : i < m.fin.length := by rw [HFL.out]; exact hend
      have hm1 := most_le N hR i
      have hl1 := last_le hR i
      have HMS : Hid (most N m (i + 1) = inn m i (most N m i) N) := most_succ N m i
      have HO2 : Hid _ := HOUT.out i hend
      go_wp2_with (fail)
      obtain ⟨w0, rfl⟩ : ∃ w0 : World, w0 = wr := ⟨_, rfl⟩
      go_loopw [4, 7] (fun y x wr => ∃ b : Nat, x = .int .i64 b ∧ y = .int .i64 (inn m i (most N m i) b : Nat) ∧ b ≤ 256 ∧ Below wA.heap.size wA wr) (fun _ x _ => 256 - (intOf x).toNat)
      case atStart => exact ⟨0, rfl, rfl, by omega, bl⟩
      case round =>
        clear bl
        obtain ⟨b, rfl, rfl, hb, bl⟩ := hrel
        have Xr := (HK.out wr bl).1
        by_cases hbe : b < 256
        · obtain ⟨tt, HTS, c33⟩ := HO2.out b hbe
          have c33 := c33 wr bl
          have hi1 := inn_le hR i (most N m i) b hm1
          have HIS : Hid (inn m i (most N m i) (b + 1) = max (inn m i (most N m i) b) tt.size) := by show _ = _; rw [HTS]; exact inn_succ m i _ b
          have hts : tt.size ≤ 4097 := by rw [HTS]; exact ol_le hR i b
          have hu := u8_nat b hbe
          generalize inn m i (most N m i) b = u at *
          clear HTS
          by_cases hgt : u < tt.size
          · have f1 : (u : Int) < (tt.size : Int) := by omega
            go_wp2_with (first | (refine wpList_load_row rfl 26 (.tmp 1) rfl w.heap.size rfl 26 (mv m p) (0, 0) _ Xr Try.underlying26 rfl info26 ?_) | (go_at_call 33; refine c33.mono ?_; rintro e w2 ⟨rfl, b2⟩))
            go_roundw
            case rel => exact ⟨b + 1, by go_num, by rw [HIS.out]; congr 1; omega, by omega, chain bl b2⟩
            case measure => simp [intOf]; omega
          · have f1 : ¬ (u : Int) < (tt.size : Int) := by omega
            go_wp2_with (first | (refine wpList_load_row rfl 26 (.tmp 1) rfl w.heap.size rfl 26 (mv m p) (0, 0) _ Xr Try.underlying26 rfl info26 ?_) | (go_at_call 33; refine c33.mono ?_; rintro e w2 ⟨rfl, b2⟩))
            go_roundw
            case rel => exact ⟨b + 1, by go_num, by rw [HIS.out]; congr 1; omega, by omega, chain bl b2⟩
            case measure => simp [intOf]; omega
        · have HBB : Hid (inn m i (most N m i) b = most N m (i + 1)) := by
            show _ = _
            rw [HMS.out, HNN.out, show b = 256 by omega]
          rw [HBB.out]
          have HLS : Hid (last m (i + 1) = max (last m i) (tx m (en m i)).size) := last_succ m i
          obtain ⟨eb, eoff, e, heb, hec⟩ := (HK.out wr bl).2.fin_at hR hend
          have hen := hR.en_lt hend
          obtain ⟨xb, xoff, e2, hxb, hxc⟩ := (HK.out wr bl).2.tx_at hen
          have hes := hR.tx_le (en m i)
          have k2 := Xr.c2
          have k3 := Xr.c3
          rw [e] at k2
          rw [e2] at k3
          generalize en m i = z at *
          generalize tx m z = tt at *
          generalize last m i = u at *
          clear HO2 HOUT e e2
          by_cases hgt : u < tt.size
          · have f1 : (u : Int) < (tt.size : Int) := by omega
            go_wp2_with (fail)
            go_quiet (fail)
            go_wp2_with (fail)
            go_roundw
            case rel => exact ⟨i + 1, by go_num, rfl, by rw [HLS.out]; congr 1; omega, by omega, below_drewN bl _⟩
            case measure => simp [intOf]; omega
          · have f1 : ¬ (u : Int) < (tt.size : Int) := by omega
            go_wp2_with (fail)
            go_quiet (fail)
            go_wp2_with (fail)
            go_roundw
            case rel => exact ⟨i + 1, by go_num, rfl, by rw [HLS.out]; congr 1; omega, by omega, below_drewN bl _⟩
            case measure => simp [intOf]; omega
    · have HE : Hid (most N m i = n ∧ last m i = l) := by
        have h1 : i = m.next.length := by omega
        rw [h1, HN.out.1, HN.out.2]
        exact ⟨rfl, rfl⟩
      rw [HE.out.1, HE.out.2]
      go_wp2_with (fail)
      go_ret2
      exact ⟨rfl, chain B0 bl⟩
end Go.Proofs.Ytafcekognhkmgaa.tr
