/-
  Plain mathematics and contracts over this program: how much a machine may put (trans.Grow).
-/
import Derived.Test.YtafcekognhkmgaaTk
namespace Go.Proofs.Ytafcekognhkmgaa.tr
open Go.ChangeShapes Go.WideShapes Go.ChangeAt Go.RowKit Go.Shelf
set_option linter.unusedVariables false

/-- bytes that are put at a byte, and at the end -/
def ol (m : Mc) (s b : Nat) : Nat := (tx m (pt m s b / 2)).size + pt m s b % 2
def el (m : Mc) (s : Nat) : Nat := (tx m (en m s)).size
def inn (m : Mc) (s k j : Nat) : Nat := (List.range j).foldl (fun k b => max k (ol m s b)) k
def most (N : Nat) (m : Mc) (i : Nat) : Nat := (List.range i).foldl (fun k s => inn m s k N) 0
def last (m : Mc) (i : Nat) : Nat := (List.range i).foldl (fun k s => max k (el m s)) 0
theorem inn_zero (m : Mc) (s k : Nat) : inn m s k 0 = k := rfl
theorem inn_succ (m : Mc) (s k j : Nat) : inn m s k (j + 1) = max (inn m s k j) (ol m s j) := by
  unfold inn
  rw [List.range_succ, List.foldl_append]
  rfl
theorem most_succ (N : Nat) (m : Mc) (i : Nat) : most N m (i + 1) = inn m i (most N m i) N := by
  unfold most
  rw [List.range_succ, List.foldl_append]
  rfl
theorem last_succ (m : Mc) (i : Nat) : last m (i + 1) = max (last m i) (el m i) := by
  unfold last
  rw [List.range_succ, List.foldl_append]
  rfl
theorem outp_length (m : Mc) (s : Nat) (b : UInt8) : (outp m s b).length = ol m s b.toNat := by
  unfold outp ol
  rw [List.length_append, list_len]
  split <;> simp <;> omega
theorem ol_le {m : Mc} (h : Right m) (s b : Nat) : ol m s b ≤ 4097 := by
  have := h.tx_le (pt m s b / 2)
  unfold ol
  omega
theorem inn_le {m : Mc} (h : Right m) (s k j : Nat) (hk : k ≤ 4097) : inn m s k j ≤ 4097 := by
  induction j with
  | zero => exact hk
  | succ j ih => rw [inn_succ]; have := ol_le h s j; omega
theorem inn_ge (m : Mc) (s k j : Nat) : k ≤ inn m s k j := by
  induction j with
  | zero => exact Nat.le_refl _
  | succ j ih => rw [inn_succ]; omega
theorem inn_at (m : Mc) (s k j b : Nat) (hb : b < j) : ol m s b ≤ inn m s k j := by
  induction j with
  | zero => omega
  | succ j ih =>
    rw [inn_succ]
    by_cases h : b = j
    · subst h; omega
    · have := ih (by omega); omega
theorem most_le (N : Nat) {m : Mc} (h : Right m) (i : Nat) : most N m i ≤ 4097 := by
  induction i with
  | zero => exact Nat.zero_le _
  | succ i ih => rw [most_succ]; exact inn_le h i _ N ih
theorem most_at (N : Nat) (m : Mc) (i s b : Nat) (hs : s < i) (hb : b < N) : ol m s b ≤ most N m i := by
  induction i with
  | zero => omega
  | succ i ih =>
    rw [most_succ]
    by_cases h : s = i
    · subst h; exact inn_at m s _ N b hb
    · exact Nat.le_trans (ih (by omega)) (inn_ge m i _ N)
theorem last_le {m : Mc} (h : Right m) (i : Nat) : last m i ≤ 4096 := by
  induction i with
  | zero => exact Nat.zero_le _
  | succ i ih => rw [last_succ]; have := h.tx_le (en m i); unfold el; omega
theorem last_at (m : Mc) (i s : Nat) (hs : s < i) : el m s ≤ last m i := by
  induction i with
  | zero => omega
  | succ i ih =>
    rw [last_succ]
    by_cases h : s = i
    · subst h; omega
    · have := ih (by omega); omega
theorem go_most (N : Nat) (hN : N = 256) {m : Mc} (h : Right m) {s : Nat} (hs : s < m.next.length) (l : List UInt8) : (go m s l).1.length ≤ most N m m.next.length * l.length := by
  induction l generalizing s with
  | nil => simp [go]
  | cons b l ih =>
    have h1 := ih (h.nx_lt hs b.toNat_lt)
    have h2 := most_at N m m.next.length s b.toNat hs (by rw [hN]; exact b.toNat_lt)
    simp only [go, List.length_append, List.length_cons, outp_length, Nat.mul_add, Nat.mul_one]
    omega
theorem total_most (N : Nat) (hN : N = 256) {m : Mc} (h : Right m) (l : List UInt8) : (total m 0 l).length ≤ most N m m.next.length * l.length + last m m.next.length := by
  have h1 := go_most N hN h h.one l
  have h2 := last_at m m.next.length _ (go_lt h h.one l)
  unfold total
  rw [List.length_append, list_len]
  unfold el at h2
  omega
def gN (N : Nat) (m : Mc) : Nat := if right m = true then most N m m.next.length else 0
def gL (m : Mc) : Nat := if right m = true then last m m.next.length else 0

def GrowIs (f : Nat) (m : Mc) (n l : Nat) : Prop := ∀ p w, MAt (In w) w m p → Calls Try.prog f #[.agg (mv m p)] w fun e w' => e = .returned (.tuple #[.int .i64 (n : Int), .int .i64 (l : Int)]) ∧ Below w.heap.size w w'
set_option maxHeartbeats 4000000 in
set_option maxRecDepth 100000 in
theorem grow_any (N : Nat) (hN : N = 256) (m : Mc) (n l : Nat) (hn : n = gN N m) (hl : l = gL m) : GrowIs 24 m n l := by
  intro p w hM
  have HNN : Hid (N = 256) := hN
  clear hN
  obtain ⟨wA, HWA⟩ : ∃ wA, Hid (wA = w.alloc (.cells (mv m p) 26)) := ⟨_, rfl⟩
  have B0 : Below w.heap.size w wA := by rw [HWA.out]; exact below_alloc w _
  have hMA : MAt (In wA) wA m p := hM.later B0
  have hXA : Box wA w.heap.size m p := by rw [HWA.out]; exact box_new w m p
  have HK : Hid (∀ W, Below wA.heap.size wA W → Box W w.heap.size m p ∧ MAt (In W) W m p) := fun W b => ⟨hXA.later b, hMA.later b⟩
  have c9 := right_any m _ rfl p wA hMA
  have t2 := hM.rpt.fit
  have t3 := hM.rpt.top
  have t4 := hM.ren.fit
  have t5 := hM.ren.top
  have t6 := hM.rtx.fit
  have t7 := hM.rtx.top
  have hb0 := hXA
  unfold Box at hb0
  rw [HWA.out] at hb0
  cases hr : right m with
  | false =>
    rw [hr] at c9
    obtain rfl : n = 0 := by rw [hn]; unfold gN; rw [if_neg (by simp [hr])]
    obtain rfl : l = 0 := by rw [hl]; unfold gL; rw [if_neg (by simp [hr])]
    rw [HWA.out] at c9
    clear hn hl hr hM hMA hXA
    go_enter Try.func24, Try.ntmps24
    go_wp2_with (first | (refine wpList_load_row rfl 26 (.tmp 1) rfl w.heap.size rfl 26 (mv m p) (0, 0) _ hb0 Try.underlying26 rfl info26 ?_) | (go_at_call 9; refine c9.mono ?_; rintro e w1 ⟨rfl, b1⟩))
    go_ret2
    rw [HWA.out] at B0
    exact ⟨rfl, chain B0 b1⟩
  | true =>
    rw [hr, HWA.out] at c9
    have hR := right_iff.1 hr
    have HN : Hid (n = most N m m.next.length ∧ l = last m m.next.length) := ⟨by rw [hn]; unfold gN; rw [if_pos hr], by rw [hl]; unfold gL; rw [if_pos hr]⟩
    have HPL : Hid (m.put.length = m.next.length) := hR.puts
    have hfl : m.fin.length = m.next.length := hR.fins
    have HFL : Hid (m.fin.length = m.next.length) := hfl
    clear hn hl hr hM hMA hXA hfl
    go_enter Try.func24, Try.ntmps24
    go_wp2_with (first | (refine wpList_load_row rfl 26 (.tmp 1) rfl w.heap.size rfl 26 (mv m p) (0, 0) _ hb0 Try.underlying26 rfl info26 ?_) | (go_at_call 9; refine c9.mono ?_; rintro e w1 ⟨rfl, b1⟩; rw [← HWA.out] at b1; obtain ⟨X1, M1⟩ := HK.out w1 b1; have k1 := X1.c1))
    clear k1 hb0 c9
    obtain ⟨no, nc, po, pc, eo, ec, xo, xc⟩ := p
    go_loopw [4, 5, 16] (fun y z x wr => ∃ i : Nat, x = .int .i64 i ∧ y = .int .i64 (most N m i : Nat) ∧ z = .int .i64 (last m i : Nat) ∧ i ≤ m.put.length ∧ Hid (wr.heap = w1.heap) ∧ Below w1.heap.size w1 wr) (fun _ _ x _ => m.put.length - (intOf x).toNat)
    case atStart => exact ⟨0, rfl, rfl, rfl, by omega, rfl, Below.refl _ _⟩
    case round =>
      obtain ⟨i, rfl, rfl, rfl, hi, HH, bl⟩ := hrel
      by_cases hend : i < m.put.length
      · have hin : i < m.next.length := by rw [← HPL.out]; exact hend
        have hif : i < m.fin.length := by rw [HFL.out]; exact hin
        obtain ⟨Xr, Mr⟩ := HK.out wr (chain b1 bl)
        have hm1 := most_le N hR i
        have hl1 := last_le hR i
        obtain ⟨pb, poff, oj, cj, e, hpb, hpc, hpr⟩ := Mr.rpt.lie i hend
        simp only at e
        subst e
        obtain ⟨r, e1, e2, e3⟩ := hR.put_row hin
        rw [List.getElem?_eq_getElem hend] at e1
        have e1 := Option.some.inj e1
        rw [e1, e2] at hpc
        have hp1 := hpr.fit
        have hp2 := hpr.top
        rw [e1, e2] at hp1
        have HPR : Hid (∀ b, b < 256 → ∃ q off, oj = some ⟨q, off, none⟩ ∧ wr.cell? ⟨q, off + b, none⟩ = some (.int .i64 (pt m i b : Nat))) := fun b h => by
          obtain ⟨q, off, e, h1, h2⟩ := hpr.lie b (by rw [e1, e2]; exact h)
          refine ⟨q, off, e, ?_⟩
          rw [h2]
          have h6 := e3 b h
          rw [← e1, List.getElem?_eq_getElem (by rw [e1, e2]; exact h)] at h6
          rw [Option.some.inj h6]
        have HPT : Hid (∀ b, b < 256 → pt m i b < 2 * m.txt.length) := fun b h => hR.pt_lt hin h
        have k1 := Xr.c1
        have k2 := Xr.c2
        have k3 := Xr.c3
        obtain ⟨eb, eoff, e, heb, hec⟩ := Mr.fin_at hR hin
        simp only at e
        subst e
        have hen := hR.en_lt hin
        obtain ⟨xb, xoff, e, hxb, hxc⟩ := Mr.tx_at hen
        simp only at e
        subst e
        have HTX : Hid (∀ k, k < m.txt.length → wr.cell? ⟨xb, xoff + k, none⟩ = some (.string (tx m k))) := fun k hk => by
          obtain ⟨b', off', e, _, h⟩ := Mr.tx_at hk
          simp only [Option.some.injEq, Addr.mk.injEq, and_true] at e
          obtain ⟨rfl, rfl⟩ := e
          exact h
        have hes := hR.tx_le (en m i)
        have HLS : Hid (last m (i + 1) = max (last m i) (tx m (en m i)).size) := last_succ m i
        have HMS : Hid (most N m (i + 1) = inn m i (most N m i) N) := most_succ N m i
        clear hpr e1 e2 e3 Mr Xr
        go_wp2_with (fail)
        obtain ⟨w0, rfl⟩ : ∃ w0 : World, w0 = wr := ⟨_, rfl⟩
        go_loopw [4, 23] (fun y x wr => ∃ b : Nat, x = .int .i64 b ∧ y = .int .i64 (inn m i (most N m i) b : Nat) ∧ b ≤ 256 ∧ wr = w0) (fun _ x _ => 256 - (intOf x).toNat)
        case atStart => exact ⟨0, rfl, rfl, by omega, rfl⟩
        case round =>
          obtain ⟨b, rfl, rfl, hb, rfl⟩ := hrel
          by_cases hbe : b < 256
          · obtain ⟨q, off, e, hcp⟩ := HPR.out b hbe
            subst e
            have hpt := HPT.out b hbe
            have hi1 := inn_le hR i (most N m i) b hm1
            have HIS : Hid (inn m i (most N m i) (b + 1) = max (inn m i (most N m i) b) ((tx m (pt m i b / 2)).size + pt m i b % 2)) := inn_succ m i _ b
            have htl := hR.tx_le (pt m i b / 2)
            have htc := HTX.out (pt m i b / 2) (by omega)
            have hd := div2 (pt m i b)
            have hmd := mod2 (pt m i b)
            generalize pt m i b = z at *
            generalize tx m (z / 2) = tt at *
            generalize inn m i (most N m i) b = u at *
            have hz2 : z / 2 < m.txt.length := by omega
            have hz3 : z % 2 ≤ 1 := by omega
            clear hec hxc HPR HTX HPT
            go_wp2_with (fail)
            go_roundw
            case rel => exact ⟨b + 1, by go_num, by rw [HIS.out]; congr 1; omega, by omega, trivial⟩
            case measure => simp [intOf]; omega
          · have HBB : Hid (inn m i (most N m i) b = most N m (i + 1)) := by
              show _ = _
              rw [HMS.out, HNN.out, show b = 256 by omega]
            rw [HBB.out]
            generalize en m i = z at *
            generalize tx m z = tt at *
            clear HPR HTX HPT
            go_wp2_with (fail)
            go_region_law (fail)
            all_goals
              go_wp2_with (fail)
              go_roundw
              case rel => exact ⟨i + 1, by go_num, rfl, by rw [HLS.out]; congr 1; omega, by omega, HH, bl.drew⟩
              case measure => simp [intOf]; omega
      · have HE : Hid (most N m i = n ∧ last m i = l) := by
          have h1 : i = m.next.length := by have := HPL.out; omega
          rw [h1, HN.out.1, HN.out.2]
          exact ⟨rfl, rfl⟩
        rw [HE.out.1, HE.out.2]
        go_wp2_with (fail)
        go_ret2
        exact ⟨rfl, chain (chain B0 b1) bl⟩
end Go.Proofs.Ytafcekognhkmgaa.tr
