/-
  Contracts over this program: states that are alike in one part (partsOf).
-/
import Derived.Test.YtkdkibnjfgcppaaKMi
namespace Go.Proofs.Ytkdkibnjfgcppaa.mi
open Go.ChangeShapes Go.WideShapes Go.ChangeAt Go.RowKit Go.Shelf Go.Maps
set_option linter.unusedVariables false

/-- two parts, as far as states are gone through -/
def two (acc : Nat → Bool) (n k : Nat) : List Nat := (List.range (n + 1)).map fun j => match j with
  | 0 => 0
  | s + 1 => if s < k ∧ acc s = true then 1 else 0
theorem two_len (acc : Nat → Bool) (n k : Nat) : (two acc n k).length = n + 1 := by simp [two]
theorem two_get (acc : Nat → Bool) (n k s : Nat) (h : s < n) : (two acc n k)[s + 1]? = some (if s < k ∧ acc s = true then 1 else 0) := by
  unfold two
  rw [List.getElem?_map, List.getElem?_range (by omega)]; rfl
theorem two_zero (acc : Nat → Bool) (n : Nat) : two acc n 0 = List.replicate (n + 1) 0 := by
  refine List.eq_replicate_iff.2 ⟨two_len _ _ _, fun b hb => ?_⟩
  obtain ⟨j, _, rfl⟩ := List.mem_map.1 hb
  cases j with
  | zero => rfl
  | succ s => show (if _ then 1 else 0) = 0; rw [if_neg (by omega)]
theorem two_at (acc : Nat → Bool) (n k j : Nat) : (two acc n k)[j]? = if j < n + 1 then some (match j with | 0 => 0 | s + 1 => if s < k ∧ acc s = true then 1 else 0) else none := by
  unfold two
  rw [List.getElem?_map]
  by_cases h : j < n + 1
  · rw [List.getElem?_range h, if_pos h]; rfl
  · rw [List.getElem?_eq_none (by simpa using h), if_neg h]; rfl
theorem two_yes (acc : Nat → Bool) (n k : Nat) (hk : k < n) (h : acc k = true) : (two acc n k).set (k + 1) 1 = two acc n (k + 1) := by
  apply List.ext_getElem?
  intro j
  by_cases hj : j = k + 1
  · subst hj
    rw [List.getElem?_set_self (by rw [two_len]; omega), two_get _ _ _ _ hk, if_pos ⟨by omega, h⟩]
  · rw [List.getElem?_set_ne (fun e => hj e.symm), two_at, two_at]
    cases j with
    | zero => rfl
    | succ s =>
      by_cases e : s < k
      · simp [e, show s < k + 1 by omega]
      · simp [e, show ¬ s < k + 1 by omega]
theorem two_no (acc : Nat → Bool) (n k : Nat) (h : acc k = false) : two acc n (k + 1) = two acc n k := by
  apply List.ext_getElem?
  intro j
  rw [two_at, two_at]
  cases j with
  | zero => rfl
  | succ s =>
    by_cases e : s < k
    · simp [e, show s < k + 1 by omega]
    · by_cases e2 : s = k
      · subst e2; simp [h]
      · simp [e, show ¬ s < k + 1 by omega]
theorem two_part (d : df.Dfa) : Part (dm d) (pa (two (df.acpt d) d.next.length d.next.length)) := by
  refine part_start ?_ fun s hs => ?_
  · show (two _ _ _).getD 0 0 = 0
    rw [List.getD_eq_getElem?_getD, two_at, if_pos (by omega)]; rfl
  · show (two _ _ _).getD (s + 1) 0 = _
    have hs' : s < d.next.length := hs
    rw [List.getD_eq_getElem?_getD, two_get _ _ _ _ hs']
    show (if s < d.next.length ∧ df.acpt d s = true then 1 else 0) = if df.acpt d s = true then 1 else 0
    by_cases h : df.acpt d s = true
    · rw [if_pos ⟨hs', h⟩, if_pos h]
    · rw [if_neg (fun x => h x.2), if_neg h]
theorem two_le (acc : Nat → Bool) (n k : Nat) : ∀ x ∈ two acc n k, x ≤ 32767 := by
  intro x hx
  obtain ⟨j, _, rfl⟩ := List.mem_map.1 hx
  cases j with
  | zero => simp
  | succ s => show (if _ then 1 else 0) ≤ 32767; split <;> omega
theorem seen_le {d : df.Dfa} {P F : List Nat} {n : Nat} (h : Seen (dm d) P F n) (hd : d.next.length ≤ 400) : ∀ x ∈ F, x ≤ 32767 := by
  intro x hx
  obtain ⟨j, hj, rfl⟩ := List.mem_iff_getElem.1 hx
  have hl := h.len
  have hl' : F.length = d.next.length + 1 := hl
  have h1 := h.lt (itm_mem d j (by omega))
  rw [pa_itm, List.getD_eq_getElem?_getD, List.getElem?_eq_getElem hj] at h1
  have h2 : n ≤ d.next.length + 1 := h.le
  have h3 : F[j] < n := h1
  omega
set_option maxHeartbeats 600000 in
set_option maxRecDepth 100000 in
theorem partsOf_any (d : df.Dfa) (hr : df.right d = true) (cs : Array Value) (o ao : Option Addr) (cap acap : Nat) (w : World) (hD : df.DAt (df.In w) w d cs o cap ao acap) :
    Calls Try.prog 60 #[.agg cs] w fun e w' => ∃ (g : Nat) (F : List Nat), e = .returned (.slice (some ⟨g, 0, none⟩) F.length F.length) ∧ Lab (dm d) (pa F) ∧ F.length = d.next.length + 1 ∧ NRow w' g F ∧ w.heap.size ≤ g ∧ Below w.heap.size w w' := by
  have hok := df.ok_of d hr
  have hmost := hok.most
  have hna := hok.accs
  have hw8 := hD.size
  have hmk := make39 (d.next.length + 1) (by omega)
  rw [← two_zero (df.acpt d)] at hmk
  obtain ⟨wB, hwB⟩ : ∃ wB, wB = (w.alloc (.cells cs 26)).alloc (.cells (ncs (two (df.acpt d) d.next.length 0)) 3) := ⟨_, rfl⟩
  have BB : Below w.heap.size w wB := by rw [hwB]; exact ((Below.refl _ _).alloc (Nat.le_refl _) _).alloc (by simp) _
  have hsB : wB.heap.size = w.heap.size + 1 + 1 := by rw [hwB]; simp
  have xA : df.DBox wB w.heap.size cs := by rw [hwB]; exact (Below.heap_alloc _ _ _ (by simp)).trans (df.dbox_new w cs)
  have xF : NRow wB (w.heap.size + 1) (two (df.acpt d) d.next.length 0) := by
    rw [hwB]
    have := heap_alloc_new (w.alloc (.cells cs 26)) (.cells (ncs (two (df.acpt d) d.next.length 0)) 3)
    rw [World.size_alloc] at this
    exact this
  have h0D : df.DAt (df.In w) (w.alloc (.cells cs 26)) d cs o cap ao acap := hD.carry (fun k hk => Below.heap_alloc _ _ _ hk) (fun _ => id)
  have b0 := df.dbox_new w cs
  have k0 := b0.nx hD
  have f1 := hD.rows.fit
  have f2 := hD.rows.top
  have f3 := hD.accs.fit
  have f4 := hD.accs.top
  have kA := xA.ac hD
  have HNA : Hid (d.acc.length = d.next.length) := hna
  rw [hna] at kA f3
  clear hna
  rw [show (((d.next.length + 1 : Nat) : Int)) = 1 + (d.next.length : Int) by omega] at hmk
  rw [hwB] at kA
  go_enter Try.func60, Try.ntmps60
  go_wp2_with (fail)
  rw [← hwB]
  clear hwB hmk k0 kA b0 h0D
  have HSB : Hid (wB.heap.size = w.heap.size + 1 + 1) := hsB
  have HNB : Hid (∀ W, Below (w.heap.size + 1) wB W → df.DAt (df.In w) W d cs o cap ao acap ∧ df.DAt (df.In W) W d cs o cap ao acap ∧ df.DBox W w.heap.size cs ∧ Below w.heap.size w W ∧ w.heap.size + 1 + 1 ≤ W.heap.size) := fun W b =>
    have hsz : w.heap.size + 1 + 1 ≤ W.heap.size := by have := b.size; omega
    have hd1 : df.DAt (df.In w) W d cs o cap ao acap := hD.carry (fun k hk => (b.block k (by unfold df.In at hk; omega)).trans (BB.block k hk)) (fun _ => id)
    ⟨hd1, hd1.carry (fun _ _ => rfl) (fun k hk => by unfold df.In at hk ⊢; omega), (b.block _ (by omega)).trans xA, BB.trans ⟨b.os, b.tape, b.output, b.size, fun k hk => b.block k (by omega)⟩, hsz⟩
  clear hD xA
  go_loopw [17] (fun y wr => ∃ k : Nat, y = .int .i64 (k : Int) ∧ k ≤ d.next.length ∧ NRow wr (w.heap.size + 1) (two (df.acpt d) d.next.length k) ∧ Below (w.heap.size + 1) wB wr) (fun y _ => d.next.length - (intOf y).toNat)
  case atStart => exact ⟨0, rfl, by omega, xF, Below.refl _ _⟩
  case round =>
    obtain ⟨k, rfl, hk, hF, hB⟩ := hrel
    obtain ⟨hD2, hD3, hX2, hBw, hsz⟩ := HNB.out wr hB
    by_cases hlt : k < d.next.length
    · obtain ⟨ab, aoff, rfl, hpa, hca⟩ := df.acc_at hD2 k (by rw [HNA.out]; exact hlt)
      have hfz := Lib.frozen_of_heap hF (1 + k)
      have hcl := hF.cell (two_get (df.acpt d) d.next.length k k hlt)
      rw [Nat.add_comm k 1] at hcl
      clear hD2 hD3 hX2
      cases hac : df.acpt d k with
      | true =>
        rw [hac] at hca
        have HF2 : Hid (NRow (wr.setCell ⟨w.heap.size + 1, 1 + k, none⟩ (.int .i64 1)) (w.heap.size + 1) (two (df.acpt d) d.next.length (k + 1))) := by
          have h0 := hF.put (1 + k) 1
          rw [Nat.add_comm 1 k, two_yes _ _ _ hlt hac] at h0
          rw [Nat.add_comm 1 k]
          exact h0
        have HB2 : Hid (Below (w.heap.size + 1) wB (wr.setCell ⟨w.heap.size + 1, 1 + k, none⟩ (.int .i64 1))) := hB.setCell (p := ⟨w.heap.size + 1, 1 + k, none⟩) (by simp) _
        clear hF
        go_wp2_with (fail)
        go_roundw
        case rel => exact ⟨k + 1, by go_num, by omega, HF2.out, HB2.out⟩
        case measure => simp [intOf]; omega
      | false =>
        rw [hac] at hca
        have HF2 : Hid (NRow wr (w.heap.size + 1) (two (df.acpt d) d.next.length (k + 1))) := by show NRow _ _ _; rw [two_no _ _ _ hac]; exact hF
        clear hF
        go_wp2_with (fail)
        go_roundw
        case rel => exact ⟨k + 1, by go_num, by omega, HF2.out, hB⟩
        case measure => simp [intOf]; omega
    · obtain rfl : k = d.next.length := by omega
      have hlen := two_len (df.acpt d) d.next.length d.next.length
      have hpart := two_part d
      have hle := two_le (df.acpt d) d.next.length d.next.length
      obtain ⟨P0, hP0⟩ : ∃ P0, P0 = two (df.acpt d) d.next.length d.next.length := ⟨_, rfl⟩
      rw [← hP0] at hlen hpart hle hF
      clear hP0 hD2 hD3 hX2 hBw hsz
      have HR : Hid (df.right d = true) := hr
      have HOK : Hid ((dm d).ok) := fun s hs b t e => by
        have h0 := df.nxt_ok hok s (d.cls b.toNat) hs (hok.cl _ b.toNat_lt)
        simp only [dm] at e
        split at e
        · cases e; show _ < d.next.length; omega
        · cases e
      obtain ⟨w0, hw0⟩ : ∃ w0 : World, w0 = wr := ⟨_, rfl⟩
      rw [← hw0] at hF hB ⊢
      clear hw0 xF hr hok
      go_wp2_with (fail)
      rw [← hlen]
      go_loopw [3, 6] (fun y z wr => ∃ (g had : Nat) (P : List Nat), y = .slice (some ⟨g, 0, none⟩) P.length P.length ∧ z = .int .i64 (had : Int) ∧ Hid (P.length = d.next.length + 1) ∧ Hid ((∀ x ∈ P, x ≤ 32767) ∧ Part (dm d) (pa P) ∧ (had = 0 ∨ had = cnt (items (dm d)) (pa P))) ∧ had ≤ d.next.length + 1 ∧ NRow wr g P ∧ Below (w.heap.size + 1) wB wr) (fun _ z _ => d.next.length + 2 - (intOf z).toNat)
      case atStart => exact ⟨w.heap.size + 1, 0, P0, rfl, rfl, hlen, ⟨hle, hpart, .inl rfl⟩, by omega, hF, hB⟩
      case round =>
        obtain ⟨g, had, P, rfl, rfl, hPl, HI, hhad, hN, hB2⟩ := hrel
        obtain ⟨hD2, hD3, hX2, hBw, hsz⟩ := HNB.out _ hB2
        have c80 := partAgain_any d HR.out cs o ao cap acap P hPl.out HI.out.1 g P.length (Nat.le_refl _) (by have := hPl.out; omega) _ hD3 hN
        clear hD2 hD3 hN hF hlen hpart hle hB
        go_wp2_with (fail)
        refine wp_load_row 26 (.tmp 1) rfl w.heap.size rfl 26 cs (0, 0) _ hX2 Try.underlying26 rfl (df.info26 cs hw8) ?_
        go_wp2_with (fail)
        go_at_call 80
        refine c80.mono ?_
        rintro e w1 ⟨g1, F, n1, rfl, hse, hF1, hg1, b1⟩
        clear c80
        have HSE : Hid (Seen (dm d) P F n1) := hse
        have HFL : Hid (F.length = d.next.length + 1) := hse.len
        have hn1 : n1 ≤ d.next.length + 1 := hse.le
        have hn0 := hse.pos
        have HB1 : Hid (Below (w.heap.size + 1) wB w1) := hB2.trans ⟨b1.os, b1.tape, b1.output, b1.size, fun k hk => b1.block k (by omega)⟩
        clear hse hX2
        by_cases heq : n1 = had
        · have z1 : ((n1 : Int) == (had : Int)) = true := beq_iff_eq.2 (by omega)
          have HL : Hid (Lab (dm d) (pa F)) := by
            obtain ⟨_, hp, hh⟩ := HI.out
            refine HSE.out.lab HOK.out hp ?_
            rcases hh with hh | hh
            · omega
            · omega
          clear heq
          go_wp2_with (fail)
          go_ret
          exact ⟨g1, F, rfl, HL.out, HFL.out, hF1, by omega, (HNB.out _ HB1.out).2.2.2.1⟩
        · have z1 : ((n1 : Int) == (had : Int)) = false := beq_eq_false_iff_ne.2 (by omega)
          have hgt : had < n1 := by
            obtain ⟨_, hp, hh⟩ := HI.out
            rcases hh with hh | hh
            · omega
            · have := HSE.out.grow; omega
          have HI2 : Hid ((∀ x ∈ F, x ≤ 32767) ∧ Part (dm d) (pa F) ∧ (n1 = 0 ∨ n1 = cnt (items (dm d)) (pa F))) := ⟨seen_le HSE.out hmost, HSE.out.part HOK.out HI.out.2.1, .inr HSE.out.many.symm⟩
          go_wp2_with (fail)
          go_roundw
          case rel => exact ⟨g1, n1, F, rfl, rfl, HFL, HI2, hn1, hF1, HB1.out⟩
          case measure => simp [intOf]; omega
end Go.Proofs.Ytkdkibnjfgcppaa.mi
