/-
  Contracts over this program: the document's Number and Longest of a trie.
-/
import Derived.Test.YtbappfbojehkeaaYb
namespace Go.Proofs.Ytbappfbojehkeaa.ti
open Go.ChangeShapes Go.WideShapes Go.ChangeAt Go.RowKit Go.Sort
set_option linter.unusedVariables false

theorem num_at_end (t : Tr) (f : Nat → Nat) (n q : Nat) : num t f (n - n) n q = if t.word.getD q 0 < 0 then -1 else t.word.getD q 0 := by rw [Nat.sub_self, num_zero]
theorem num_at_yes {t : Tr} {f : Nat → Nat} {n i q : Nat} (h : i < n) (r : Nat) (h2 : fro t q (f i) = (r : Int)) : num t f (n - i) i q = num t f (n - (i + 1)) (i + 1) r := by
  rw [show n - i = (n - (i + 1)) + 1 by omega, num_yes (by omega), h2, Int.toNat_natCast]
theorem num_at_no {t : Tr} {f : Nat → Nat} {n i q : Nat} (h : i < n) (h2 : fro t q (f i) = -1) : num t f (n - i) i q = -1 := by
  rw [show n - i = (n - (i + 1)) + 1 by omega, num_no (by omega)]
set_option maxRecDepth 100000 in
set_option maxHeartbeats 4000000 in
theorem number_any (t : Tr) (hr : right t = true) (s : ByteArray) (hs : s.size ≤ 1000000) (n : Int) (hn : num t (byte s) s.size 0 0 = n) (p : Tp) (w : World) (hA : TAt (In w) w t p) :
    Calls Try.prog 12 #[.agg (tv t p), .string s] w fun e w' => e = .returned (.int .i64 n) ∧ Below w.heap.size w w' := by
  obtain ⟨bo, bc, co, cc, wo, wc⟩ := p
  obtain ⟨g1, g2, g3, g4⟩ := (right_iff t).1 hr
  have B0 := below_alloc w (.cells (tv t ⟨bo, bc, co, cc, wo, wc⟩) 24)
  have b0 := box_new w t ⟨bo, bc, co, cc, wo, wc⟩
  have hA1 := hA.later B0
  obtain ⟨wA, hwA⟩ : ∃ wA, wA = w.alloc (.cells (tv t ⟨bo, bc, co, cc, wo, wc⟩) 24) := ⟨_, rfl⟩
  rw [← hwA] at B0 b0 hA1
  have k0 := b0.c0
  have k1 := b0.c1
  have k2 := b0.c2
  have f1 := hA.rb.fit
  have f2 := hA.rb.top
  have f3 := hA.rc.fit
  have f4 := hA.rc.top
  have f5 := hA.rw.fit
  have f6 := hA.rw.top
  obtain ⟨bb, off, ho, hbb, _⟩ := hA1.rb.at (show 0 < t.base.length by omega)
  obtain ⟨bb2, off2, ho2, hbb2, _⟩ := hA1.rc.at (show 0 < t.check.length by omega)
  obtain ⟨bb3, off3, ho3, hbb3, _⟩ := hA1.rw.at (show 0 < t.word.length by omega)
  obtain rfl : bo = _ := ho
  obtain rfl : co = _ := ho2
  obtain rfl : wo = _ := ho3
  have HC0 : Hid (∀ i, i < t.base.length → wA.cell? ⟨bb, off + i, none⟩ = some (.int .i64 (t.base.getD i 0))) := fun i hi => by
    obtain ⟨b', o', e', _, hc⟩ := hA1.rb.at hi
    simp at e'
    obtain ⟨rfl, rfl⟩ := e'
    exact hc
  have HC1 : Hid (∀ i, i < t.check.length → wA.cell? ⟨bb2, off2 + i, none⟩ = some (.int .i64 (t.check.getD i 0))) := fun i hi => by
    obtain ⟨b', o', e', _, hc⟩ := hA1.rc.at hi
    simp at e'
    obtain ⟨rfl, rfl⟩ := e'
    exact hc
  have HC2 : Hid (∀ i, i < t.word.length → wA.cell? ⟨bb3, off3 + i, none⟩ = some (.int .i64 (t.word.getD i 0))) := fun i hi => by
    obtain ⟨b', o', e', _, hc⟩ := hA1.rw.at hi
    simp at e'
    obtain ⟨rfl, rfl⟩ := e'
    exact hc
  have HI : Hid ((∀ i, I64 (t.base.getD i 0)) ∧ (∀ i, I64 (t.check.getD i 0)) ∧ (∀ i, I64 (t.word.getD i 0))) := ⟨fun i => getD_I64 hA.db i, fun i => getD_I64 hA.dc i, fun i => getD_I64 hA.dw i⟩
  have HG : Hid (t.check.length = t.base.length ∧ t.word.length = t.base.length) := ⟨g3, g4⟩
  have HN : Hid (num t (byte s) (s.size - 0) 0 0 = n) := hn
  clear hA hA1 hn g3 g4
  go_enter Try.func12, Try.ntmps12
  go_wp2_with (fail)
  rw [← hwA]
  clear hwA
  go_loopw [5, 6] (fun y z wr => ∃ q i : Nat, y = .int .i64 (q : Int) ∧ z = .int .i64 (i : Int) ∧ q < t.base.length ∧ i ≤ s.size ∧ Hid (num t (byte s) (s.size - i) i q = n) ∧ ∃ m, wr = wA.drewN m) (fun _ z _ => s.size - (intOf z).toNat)
  case atStart => exact ⟨0, 0, rfl, rfl, by omega, by omega, HN, 0, rfl⟩
  case round =>
    obtain ⟨q, i, rfl, rfl, hq, hi, HE, m, rfl⟩ := hrel
    by_cases hend : i = s.size
    · have hw := HC2.out q (by have := HG.out; omega)
      have hi2 := HI.out.2.2 q
      have HE2 : Hid (n = if t.word.getD q 0 < 0 then -1 else t.word.getD q 0) := by show _ = _; rw [← HE.out, hend, num_at_end]
      have hq2 : q < t.word.length := by have := HG.out; omega
      generalize t.word.getD q 0 = z at *
      unfold I64 at hi2
      by_cases hz : z < 0
      · obtain rfl : n = -1 := by rw [HE2.out, if_pos hz]
        clear HE HE2
        go_wp2_with (fail)
        go_ret
        exact ⟨rfl, below_drewN B0 _⟩
      · obtain rfl : n = z := by rw [HE2.out, if_neg hz]
        clear HE HE2
        go_wp2_with (fail)
        go_ret
        exact ⟨rfl, below_drewN B0 _⟩
    · have hlt : i < s.size := by omega
      have hb8 : s[i].toNat < 256 := UInt8.toNat_lt _
      have hw := HC0.out q hq
      have hi2 := HI.out.1 q
      have HF : Hid (fro t q (byte s i) = if t.base.getD q 0 < -400000 ∨ 400000 < t.base.getD q 0 then -1
        else if t.base.getD q 0 + s[i].toNat + 1 ≤ 0 ∨ (t.check.length : Int) ≤ t.base.getD q 0 + s[i].toNat + 1 ∨ t.check.getD (t.base.getD q 0 + s[i].toNat + 1).toNat 0 ≠ q then -1 else t.base.getD q 0 + s[i].toNat + 1) := by show _ = _; rw [byte_eq s i hlt]; rfl
      have HNO : Hid (fro t q (byte s i) = -1 → n = -1) := fun h => by rw [← HE.out, num_at_no hlt h]
      have HYES : Hid (∀ r : Nat, fro t q (byte s i) = (r : Int) → num t (byte s) (s.size - (i + 1)) (i + 1) r = n) := fun r h => by rw [← HE.out, num_at_yes hlt r h]
      generalize t.base.getD q 0 = x at *
      unfold I64 at hi2
      clear HE HN hend
      by_cases h1 : x < -400000
      · obtain rfl : n = -1 := HNO.out (by rw [HF.out, if_pos (.inl h1)])
        clear HNO HYES HF
        go_wp2_with (fail)
        go_ret
        exact ⟨rfl, below_drewN B0 _⟩
      · by_cases h2 : 400000 < x
        · obtain rfl : n = -1 := HNO.out (by rw [HF.out, if_pos (.inr h2)])
          clear HNO HYES HF
          go_wp2_with (fail)
          go_ret
          exact ⟨rfl, below_drewN B0 _⟩
        · have HF2 : Hid (fro t q (byte s i) = if x + s[i].toNat + 1 ≤ 0 ∨ (t.check.length : Int) ≤ x + s[i].toNat + 1 ∨ t.check.getD (x + s[i].toNat + 1).toNat 0 ≠ q then -1 else x + s[i].toNat + 1) := by show _ = _; rw [HF.out, if_neg (by omega)]
          clear HF
          by_cases h3 : x + s[i].toNat + 1 ≤ 0
          · obtain rfl : n = -1 := HNO.out (by rw [HF2.out, if_pos (.inl h3)])
            clear HNO HYES HF2
            go_wp2_with (fail)
            go_quiet (fail)
            go_wp2_with (fail)
            go_ret
            exact ⟨rfl, below_drewN B0 _⟩
          · obtain ⟨y, hy⟩ : ∃ y : Nat, x + s[i].toNat + 1 = (y : Int) := ⟨(x + s[i].toNat + 1).toNat, by omega⟩
            rw [hy, Int.toNat_natCast] at HF2
            have HY : Hid (x + s[i].toNat + 1 = (y : Int)) := hy
            by_cases h4 : t.base.length ≤ y
            · obtain rfl : n = -1 := HNO.out (by rw [HF2.out, if_pos (.inr (.inl (by have := HG.out; omega)))])
              clear HNO HYES HF2
              go_wp2_with (fail)
              go_quiet (fail)
              go_wp2_with (fail)
              go_ret
              exact ⟨rfl, below_drewN B0 _⟩
            · have hyc : y < t.check.length := by have := HG.out; omega
              have hw2 := HC1.out y hyc
              have hi3 := HI.out.2.1 y
              have HF3 : Hid (fro t q (byte s i) = if t.check.getD y 0 ≠ q then -1 else (y : Int)) := by
                show _ = _
                rw [HF2.out]
                by_cases h5 : t.check.getD y 0 = q
                · rw [if_neg (by omega), if_neg (by omega)]
                · rw [if_pos (by omega), if_pos h5]
              clear HF2
              generalize t.check.getD y 0 = z at *
              unfold I64 at hi3
              by_cases h5 : z = q
              · have HE3 : Hid (num t (byte s) (s.size - (i + 1)) (i + 1) y = n) := HYES.out y (by rw [HF3.out, if_neg (by simp [h5])])
                have z5 : (z != (q : Int)) = false := by simp [h5]
                clear HF3 h5 HNO HYES
                go_wp2_with (fail)
                go_quiet (fail)
                go_wp2_with (fail)
                go_roundw
                case rel => exact ⟨y, i + 1, by first | rfl | (congr 1; omega), by go_num, by omega, by omega, HE3, _, rfl⟩
                case measure => simp [intOf]; omega
              · obtain rfl : n = -1 := HNO.out (by rw [HF3.out, if_pos h5])
                have z5 : (z != (q : Int)) = true := by simp [h5]
                clear HF3 HNO HYES
                go_wp2_with (fail)
                go_quiet (fail)
                go_wp2_with (fail)
                go_ret
                exact ⟨rfl, below_drewN B0 _⟩
end Go.Proofs.Ytbappfbojehkeaa.ti
