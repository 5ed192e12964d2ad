/-
  Contracts over this program: fretsawref07's from: one beside the other.
-/
import Derived.Test.YtfilndgbgdnpiaaM18
namespace Go.Proofs.Ytfilndgbgdnpiaa.nb
open Go.ChangeShapes Go.WideShapes Go.ChangeAt Go.RowKit
open st (Tr Q4 nodesOf goods okNode Is Box nthT)
open nf (Ed IRow icells dOf)
set_option linter.unusedVariables false

theorem img_or (s : ByteArray) (l : List Tr) (t : Tr) (S : Nat → Prop) (j : Nat) (hj : j < s.size + 1) : (Img (s.size + 1) (TkA (txOf s) l) S j ∨ (j < s.size + 1 ∧ Img (s.size + 1) (Tk (txOf s) t) S j)) ↔ Img (s.size + 1) (TkA (txOf s) (l ++ [t])) S j := by
  constructor
  · rintro (⟨a, h1, h2, h3⟩ | ⟨_, a, h1, h2, h3⟩)
    · exact ⟨a, h1, h2, (tkA_snoc _ l t a j).2 (.inl h3)⟩
    · exact ⟨a, h1, h2, (tkA_snoc _ l t a j).2 (.inr h3)⟩
  · rintro ⟨a, h1, h2, h3⟩
    rcases (tkA_snoc _ l t a j).1 h3 with h | h
    · exact .inl ⟨a, h1, h2, h⟩
    · exact .inr ⟨hj, a, h1, h2, h⟩
set_option maxHeartbeats 4000000 in
set_option maxRecDepth 100000 in
theorem from3 (s : ByteArray) (hs : s.size ≤ 60) (t : Tr) (hk : t.kind = 3) (hkids : ∀ i, i < t.kids.length → FromIs s (nthT t.kids i)) : FromIs s t := by
  intro S P g tv w Q0 hP hR hI
  obtain ⟨o, cap, b, off, vs, rfl, hcap, hki⟩ := hI.form
  have hll : t.kids.length ≤ 9223372036854775807 := by
    by_cases h0 : 0 < t.kids.length
    · have := (hki 0 h0).2.1; omega
    · omega
  have hm : ∀ W, (Instr.makeSlice 79 (.int .i64 ((s.size : Int) + 1)) (.int .i64 ((s.size : Int) + 1))).run Try.prog W = .ok (.slice (some ⟨W.heap.size, 0, none⟩) (s.size + 1) (s.size + 1)) (W.alloc (.cells (icells (List.replicate (s.size + 1) 0)) 3)) := fun W => by
    have := make79 (s.size + 1) (by omega) W
    rw [Int.natCast_add] at this
    exact this
  obtain ⟨w2, HW2⟩ : ∃ w2, Hid (w2 = (w.alloc (.cells #[.int .i64 t.kind, .int .u64 t.set.a, .int .u64 t.set.b, .int .u64 t.set.c, .int .u64 t.set.d, .int .i64 t.min, .int .i64 t.max, .slice o t.kids.length cap] 28)).alloc (.cells (icells (List.replicate (s.size + 1) 0)) 3)) := ⟨_, rfl⟩
  have HT0 := (show Hid _ from two_new w t _ (s.size + 1) w2 HW2.out)
  have hb7 : ((w.alloc (.cells #[.int .i64 t.kind, .int .u64 t.set.a, .int .u64 t.set.b, .int .u64 t.set.c, .int .u64 t.set.d, .int .i64 t.min, .int .i64 t.max, .slice o t.kids.length cap] 28)).alloc (.cells (icells (List.replicate (s.size + 1) 0)) 3)).cell? ⟨w.heap.size, 7, none⟩ = some (.slice o t.kids.length cap) := by
    rw [← HW2.out, Lib.cell_of_heap HT0.out.box]; rfl
  have HTK := (show Hid (∀ i j, Tk (txOf s) t i j ↔ TkA (txOf s) t.kids i j) from fun i j => by
    cases t with
    | node k q mn mx l =>
      simp only [Tr.kind] at hk
      rw [Tk, if_neg (by omega), if_neg (by omega), if_pos hk]
      rfl)
  have HPP := (show Hid (PlOf S (s.size + 1) P) from hP)
  have HRR := (show Hid (∀ W, Below w.heap.size w W → IRow W g P) from fun W h => hR.later h)
  have HKI := (show Hid _ from hki)
  have HKD := (show Hid _ from hkids)
  have hlen := hP.len
  clear hP hR hI hki hkids
  unfold trV
  rw [hk] at HW2 hb7 ⊢
  go_enter Try.func37, Try.ntmps37
  go_wp2
  rw [← HW2.out]
  clear hm hb7
  go_loopw [78] (fun x wr => ∃ (i : Nat) (Q : List Int), x = .int .i64 i ∧ i ≤ t.kids.length ∧ Hid (Two w t (.slice o t.kids.length cap) (s.size + 1) wr Q) ∧ Hid (PlOf (Img (s.size + 1) (TkA (txOf s) (t.kids.take i)) S) (s.size + 1) Q)) (fun x _ => t.kids.length - (intOf x).toNat)
  case atStart => exact ⟨0, _, rfl, by omega, HT0, (plOf_none _).to fun j _ => ⟨fun h => h.elim, fun ⟨k, _, _, h⟩ => by rw [List.take_zero, TkA] at h; exact h⟩⟩
  case round =>
    obtain ⟨i, Q, rfl, hi, HT, HQ⟩ := hrel
    clear HT0
    have hB := HT.out.be
    by_cases hend : i < t.kids.length
    · obtain ⟨rfl, hcm, hb, hne, hcells, hkid⟩ := HKI.out i hend
      have hcells2 := hcells.same (hB.block b hb)
      have hkid2 := hkid.later hB
      obtain ⟨o2, n2, cap2, hv2⟩ := hkid.shape
      rw [hv2] at hcells2 hkid2
      obtain ⟨k0, k1, k2, k3, k4, k5, k6, k7⟩ := hcells2
      have hcall := HKD.out i hend
      have HNX := (show Hid (∀ Q3, PlOf (fun m => Img (s.size + 1) (TkA (txOf s) (t.kids.take i)) S m ∨ (m < s.size + 1 ∧ Img (s.size + 1) (Tk (txOf s) (nthT t.kids i)) S m)) (s.size + 1) Q3 → PlOf (Img (s.size + 1) (TkA (txOf s) (t.kids.take (i + 1))) S) (s.size + 1) Q3) from fun Q3 h => h.to fun j hj => by rw [st.take_nthT t.kids i hend]; exact img_or s _ _ S j hj)
      clear hcells hkid hv2
      generalize nthT t.kids i = x at *
      have hbig : Below wr.heap.size wr (wr.alloc (.cells #[.int .i64 x.kind, .int .u64 x.set.a, .int .u64 x.set.b, .int .u64 x.set.c, .int .u64 x.set.d, .int .i64 x.min, .int .i64 x.max, .slice o2 n2 cap2] 28)) := nf.below_alloc _ _
      have hout := HT.out.out.lt
      have c37 := hcall _ P g _ _ _ HPP.out ((HRR.out wr hB).later hbig) (hkid2.later hbig)
      go_wp2_with (go_at_call 37; refine c37.mono ?_; rintro e w3 ⟨g3, R, rfl, hg3, hr3, hp3, b3⟩; have HR3 := (show Hid (IRow w3 g3 R) from hr3); have HP3 := (show Hid _ from hp3); have HT3 := (show Hid _ from HT.out.later (nf.chain hbig b3)); clear hr3 hp3)
      have hg4 : w.heap.size + 1 < g3 := by have := hbig.size; simp at hg3; omega
      clear c37 k0 k1 k2 k3 k4 k5 k6 k7 hbig b3 hg3 HT
      go_loopw [88] (fun y wr => ∃ (j : Nat) (Q2 : List Int), y = .int .i64 j ∧ j ≤ s.size + 1 ∧ Hid (Two w t (.slice (some ⟨b, off, none⟩) t.kids.length cap) (s.size + 1) wr Q2) ∧ Hid (IRow wr g3 R) ∧ Hid (PlOf (fun m => Img (s.size + 1) (TkA (txOf s) (t.kids.take i)) S m ∨ (m < j ∧ Img (s.size + 1) (Tk (txOf s) x) S m)) (s.size + 1) Q2)) (fun y _ => s.size + 1 - (intOf y).toNat)
      case atStart => exact ⟨0, Q, rfl, by omega, HT3, HR3, HQ.out.to fun m _ => ⟨fun h => .inl h, fun h => h.elim id (fun h => by omega)⟩⟩
      case round =>
        obtain ⟨j, Q2, rfl, hj, HT4, HR4, HQ4⟩ := hrel
        clear HT3 HR3
        have hQl := HQ4.out.len
        have hRl := HP3.out.len
        by_cases hje : j < s.size + 1
        · have hpi := HR4.out.cell j (by omega)
          have kc := HT4.out.out.cell j (by omega)
          have kf := HT4.out.out.fz j
          have hii : (j : Int) < (s.size : Int) + 1 := by omega
          rcases HP3.out.bit j (by omega) with ⟨e1, hSi⟩ | ⟨e0, hSn⟩
          · rw [e1] at hpi
            have HQ5 := (show Hid (PlOf (fun m => Img (s.size + 1) (TkA (txOf s) (t.kids.take i)) S m ∨ (m < j + 1 ∧ Img (s.size + 1) (Tk (txOf s) x) S m)) (s.size + 1) (Q2.set j 1)) from (HQ4.out.put j hje).to fun m _ => by
              constructor
              · rintro ((h | ⟨h1, h2⟩) | rfl)
                · exact .inl h
                · exact .inr ⟨by omega, h2⟩
                · exact .inr ⟨by omega, hSi⟩
              · rintro (h | ⟨h1, h2⟩)
                · exact .inl (.inl h)
                · by_cases e : m = j
                  · exact .inr e
                  · exact .inl (.inr ⟨by omega, h2⟩))
            clear HQ4
            go_wp2
            go_roundw
            case rel => exact ⟨j + 1, _, by go_num, by omega, HT4.out.put j 1, HR4.out.other (by omega) j _, HQ5⟩
            case measure => simp [intOf]; omega
          · rw [e0] at hpi
            have HQ5 := (show Hid (PlOf (fun m => Img (s.size + 1) (TkA (txOf s) (t.kids.take i)) S m ∨ (m < j + 1 ∧ Img (s.size + 1) (Tk (txOf s) x) S m)) (s.size + 1) Q2) from HQ4.out.to fun m _ => by
              constructor
              · rintro (h | ⟨h1, h2⟩)
                · exact .inl h
                · exact .inr ⟨by omega, h2⟩
              · rintro (h | ⟨h1, h2⟩)
                · exact .inl h
                · by_cases e : m = j
                  · subst e; exact absurd h2 hSn
                  · exact .inr ⟨by omega, h2⟩)
            clear HQ4
            go_wp2
            go_roundw
            case rel => exact ⟨j + 1, Q2, by go_num, by omega, HT4, HR4, HQ5⟩
            case measure => simp [intOf]; omega
        · have HQ5 := (show Hid _ from HNX.out Q2 (HQ4.out.to fun m hm => by
            constructor
            · rintro (h | ⟨h1, h2⟩)
              · exact .inl h
              · exact .inr ⟨hm, h2⟩
            · rintro (h | ⟨h1, h2⟩)
              · exact .inl h
              · exact .inr ⟨by omega, h2⟩))
          have hii : ¬ (j : Int) < (s.size : Int) + 1 := by omega
          clear HQ4 HNX
          go_wp2
          go_roundw
          case rel => exact ⟨i + 1, Q2, by go_num, by omega, HT4, HQ5⟩
          case measure => simp [intOf]; omega
    · have HQ2 := (show Hid (PlOf (Img (s.size + 1) (Tk (txOf s) t) S) (s.size + 1) Q) from HQ.out.to fun j hj => by
        rw [List.take_of_length_le (by omega)]
        exact ⟨fun ⟨k, h1, h2, h3⟩ => ⟨k, h1, h2, (HTK.out k j).2 h3⟩, fun ⟨k, h1, h2, h3⟩ => ⟨k, h1, h2, (HTK.out k j).1 h3⟩⟩)
      clear HQ
      go_wp2
      go_ret
      exact ⟨_, Q, rfl, Nat.le_succ _, HT.out.out, HQ2.out, hB⟩
end Go.Proofs.Ytfilndgbgdnpiaa.nb
