/-
  Contracts over this program: a line's parts (isa.apart).
-/
import Derived.Test.YtdekkjnlmlkbdaaDoorKd
namespace Go.Proofs.YtdekkjnlmlkbdaaDoor.is
open Go.Proofs.YtdekkjnlmlkbdaaDoor.num
open Go.ChangeShapes Go.WideShapes Go.ChangeAt Go.RowKit
set_option linter.unusedVariables false

theorem iterPos_at {w : World} {k p : Nat} {s : ByteArray} (h : w.heap[k]? = some (.stringIter s p)) : w.iterPos k = p := by unfold World.iterPos; rw [h]
theorem alloc1 (w : World) (o : Obj) : (w.alloc o).heap.size = w.heap.size + 1 := by show (w.heap.push o).size = _; simp

def ApartIs (s : ByteArray) : Prop := ∀ w, Calls Tryd.prog 48 #[.string s] w fun e w' => ∃ v, e = .returned v ∧ StrsAt w' v (cutG [] s.data.toList) ∧ Below w.heap.size w w'
set_option maxHeartbeats 2000000 in
set_option maxRecDepth 100000 in
theorem apart_any (s : ByteArray) (hs : s.size ≤ 300000) : ApartIs s := by
  intro w
  obtain ⟨R, hR⟩ : ∃ R, R = cutG [] s.data.toList := ⟨_, rfl⟩
  have HR := (show Hid (cutG [] s.data.toList = R) from hR.symm)
  rw [← hR]
  clear hR
  have hk0 : (w.iter s 0).heap[w.heap.size]? = some (.stringIter s 0) := World.iter_heap w s 0
  have hB0 := below_iter w s 0
  go_enter Tryd.func48, Tryd.ntmps48
  go_wp2
  generalize w.iter s 0 = w0 at *
  go_loopw [3, 4] (fun v x wr => ∃ (a pos : Nat) (done : List L8), x = .int .i64 a ∧ a ≤ pos ∧ pos ≤ s.size ∧ wr.heap[w.heap.size]? = some (.stringIter s pos) ∧ RowS wr w.heap.size v done ∧ done.length ≤ pos ∧ Below w.heap.size w wr ∧ Hid (done ++ cutG (mid s a pos) (s.data.toList.drop pos) = R)) (fun _ _ wr => s.size - wr.iterPos w.heap.size)
  case atStart => exact ⟨0, 0, [], rfl, by omega, by omega, hk0, rowS_nil _ _, by simp, hB0, by show _ = _; rw [mid_nil, List.drop_zero]; exact HR.out⟩
  case round =>
    rename World => wr
    obtain ⟨a, pos, done, rfl, hap, hps, hk, hrow, hdl, hB, HQ⟩ := hrel
    have hip := iterPos_at hk
    by_cases hp : pos < s.size
    · have hd := drop_at s pos hp
      by_cases ha : s[pos].toNat < 128
      · have hnx := fun ty => Lib.run_next_ascii_at (P := Tryd.prog) wr w.heap.size s pos ty hk hp ha
        have hk1 := Lib.iterAt_heap wr w.heap.size s pos (pos + 1) hk
        have hrow1 := hrow.iter hk (pos + 1)
        have hB1 := Lib.below_iterAt hB (Nat.le_refl _) s (pos + 1)
        generalize wr.iterAt w.heap.size s (pos + 1) = W1 at *
        have hip1 := iterPos_at hk1
        by_cases hb : s[pos].toNat = 32
        · have hb32 : s[pos] = 32 := UInt8.toNat_inj.1 hb
          have HN : Hid ((done ++ [(s.extract a pos).data.toList]) ++ cutG (mid s (pos + 1) (pos + 1)) (s.data.toList.drop (pos + 1)) = R) := by
            show _ = _
            rw [← HQ.out, hd, hb32, cutG, if_pos rfl, mid_nil, mid_ext, List.append_assoc]
            rfl
          rw [hb] at hnx
          have hbelA : Below W1.heap.size W1 (W1.alloc (.cells #[.string (s.extract a pos)] 9)) := (Below.refl _ _).alloc (Nat.le_refl _) _
          have hrowA := hrow1.later hbelA
          have hkA : (W1.alloc (.cells #[.string (s.extract a pos)] 9)).heap[w.heap.size]? = some (.stringIter s (pos + 1)) := by rw [hbelA.block _ (Array.getElem?_eq_some_iff.1 hk1).1]; exact hk1
          have hcA : (W1.alloc (.cells #[.string (s.extract a pos)] 9)).cell? ⟨W1.heap.size, 0, none⟩ = some (.string (s.extract a pos)) := by rw [Lib.cell_of_heap (heap_alloc_new W1 _)]; rfl
          have hzA := alloc1 W1 (.cells #[.string (s.extract a pos)] 9)
          have hneA := hrowA.ne hkA
          have hBA := chain hB1 hbelA
          have hB1s := hB1.size
          have hws := (Array.getElem?_eq_some_iff.1 hkA).1
          clear HQ hd hb32 hb
          go_wp2_with (at_builtin; refine wpList_appS rfl _ _ rfl w.heap.size _ done _ (s.extract a pos) rfl rfl hrowA hcA (by omega) (by omega) ?_; intro v' w' h1 h2 h3)
          go_roundw
          case rel => exact ⟨pos + 1, pos + 1, done ++ [(s.extract a pos).data.toList], by go_num, by omega, by omega, (h3 _ hws hneA).trans hkA, h1, by simp; omega, hBA.trans h2, HN⟩
          case measure => rw [hip, iterPos_at ((h3 _ hws hneA).trans hkA)]; omega
        · have hb32 : s[pos] ≠ 32 := fun e => hb (by rw [e]; rfl)
          have HN : Hid (done ++ cutG (mid s a (pos + 1)) (s.data.toList.drop (pos + 1)) = R) := by
            show _ = _
            rw [← HQ.out, hd, cutG, if_neg hb32, mid_snoc s a pos hap hp]
          generalize s[pos].toNat = b at *
          have hbe : ((b : Int) == 32) = false := by rw [beq_eq_false_iff_ne]; omega
          clear HQ hd hb32 hb
          go_wp2
          go_roundw
          case rel => exact ⟨a, pos + 1, done, rfl, by omega, by omega, hk1, hrow1, by omega, hB1, HN⟩
          case measure => rw [hip, hip1]; omega
      · have hdh := decode_high s pos hp (by omega)
        have hdl2 := decode_le s pos
        obtain ⟨hm1, hm2, hm3⟩ := mid_high s pos hp (by omega) _ rfl
        have hnx := fun ty => Lib.run_next_any_at (P := Tryd.prog) wr w.heap.size s pos ty hk hp
        have HN : Hid (done ++ cutG (mid s a (pos + (Utf8.decode s pos).2)) (s.data.toList.drop (pos + (Utf8.decode s pos).2)) = R) := by
          show _ = _
          rw [← HQ.out, hm2, cutG_more _ (fun b hb e => by have := hm3 b hb; rw [e] at this; simp at this), mid_more s a pos _ hap (by omega)]
        clear hm2 hm3 hd HQ
        generalize Utf8.decode s pos = dc at *
        obtain ⟨r, k⟩ := dc
        simp only at hdh hdl2 hnx hm1 HN
        obtain ⟨hr, hkk⟩ := hdh
        have hk1 := Lib.iterAt_heap wr w.heap.size s pos (pos + k) hk
        have hrow1 := hrow.iter hk (pos + k)
        have hB1 := Lib.below_iterAt hB (Nat.le_refl _) s (pos + k)
        generalize wr.iterAt w.heap.size s (pos + k) = W1 at *
        have hip1 := iterPos_at hk1
        have hre : ((r : Int) == 32) = false := by rw [beq_eq_false_iff_ne]; omega
        go_wp2
        go_roundw
        case rel => exact ⟨a, pos + k, done, rfl, by omega, by omega, hk1, hrow1, by omega, hB1, HN⟩
        case measure => rw [hip, hip1]; omega
    · have hnx := fun ty => Lib.run_next_end_at (P := Tryd.prog) wr w.heap.size s pos ty hk hp
      have HE : Hid (done ++ [(s.extract a s.size).data.toList] = R) := by
        show _ = _
        rw [← HQ.out, List.drop_eq_nil_of_le (by simp; omega), mid_ext, show pos = s.size from by omega]
        rfl
      have hbelA : Below wr.heap.size wr (wr.alloc (.cells #[.string (s.extract a s.size)] 9)) := (Below.refl _ _).alloc (Nat.le_refl _) _
      have hrowA := hrow.later hbelA
      have hcA : (wr.alloc (.cells #[.string (s.extract a s.size)] 9)).cell? ⟨wr.heap.size, 0, none⟩ = some (.string (s.extract a s.size)) := by rw [Lib.cell_of_heap (heap_alloc_new wr _)]; rfl
      have hzA := alloc1 wr (.cells #[.string (s.extract a s.size)] 9)
      have hBA := chain hB hbelA
      have hBs := hB.size
      clear HQ
      go_wp2_with (at_builtin; refine wpList_appS rfl _ _ rfl w.heap.size _ done _ (s.extract a s.size) rfl rfl hrowA hcA (by omega) (by omega) ?_; intro v' w' h1 h2 h3)
      go_ret
      rw [HE.out] at h1
      exact ⟨_, rfl, h1.read, hBA.trans h2⟩
end Go.Proofs.YtdekkjnlmlkbdaaDoor.is
