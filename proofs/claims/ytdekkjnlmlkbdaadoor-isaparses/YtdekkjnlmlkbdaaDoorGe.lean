/-
  Contracts over this program: all instructions of a text of bytes (isa.Get).
-/
import Derived.Test.YtdekkjnlmlkbdaaDoorGd
namespace Go.Proofs.YtdekkjnlmlkbdaaDoor.is
open Go.Proofs.YtdekkjnlmlkbdaaDoor.num
open Go.ChangeShapes Go.WideShapes Go.ChangeAt Go.RowKit
set_option linter.unusedVariables false

def GetAIs (s : ByteArray) (L : List In) (e : Nat) : Prop := ∀ w, Tabs w → Calls Tryd.prog 15 #[.string s] w fun x w' => ∃ v, x = .returned (.tuple #[v, .int .i64 e]) ∧ InsAt w' v L ∧ Below w.heap.size w w'
theorem insAt_nil (w : World) : InsAt w (.slice none 0 0) [] := ⟨none, 0, rfl, Nat.le_refl _, by omega, fun h => absurd h (by simp)⟩

set_option maxHeartbeats 1000000 in
set_option maxRecDepth 100000 in
theorem geta_bad (s : ByteArray) (hs : s.size ≤ 1125899906842624) (n to e : Nat) (h : gets s.data.toList 0 = (n, to, e)) (he : e ≠ 0) : GetAIs s [] e := by
  intro w hT
  have hg : GetIs s 0 n to e := get_in s 0 hs (by omega) n to e h
  have hne : ((e : Int) == 0) = false := by rw [beq_eq_false_iff_ne]; omega
  unfold GetIs at hg
  clear h
  go_enter Tryd.func15, Tryd.ntmps15
  go_wp2_with (go_at_call 34; refine (hg _).mono ?_; rintro e w1 ⟨rfl, h⟩; obtain rfl := h.symm)
  go_ret2
  exact ⟨_, rfl, insAt_nil _, Below.refl _ _⟩
set_option maxHeartbeats 1000000 in
set_option maxRecDepth 100000 in
theorem geta_long (s : ByteArray) (hs : s.size ≤ 1125899906842624) (n to : Nat) (h : gets s.data.toList 0 = (n, to, 0)) (hn : 4096 < n) : GetAIs s [] 2 := by
  intro w hT
  have hg : GetIs s 0 n to 0 := get_in s 0 hs (by omega) n to 0 h
  unfold GetIs at hg
  clear h
  go_enter Tryd.func15, Tryd.ntmps15
  go_wp2_with (go_at_call 34; refine (hg _).mono ?_; rintro e w1 ⟨rfl, h⟩; obtain rfl := h.symm)
  go_ret2
  exact ⟨_, rfl, insAt_nil _, Below.refl _ _⟩

theorem rdL_end (l : List UInt8) (p : Nat) (acc : List In) : rdL l 0 p acc = (acc, p, 0) := rfl

set_option maxHeartbeats 4000000 in
set_option maxRecDepth 100000 in
theorem geta_ok (s : ByteArray) (hs : s.size ≤ 1125899906842624) (n to : Nat) (h : gets s.data.toList 0 = (n, to, 0)) (hn : n ≤ 4096) (LL : List In) (qq ee : Nat) (hr : rdL s.data.toList n to [] = (LL, qq, ee)) (L : List In) (e : Nat)
    (hL : (L, e) = if ee ≠ 0 then ([], ee) else if qq ≠ s.size then ([], 210) else (LL, 0)) : GetAIs s L e := by
  intro w hT
  have hg : GetIs s 0 n to 0 := get_in s 0 hs (by omega) n to 0 h
  have HR := (show Hid (rdL s.data.toList n to [] = (LL, qq, ee)) from hr)
  have HL := (show Hid ((L, e) = if ee ≠ 0 then ([], ee) else if qq ≠ s.size then ([], 210) else (LL, 0)) from hL)
  have hto : to ≤ s.size := (gets_le (l := s.data.toList) (p := 0) (by omega) h).2.1
  unfold GetIs at hg
  clear h hr hL
  go_enter Tryd.func15, Tryd.ntmps15
  go_wp2_with (go_at_call 34; refine (hg _).mono ?_; rintro e w1 ⟨rfl, h⟩; obtain rfl := h.symm)
  go_loopw [5, 7, 23] (fun x v y wr => ∃ (q j : Nat) (acc : List In), x = .int .i64 q ∧ y = .int .u64 j ∧ j ≤ n ∧ q ≤ s.size ∧ acc.length = j ∧ RowI wr w.heap.size v acc ∧ Below w.heap.size w wr ∧ Hid (rdL s.data.toList (n - j) q acc = (LL, qq, ee))) (fun _ _ y _ => n - (intOf y).toNat)
  case atStart => exact ⟨to, 0, [], rfl, rfl, by omega, hto, rfl, rowI_nil w _, Below.refl _ _, HR⟩
  case round =>
    rename_i v y wr
    obtain ⟨q, j, acc, rfl, rfl, hj, hq, hacc, hrow, hB, HQ⟩ := hrel
    have hTr := hT.later hB
    by_cases hjn : j < n
    · obtain ⟨r, t2, e2, hi⟩ : ∃ r to e, rdI s.data.toList q = (r, to, e) := ⟨_, _, _, rfl⟩
      have hgi := geti_any s q hs hq r t2 e2 hi
      unfold GetIIs vI at hgi
      have hSz : ∀ (W : World) (o o2 : Obj), ((W.alloc o).alloc o2).heap.size = W.heap.size + 1 + 1 := fun W o o2 => by show ((W.heap.push _).push _).size = _; simp
      by_cases he : e2 = 0
      · subst he
        have hq2 : t2 ≤ s.size := by have h3 := (rdI_le s.data.toList q (by simpa using hq) (by rw [hi])).2; rw [hi] at h3; simpa using h3
        have HN : Hid (rdL s.data.toList (n - (j + 1)) t2 (acc ++ [r]) = (LL, qq, ee)) := by
          show _ = _
          rw [← HQ.out, show n - j = (n - (j + 1)) + 1 from by omega, rdL_ok hi]
        clear HQ HR HL hi
        go_wp2_with (first | (go_at_call 35; refine (hgi _ hTr).mono ?_; rintro x w1 ⟨rfl, hb⟩) | (at_builtin; refine wpList_appI rfl _ _ rfl w.heap.size _ acc _ r rfl rfl (hrow.later ((hb.alloc hb.size _).alloc (by have := hb.size; show _ ≤ (w1.heap.push _).size; simp; omega) _)) (heap_alloc2_new w1 _ _) (by omega) (by have := hb.size; have := hB.size; rw [hSz]; omega) ?_; intro v' w' h1 h2 h3))
        go_roundw
        case rel => exact ⟨t2, j + 1, acc ++ [r], rfl, by go_num, by omega, hq2, by rw [List.length_append, hacc]; rfl, h1, (hB.trans ((hb.alloc hb.size _).alloc (by have := hb.size; show _ ≤ (w1.heap.push _).size; simp; omega) _ |>.mono hB.size)).trans h2, HN⟩
        case measure => simp [intOf]; omega
      · have hne : ((e2 : Int) == 0) = false := by rw [beq_eq_false_iff_ne]; omega
        have HE : Hid ((L, e) = ([], e2)) := by
          show _ = _
          have h2 := HQ.out
          rw [show n - j = (n - (j + 1)) + 1 from by omega, rdL_bad hi he] at h2
          simp only [Prod.mk.injEq] at h2
          rw [HL.out, if_pos (by omega), ← h2.2.2]
        clear HQ HR HL hi
        go_wp2_with (go_at_call 35; refine (hgi _ hTr).mono ?_; rintro x w1 ⟨rfl, hb⟩)
        go_ret2
        have HE := HE.out
        simp only [Prod.mk.injEq] at HE
        obtain ⟨rfl, rfl⟩ := HE
        exact ⟨_, rfl, insAt_nil _, (chain hB hb).alloc (by have := hb.size; have := hB.size; omega) _⟩
    · obtain rfl : j = n := by omega
      have HE : Hid ((L, e) = if q ≠ s.size then ([], 210) else (acc, 0)) := by
        show _ = _
        have h2 := HQ.out
        rw [Nat.sub_self, rdL_end] at h2
        simp only [Prod.mk.injEq] at h2
        rw [HL.out, if_neg (by omega), ← h2.1, ← h2.2.1]
      clear HQ HR HL
      by_cases hqs : q < s.size
      · go_wp2
        go_ret2
        have HE := HE.out
        rw [if_pos (by omega)] at HE
        simp only [Prod.mk.injEq] at HE
        obtain ⟨rfl, rfl⟩ := HE
        exact ⟨_, rfl, insAt_nil _, hB⟩
      · go_wp2
        go_ret2
        have HE := HE.out
        rw [if_neg (by omega)] at HE
        simp only [Prod.mk.injEq] at HE
        obtain ⟨rfl, rfl⟩ := HE
        exact ⟨_, rfl, hrow.read, hB⟩

theorem geta_any (s : ByteArray) (hs : s.size ≤ 1125899906842624) (L : List In) (e : Nat) (h : rdA s.data.toList = (L, e)) : GetAIs s L e := by
  obtain ⟨n, to, e0, hg⟩ : ∃ n to e, gets s.data.toList 0 = (n, to, e) := ⟨_, _, _, rfl⟩
  unfold rdA at h
  rw [hg] at h
  by_cases he : e0 = 0
  · subst he
    rw [if_neg (by simp)] at h
    by_cases hn : 4096 < n
    · rw [if_pos hn] at h
      simp only [Prod.mk.injEq] at h
      obtain ⟨rfl, rfl⟩ := h
      exact geta_long s hs n to hg hn
    · rw [if_neg hn] at h
      exact geta_ok s hs n to hg (by omega) _ _ _ rfl L e h.symm
  · rw [if_pos he] at h
    simp only [Prod.mk.injEq] at h
    obtain ⟨rfl, rfl⟩ := h
    exact geta_bad s hs n to e0 hg he
end Go.Proofs.YtdekkjnlmlkbdaaDoor.is
