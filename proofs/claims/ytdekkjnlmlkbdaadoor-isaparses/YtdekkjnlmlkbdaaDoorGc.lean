/-
  Contracts over this program: the instruction at a place (isa.get), as a whole.
-/
import Derived.Test.YtdekkjnlmlkbdaaDoorGb
namespace Go.Proofs.YtdekkjnlmlkbdaaDoor.is
open Go.Proofs.YtdekkjnlmlkbdaaDoor.num
open Go.ChangeShapes Go.WideShapes Go.ChangeAt Go.RowKit
set_option linter.unusedVariables false

set_option maxHeartbeats 1000000 in
set_option maxRecDepth 100000 in
theorem geti_far (s : ByteArray) (p : Nat) (hs : s.size ≤ 1125899906842624) (hp : p ≤ s.size) (n to : Nat) (h : gets s.data.toList p = (n, to, 0)) (hn : 17 < n) : GetIIs s p zI 0 210 := by
  intro w hT
  have hu := upto_far s p 17 hs hp (by omega) n to h hn
  unfold UpToIs at hu
  clear h
  go_enter Tryd.func35, Tryd.ntmps35
  go_wp2_with (go_at_call 46; refine (hu _).mono ?_; rintro e w1 ⟨rfl, h⟩; obtain rfl := h.symm)
  exact ret_iie Tryd.results35 w.heap.size zI _ _ rfl (heap_alloc_new w _) rfl rfl rfl ⟨rfl, (Below.refl _ _).alloc (Nat.le_refl _) _⟩
set_option maxHeartbeats 1000000 in
set_option maxRecDepth 100000 in
theorem geti_nil (s : ByteArray) (p : Nat) (hs : s.size ≤ 1125899906842624) (hp : p ≤ s.size) (to : Nat) (h : gets s.data.toList p = (0, to, 0)) : GetIIs s p zI 0 210 := by
  intro w hT
  have hu := upto_ok s p 17 hs hp (by omega) 0 to h (by omega)
  unfold UpToIs at hu
  clear h
  go_enter Tryd.func35, Tryd.ntmps35
  go_wp2_with (go_at_call 46; refine (hu _).mono ?_; rintro e w1 ⟨rfl, h⟩; obtain rfl := h.symm)
  exact ret_iie Tryd.results35 w.heap.size zI _ _ rfl (heap_alloc_new w _) rfl rfl rfl ⟨rfl, (Below.refl _ _).alloc (Nat.le_refl _) _⟩

theorem IBlk.zero {W : World} {g : Nat} (h : IBlk W g zI) : (W.cell? ⟨g, 0, none⟩ = some (.int .i64 0) ∧ W.cell? ⟨g, 1, none⟩ = some (.int .i64 0) ∧ W.cell? ⟨g, 2, none⟩ = some (.int .i64 0) ∧ W.cell? ⟨g, 3, none⟩ = some (.int .i64 0) ∧ W.cell? ⟨g, 4, none⟩ = some (.int .i64 0)) ∧
    W.frozen? ⟨g, 0, none⟩ = false ∧ W.frozen? ⟨g, 1, none⟩ = false ∧ W.frozen? ⟨g, 2, none⟩ = false ∧ W.frozen? ⟨g, 3, none⟩ = false ∧ W.frozen? ⟨g, 4, none⟩ = false := ⟨⟨h.c0, h.c1, h.c2, h.c3, h.c4⟩, h.fz 0, h.fz 1, h.fz 2, h.fz 3, h.fz 4⟩
theorem IBlk.other {w : World} {g h : Nat} {q : In} (b : IBlk w g q) (hne : g ≠ h) (f : Nat) (v : Value) : IBlk (w.setCell ⟨h, f, none⟩ v) g q := by
  unfold IBlk
  rw [Below.heap_setCell _ _ _ _ hne]
  exact b

set_option maxHeartbeats 4000000 in
set_option maxRecDepth 100000 in
theorem geti_ok (s : ByteArray) (p : Nat) (hs : s.size ≤ 1125899906842624) (hp : p ≤ s.size) (o p1 : Nat) (h : gets s.data.toList p = (o, p1, 0)) (h1 : 1 ≤ o) (h2 : o ≤ 17) (r : In) (to er : Nat)
    (hr : rdF s.data.toList (fromF o 0) ⟨o, 0, 0, 0, 0⟩ p1 = (r, to, er)) : GetIIs s p r to er := by
  intro w hT
  have hu := upto_ok s p 17 hs hp (by omega) o p1 h h2
  have HR := (show Hid (rdF s.data.toList (fromF o 0) ⟨o, 0, 0, 0, 0⟩ p1 = (r, to, er)) from hr)
  have hp1 : p1 ≤ s.size := (gets_le (l := s.data.toList) (p := p) (by simpa using hp) h).2.1
  unfold UpToIs at hu
  clear h hr
  have B0 : Below w.heap.size w (w.alloc (.cells #[.int .i64 0, .int .i64 0, .int .i64 0, .int .i64 0, .int .i64 0] 23)) := (Below.refl _ _).alloc (Nat.le_refl _) _
  have hsz1 : (w.alloc (.cells #[.int .i64 0, .int .i64 0, .int .i64 0, .int .i64 0, .int .i64 0] 23)).heap.size = w.heap.size + 1 := by show (w.heap.push _).size = _; simp
  have B1 : Below w.heap.size w ((w.alloc (.cells #[.int .i64 0, .int .i64 0, .int .i64 0, .int .i64 0, .int .i64 0] 23)).alloc (.cells #[.int .i64 0, .int .i64 0, .int .i64 0, .int .i64 0] 37)) := B0.alloc (by omega) _
  have hT1 := hT.later B1
  have hk0 := hT1.kd o (by omega) 0 (by omega)
  have hk1 := hT1.kd o (by omega) 1 (by omega)
  have hk2 := hT1.kd o (by omega) 2 (by omega)
  have hk3 := hT1.kd o (by omega) 3 (by omega)
  go_enter Tryd.func35, Tryd.ntmps35
  go_wp2_with (go_at_call 46; refine (hu _).mono ?_; rintro e w1 ⟨rfl, h⟩; obtain rfl := h.symm)
  go_loopw [1, 30] (fun x y wr => ∃ (f q : Nat) (i : In), x = .int .i64 q ∧ y = .int .i64 f ∧ f ≤ 4 ∧ q ≤ s.size ∧ i.op = o ∧ RowBlk wr (w.heap.size + 1) i ∧ IBlk wr w.heap.size zI ∧ Below w.heap.size w wr ∧ Hid (rdF s.data.toList (fromF o f) i q = (r, to, er))) (fun _ y _ => 4 - (intOf y).toNat)
  case atStart => exact ⟨0, p1, ⟨o, 0, 0, 0, 0⟩, rfl, rfl, by omega, hp1, rfl, heap_alloc2_new w _ _, heap_alloc2_old w _ _, B1, HR⟩
  case round =>
    obtain ⟨f, q, i, rfl, rfl, hf, hq, ho, hb, hz, hB, HQ⟩ := hrel
    have hTr := hT.later hB
    by_cases hf4 : f < 4
    · have hx := index_kd o f hf4
      have hl := kd_lt o f
      have hm := hTr.most (kd o f) hl
      have hml := most_lt (kd o f)
      have fz := hb.fz f
      have hc := hb.at f hf4
      have hkz : kd o f = 0 ∨ kd o f ≠ 0 := by omega
      have HK : Hid (kd o f = 0 → fromF o f = fromF o (f + 1)) := fun h => fromF_skip hf4 h
      have HT : Hid (kd o f ≠ 0 → fromF o f = (f, most (kd o f)) :: fromF o (f + 1)) := fun h => fromF_take hf4 h
      generalize kd o f = k at *
      generalize most k = m at *
      rcases hkz with hk | hk
      · subst hk
        have HN : Hid (rdF s.data.toList (fromF o (f + 1)) i q = (r, to, er)) := by show _ = _; rw [← HK.out rfl]; exact HQ.out
        clear HQ HK HT HR
        go_wp2
        go_roundw
        case rel => exact ⟨f + 1, q, i, rfl, by go_num, by omega, hq, ho, hb, hz, hB, HN⟩
        case measure => simp [intOf]; omega
      · have hk2' : ((k : Int) == 0) = false := by rw [beq_eq_false_iff_ne]; omega
        obtain ⟨n2, t2, e2, hg⟩ : ∃ n to e, gets s.data.toList q = (n, to, e) := ⟨_, _, _, rfl⟩
        by_cases he : e2 = 0
        · subst he
          by_cases hn : m < n2
          · have hu2 := upto_far s q m hs hq hml n2 t2 hg hn
            have HE : Hid ((zI, 0, 210) = (r, to, er)) := by show _ = _; rw [← HQ.out, HT.out hk, rdF_far hg hn]
            unfold UpToIs at hu2
            clear HQ HK HT HR hg
            have hz2 : IBlk (wr.setCell ⟨w.heap.size + 1, f, none⟩ (.int .i64 0)) w.heap.size zI := hz.other (by omega) f _
            obtain ⟨⟨z0, z1, z2, z3, z4⟩, y0, y1, y2, y3, y4⟩ := hz2.zero
            go_wp2_with (go_at_call 46; refine (hu2 _).mono ?_; rintro e w1 ⟨rfl, h⟩; obtain rfl := h.symm)
            have HE := HE.out
            simp only [Prod.mk.injEq] at HE
            obtain ⟨rfl, rfl, rfl⟩ := HE
            exact ret_iie Tryd.results35 w.heap.size zI _ _ rfl (set5 hz2 zI) rfl rfl rfl ⟨rfl, Below.set5 (hB.setCell (p := ⟨w.heap.size + 1, f, none⟩) (Nat.le_succ _) _) (Nat.le_refl _) _ _ _ _ _⟩
          · have hu2 := upto_ok s q m hs hq hml n2 t2 hg (by omega)
            have hq2 : t2 ≤ s.size := (gets_le (l := s.data.toList) (p := q) (by simpa using hq) hg).2.1
            have HN : Hid (rdF s.data.toList (fromF o (f + 1)) (setF i f n2) t2 = (r, to, er)) := by show _ = _; rw [← HQ.out, HT.out hk, rdF_ok hg hn]
            unfold UpToIs at hu2
            clear HQ HK HT HR hg
            go_wp2_with (go_at_call 46; refine (hu2 _).mono ?_; rintro e w1 ⟨rfl, h⟩; obtain rfl := h.symm)
            go_roundw
            case rel => exact ⟨f + 1, t2, setF i f n2, rfl, by go_num, by omega, hq2, by rw [← ho]; unfold setF; split <;> (try split) <;> (try split) <;> rfl, hb.set f hf4 _, hz.other (by omega) f _, hB.setCell (p := ⟨w.heap.size + 1, f, none⟩) (Nat.le_succ _) _, HN⟩
            case measure => simp [intOf]; omega
        · have hu2 := upto_bad s q m hs hq n2 t2 e2 hg he
          have HE : Hid ((zI, 0, e2) = (r, to, er)) := by show _ = _; rw [← HQ.out, HT.out hk, rdF_bad hg he]
          have hne : ((e2 : Int) == 0) = false := by rw [beq_eq_false_iff_ne]; omega
          unfold UpToIs at hu2
          clear HQ HK HT HR hg
          have hz2 : IBlk (wr.setCell ⟨w.heap.size + 1, f, none⟩ (.int .i64 0)) w.heap.size zI := hz.other (by omega) f _
          obtain ⟨⟨z0, z1, z2, z3, z4⟩, y0, y1, y2, y3, y4⟩ := hz2.zero
          go_wp2_with (go_at_call 46; refine (hu2 _).mono ?_; rintro e w1 ⟨rfl, h⟩; obtain rfl := h.symm)
          have HE := HE.out
          simp only [Prod.mk.injEq] at HE
          obtain ⟨rfl, rfl, rfl⟩ := HE
          exact ret_iie Tryd.results35 w.heap.size zI _ _ rfl (set5 hz2 zI) rfl rfl rfl ⟨rfl, Below.set5 (hB.setCell (p := ⟨w.heap.size + 1, f, none⟩) (Nat.le_succ _) _) (Nat.le_refl _) _ _ _ _ _⟩
    · obtain rfl : f = 4 := by omega
      have HE : Hid ((i, q, 0) = (r, to, er)) := by show _ = _; rw [← HQ.out, fromF_end]; rfl
      obtain ⟨op, a, b, c, d⟩ := i
      obtain rfl : op = o := ho
      have hM := made_any ⟨o, a, b, c, d⟩
      unfold MadeIs vI at hM
      have c0 : wr.cell? ⟨w.heap.size + 1, 0, none⟩ = some (.int .i64 a) := hb.at 0 (by omega)
      have c1 : wr.cell? ⟨w.heap.size + 1, 1, none⟩ = some (.int .i64 b) := hb.at 1 (by omega)
      have c2 : wr.cell? ⟨w.heap.size + 1, 2, none⟩ = some (.int .i64 c) := hb.at 2 (by omega)
      have c3 : wr.cell? ⟨w.heap.size + 1, 3, none⟩ = some (.int .i64 d) := hb.at 3 (by omega)
      clear HQ HR
      go_wp2_with (go_at_call 47; refine (hM _).mono ?_; rintro e w1 ⟨rfl, b1⟩; have hz2 := hz.later b1; obtain ⟨⟨z0, z1, z2, z3, z4⟩, y0, y1, y2, y3, y4⟩ := hz2.zero)
      have HE := HE.out
      simp only [Prod.mk.injEq] at HE
      obtain ⟨rfl, rfl, rfl⟩ := HE
      refine ret_iie Tryd.results35 w.heap.size ⟨o, a, b, c, d⟩ _ _ rfl ?_ rfl rfl rfl ⟨rfl, ?_⟩
      · exact set5 hz2 ⟨o, a, b, c, d⟩
      · exact Below.set5 (chain hB b1) (Nat.le_refl _) _ _ _ _ _
end Go.Proofs.YtdekkjnlmlkbdaaDoor.is
