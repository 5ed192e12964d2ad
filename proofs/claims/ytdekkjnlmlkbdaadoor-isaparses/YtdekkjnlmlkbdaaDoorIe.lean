/-
  Contracts over this program: whether an instruction may be, as the document says (Right), and the law IsaRights.
-/
import Derived.Test.YtdekkjnlmlkbdaaDoorId
namespace Go.Proofs.YtdekkjnlmlkbdaaDoor.is
open Go.ChangeShapes Go.WideShapes Go.ChangeAt Go.RowKit
set_option linter.unusedVariables false

theorem lb_size (o : Nat) : (lb o).size = (lets o).length := by
  show ((lets o).map UInt8.ofNat).toArray.size = _
  simp
theorem lb_at (o k : Nat) (ho : o < 18) (h : k < (lb o).size) : ((lb o)[k]'h).toNat = (lets o).getD k 0 := by
  have hl : k < (lets o).length := by rw [← lb_size]; exact h
  have e : (lb o)[k]'h = UInt8.ofNat ((lets o)[k]) := by
    show (((lets o).map UInt8.ofNat).toArray)[k]'(by simpa using hl) = _
    simp
  rw [e, UInt8.toNat_ofNat', List.getD_eq_getElem?_getD, List.getElem?_eq_getElem hl]
  exact Nat.mod_eq_of_lt (lets_lt o ho _ (List.getElem_mem hl))

theorem take_snoc (l : List Nat) (k : Nat) (h : k < l.length) : l.take (k + 1) = l.take k ++ [l.getD k 0] := by
  rw [List.take_add_one, List.getElem?_eq_getElem h, List.getD_eq_getElem?_getD, List.getElem?_eq_getElem h]; rfl

theorem set5 {w : World} {g : Nat} {i0 : In} (h : IBlk w g i0) (i : In) : IBlk (((((w.setCell ⟨g, 0, none⟩ (.int .i64 i.op)).setCell ⟨g, 1, none⟩ (.int .i64 i.a)).setCell ⟨g, 2, none⟩ (.int .i64 i.b)).setCell ⟨g, 3, none⟩ (.int .i64 i.c)).setCell ⟨g, 4, none⟩ (.int .i64 i.d)) g i :=
  set_heap _ g _ _ 4 _ (set_heap _ g _ _ 3 _ (set_heap _ g _ _ 2 _ (set_heap _ g _ _ 1 _ (set_heap w g _ _ 0 _ h))))
theorem Below.set5 {n : Nat} {w w' : World} (h : Below n w w') {g : Nat} (hg : n ≤ g) (v0 v1 v2 v3 v4 : Value) : Below n w (((((w'.setCell ⟨g, 0, none⟩ v0).setCell ⟨g, 1, none⟩ v1).setCell ⟨g, 2, none⟩ v2).setCell ⟨g, 3, none⟩ v3).setCell ⟨g, 4, none⟩ v4) :=
  ((((h.setCell (p := ⟨g, 0, none⟩) hg _).setCell (p := ⟨g, 1, none⟩) hg _).setCell (p := ⟨g, 2, none⟩) hg _).setCell (p := ⟨g, 3, none⟩) hg _).setCell (p := ⟨g, 4, none⟩) hg _
theorem set5_other {w : World} {g h : Nat} {q : In} (b : IBlk w g q) (hne : g ≠ h) (v0 v1 v2 v3 v4 : Value) : IBlk (((((w.setCell ⟨h, 0, none⟩ v0).setCell ⟨h, 1, none⟩ v1).setCell ⟨h, 2, none⟩ v2).setCell ⟨h, 3, none⟩ v3).setCell ⟨h, 4, none⟩ v4) g q := by
  unfold IBlk
  rw [Below.heap_setCell _ _ _ _ hne, Below.heap_setCell _ _ _ _ hne, Below.heap_setCell _ _ _ _ hne, Below.heap_setCell _ _ _ _ hne, Below.heap_setCell _ _ _ _ hne]
  exact b

def RRightIs (i : In) (r : Bool) : Prop := ∀ w, Calls Tryd.prog 10 #[vI i] w fun e w' => e = .returned (.bool r) ∧ Below w.heap.size w w'
set_option maxHeartbeats 2000000 in
set_option maxRecDepth 100000 in
theorem rright_any (i : In) : RRightIs i (okI i) := by
  intro w
  by_cases ho : okOp i = true
  · have HO := (show Hid (okI i = ((lets i.op.toNat).all (okC i) && sameI (bare i (lets i.op.toNat)) i)) from rok_same i ho)
    have hV := fun c => value_any i c
    obtain ⟨op, a, b, cc, d⟩ := i
    simp only [okOp, Bool.and_eq_true, decide_eq_true_eq] at ho
    obtain ⟨o, rfl⟩ : ∃ o : Nat, op = o := ⟨op.toNat, by omega⟩
    have h1 : 1 ≤ o := by omega
    have h2 : o ≤ 17 := by omega
    have hF := rfields_any o h1 h2
    have hsz := lb_size o
    have hat := fun k h => lb_at o k (by omega) h
    have HO : Hid (okI ⟨o, a, b, cc, d⟩ = ((lets o).all (okC ⟨o, a, b, cc, d⟩) && sameI (bare ⟨o, a, b, cc, d⟩ (lets o)) ⟨o, a, b, cc, d⟩)) := HO.out
    have hs3 : (lets o).length ≤ 3 := by
      have : ∀ x : Fin 18, (lets x).length ≤ 3 := by decide
      exact this ⟨o, by omega⟩
    unfold RFieldsIs at hF
    generalize lb o = s at *
    generalize lets o = L at *
    have hb0 : IBlk (w.alloc (.cells #[.int .i64 o, .int .i64 a, .int .i64 b, .int .i64 cc, .int .i64 d] 23)) w.heap.size ⟨o, a, b, cc, d⟩ := heap_alloc_new w _
    have hB0 : Below w.heap.size w (w.alloc (.cells #[.int .i64 o, .int .i64 a, .int .i64 b, .int .i64 cc, .int .i64 d] 23)) := (Below.refl _ _).alloc (Nat.le_refl _) _
    unfold vI
    clear ho
    go_enter Tryd.func10, Tryd.ntmps10
    go_wp2
    go_loopw [4] (fun x wr => ∃ (k : Nat) (q : In), x = .int .i64 k ∧ k ≤ s.size ∧ IBlk wr w.heap.size ⟨o, a, b, cc, d⟩ ∧ IBlk wr (w.heap.size + 1) q ∧ Below w.heap.size w wr ∧ Hid (q = bare ⟨o, a, b, cc, d⟩ (L.take k)) ∧ Hid (∀ c ∈ L.take k, okC ⟨o, a, b, cc, d⟩ c = true)) (fun x _ => s.size - (intOf x).toNat)
    case atStart => exact ⟨0, ⟨o, 0, 0, 0, 0⟩, rfl, by omega, heap_alloc2_old w _ _, heap_alloc2_new w _ _, ((Below.refl _ _).alloc (Nat.le_refl _) _).alloc (by simp) _, rfl, fun c hc => by simp at hc⟩
    case round =>
      obtain ⟨k, q, rfl, hk, b0, b1, hB, HQ, HK⟩ := hrel
      have c0 := b0.c0
      by_cases hkl : k < s.size
      · have hk3 : k < 3 := by omega
        have hc := hat k hkl
        obtain ⟨c, hcc⟩ : ∃ c : Nat, c = L.getD k 0 := ⟨_, rfl⟩
        have hc2 : s[k].toNat = c := by rw [hc, hcc]
        have hVc := hV c
        have hMc := most_any c
        have HC : Hid (okC ⟨o, a, b, cc, d⟩ c = (decide (0 ≤ valC ⟨o, a, b, cc, d⟩ c) && decide (valC ⟨o, a, b, cc, d⟩ c ≤ mostC c))) := rfl
        have hW := with_any q c (valC ⟨o, a, b, cc, d⟩ c)
        have HT : Hid (L.take (k + 1) = L.take k ++ [c]) := by show _ = _; rw [take_snoc L k (by omega), hcc]
        have HM : Hid (c ∈ L) := by show _ ∈ _; rw [hcc, List.getD_eq_getElem?_getD, List.getElem?_eq_getElem (by omega : k < L.length)]; exact List.getElem_mem _
        unfold ValueIs vI at hVc
        unfold WithIs vI at hW
        unfold MostIs at hMc
        have HR : Hid (withC q c (valC ⟨o, a, b, cc, d⟩ c) = bare ⟨o, a, b, cc, d⟩ (L.take (k + 1))) := by show _ = _; rw [HT.out, bare_snoc, ← HQ.out]
        generalize withC q c (valC ⟨o, a, b, cc, d⟩ c) = r at *
        generalize valC ⟨o, a, b, cc, d⟩ c = v at *
        generalize mostC c = m at *
        clear hV hat hc hcc hsz
        by_cases n0 : v < 0
        · have HE : Hid (okI ⟨o, a, b, cc, d⟩ = false) := by
            show _ = _
            rw [HO.out, List.all_eq_false.2 ⟨c, HM.out, by rw [HC.out]; simp; omega⟩]; rfl
          clear HO HC HT HM HQ HK HR
          go_wp2_with (first | (go_at_call 22; refine (hF _).mono ?_; rintro e w2 ⟨rfl, hx⟩; have b0 := b0.later hx; have b1 := b1.later hx; have hB := chain hB hx; have c0 := b0.c0; have c1 := b0.c1; have c2 := b0.c2; have c3 := b0.c3; have c4 := b0.c4; have d0 := b1.c0; have d1 := b1.c1; have d2 := b1.c2; have d3 := b1.c3; have d4 := b1.c4; have f0 := b1.fz 0; have f1 := b1.fz 1; have f2 := b1.fz 2; have f3 := b1.fz 3; have f4 := b1.fz 4) | (go_at_call 23; refine (hVc _).mono ?_; rintro e w3 ⟨rfl, hx⟩; have b0 := b0.later hx; have b1 := b1.later hx; have hB := chain hB hx; have c0 := b0.c0; have c1 := b0.c1; have c2 := b0.c2; have c3 := b0.c3; have c4 := b0.c4; have d0 := b1.c0; have d1 := b1.c1; have d2 := b1.c2; have d3 := b1.c3; have d4 := b1.c4; have f0 := b1.fz 0; have f1 := b1.fz 1; have f2 := b1.fz 2; have f3 := b1.fz 3; have f4 := b1.fz 4))
          go_ret
          exact ⟨by rw [HE.out]; rfl, hB⟩
        by_cases n1 : (m : Int) < v
        · have HE : Hid (okI ⟨o, a, b, cc, d⟩ = false) := by
            show _ = _
            rw [HO.out, List.all_eq_false.2 ⟨c, HM.out, by rw [HC.out]; simp; omega⟩]; rfl
          clear HO HC HT HM HQ HK HR
          go_wp2_with (first | (go_at_call 22; refine (hF _).mono ?_; rintro e w2 ⟨rfl, hx⟩; have b0 := b0.later hx; have b1 := b1.later hx; have hB := chain hB hx; have c0 := b0.c0; have c1 := b0.c1; have c2 := b0.c2; have c3 := b0.c3; have c4 := b0.c4; have d0 := b1.c0; have d1 := b1.c1; have d2 := b1.c2; have d3 := b1.c3; have d4 := b1.c4; have f0 := b1.fz 0; have f1 := b1.fz 1; have f2 := b1.fz 2; have f3 := b1.fz 3; have f4 := b1.fz 4) | (go_at_call 23; refine (hVc _).mono ?_; rintro e w3 ⟨rfl, hx⟩; have b0 := b0.later hx; have b1 := b1.later hx; have hB := chain hB hx; have c0 := b0.c0; have c1 := b0.c1; have c2 := b0.c2; have c3 := b0.c3; have c4 := b0.c4; have d0 := b1.c0; have d1 := b1.c1; have d2 := b1.c2; have d3 := b1.c3; have d4 := b1.c4; have f0 := b1.fz 0; have f1 := b1.fz 1; have f2 := b1.fz 2; have f3 := b1.fz 3; have f4 := b1.fz 4) | (go_at_call 24; refine (hMc _).mono ?_; rintro e w4 ⟨rfl, hx⟩; obtain rfl := hx.symm))
          go_ret
          exact ⟨by rw [HE.out]; rfl, hB⟩
        have HK2 : Hid (∀ c ∈ L.take (k + 1), okC ⟨o, a, b, cc, d⟩ c = true) := fun x hx => by
          rw [HT.out] at hx
          rcases List.mem_append.1 hx with h | h
          · exact HK.out x h
          · rw [List.mem_singleton.1 h, HC.out]; simp; omega
        clear HO HC HT HM HQ HK
        go_wp2_with (first | (go_at_call 22; refine (hF _).mono ?_; rintro e w2 ⟨rfl, hx⟩; have b0 := b0.later hx; have b1 := b1.later hx; have hB := chain hB hx; have c0 := b0.c0; have c1 := b0.c1; have c2 := b0.c2; have c3 := b0.c3; have c4 := b0.c4; have d0 := b1.c0; have d1 := b1.c1; have d2 := b1.c2; have d3 := b1.c3; have d4 := b1.c4; have f0 := b1.fz 0; have f1 := b1.fz 1; have f2 := b1.fz 2; have f3 := b1.fz 3; have f4 := b1.fz 4) | (go_at_call 23; refine (hVc _).mono ?_; rintro e w3 ⟨rfl, hx⟩; have b0 := b0.later hx; have b1 := b1.later hx; have hB := chain hB hx; have c0 := b0.c0; have c1 := b0.c1; have c2 := b0.c2; have c3 := b0.c3; have c4 := b0.c4; have d0 := b1.c0; have d1 := b1.c1; have d2 := b1.c2; have d3 := b1.c3; have d4 := b1.c4; have f0 := b1.fz 0; have f1 := b1.fz 1; have f2 := b1.fz 2; have f3 := b1.fz 3; have f4 := b1.fz 4) | (go_at_call 24; refine (hMc _).mono ?_; rintro e w4 ⟨rfl, hx⟩; obtain rfl := hx.symm) | (go_at_call 25; refine (hW _).mono ?_; rintro e w5 ⟨rfl, hx⟩; have b0 := b0.later hx; have b1 := b1.later hx; have hB := chain hB hx; have c0 := b0.c0; have c1 := b0.c1; have c2 := b0.c2; have c3 := b0.c3; have c4 := b0.c4; have d0 := b1.c0; have d1 := b1.c1; have d2 := b1.c2; have d3 := b1.c3; have d4 := b1.c4; have f0 := b1.fz 0; have f1 := b1.fz 1; have f2 := b1.fz 2; have f3 := b1.fz 3; have f4 := b1.fz 4))
        go_roundw
        case rel => exact ⟨k + 1, r, by go_num, by omega, set5_other b0 (by omega) _ _ _ _ _, set5 b1 r, Below.set5 hB (by omega) _ _ _ _ _, HR, HK2⟩
        case measure => simp [intOf]; omega
      · have HL : Hid (okI ⟨o, a, b, cc, d⟩ = sameI q ⟨o, a, b, cc, d⟩) := by
          show _ = _
          have e : L.take k = L := List.take_of_length_le (by omega)
          rw [e] at HQ HK
          rw [HO.out, List.all_eq_true.2 HK.out, HQ.out]; rfl
        clear HO HQ HK hV hat
        go_wp2_with (go_at_call 22; refine (hF _).mono ?_; rintro e w2 ⟨rfl, hx⟩; have b0 := b0.later hx; have b1 := b1.later hx; have hB := chain hB hx; have c0 := b0.c0; have c1 := b0.c1; have c2 := b0.c2; have c3 := b0.c3; have c4 := b0.c4; have d0 := b1.c0; have d1 := b1.c1; have d2 := b1.c2; have d3 := b1.c3; have d4 := b1.c4; have f0 := b1.fz 0; have f1 := b1.fz 1; have f2 := b1.fz 2; have f3 := b1.fz 3; have f4 := b1.fz 4)
        all_goals (
          clear hF
          go_ret
          refine ⟨?_, hB⟩
          rw [HL.out]
          first
          | (have e : sameI q ⟨o, a, b, cc, d⟩ = true := by simp [sameI, *]
             rw [e]; rfl)
          | (have e : sameI q ⟨o, a, b, cc, d⟩ = false := by simp [sameI, *]
             rw [e]; rfl))
  · have HE : Hid (okI i = false) := okI_no (by simpa using ho)
    obtain ⟨op, a, b, c, d⟩ := i
    have ho2 : op < 1 ∨ 17 < op := by simp [okOp] at ho; omega
    unfold vI
    clear ho
    by_cases h1 : op < 1
    · clear ho2
      go_enter Tryd.func10, Tryd.ntmps10
      go_wp2
      go_ret
      exact ⟨by rw [HE.out]; rfl, (Below.refl _ _).alloc (Nat.le_refl _) _⟩
    · have h2 : 17 < op := by omega
      clear ho2
      go_enter Tryd.func10, Tryd.ntmps10
      go_wp2
      go_ret
      exact ⟨by rw [HE.out]; rfl, (Below.refl _ _).alloc (Nat.le_refl _) _⟩
end Go.Proofs.YtdekkjnlmlkbdaaDoor.is
