/-
  Contracts over this program: the document's Get for all bytes; whether two lists of instructions are alike (Like); the law IsaGets.
-/
import Derived.Test.YtdekkjnlmlkbdaaDoorGf
namespace Go.Proofs.YtdekkjnlmlkbdaaDoor.is
open Go.Proofs.YtdekkjnlmlkbdaaDoor.num
open Go.ChangeShapes Go.WideShapes Go.ChangeAt Go.RowKit
set_option linter.unusedVariables false

theorem rgeta_any (s : ByteArray) (hs : s.size ≤ 140737488351232) (L : List In) (e : Nat) (h : rdA s.data.toList = (L, e)) : RGetAIs s L e := by
  obtain ⟨n, to, e0, hg⟩ : ∃ n to e, gets s.data.toList 0 = (n, to, e) := ⟨_, _, _, rfl⟩
  unfold rdA at h
  rw [hg] at h
  by_cases he : e0 = 0
  · subst he
    rw [if_neg (by simp)] at h
    by_cases hn : 4096 < n
    · rw [if_pos hn] at h
      simp only [Prod.mk.injEq] at h
      obtain ⟨rfl, rfl⟩ := h
      exact rgeta_long s hs n to hg hn
    · rw [if_neg hn] at h
      exact rgeta_ok s hs n to hg (by omega) _ _ _ rfl L e h.symm
  · rw [if_pos he] at h
    simp only [Prod.mk.injEq] at h
    obtain ⟨rfl, rfl⟩ := h
    exact rgeta_bad s hs n to e0 hg he

def likeB (a b : List In) : Bool := decide (a.length = b.length) && (List.range a.length).all fun k => sameI (a.getD k zI) (b.getD k zI)
theorem likeB_self (a : List In) : likeB a a = true := by
  unfold likeB
  simp [List.all_eq_true, sameI_iff]
theorem likeB_eq {a b : List In} (h : likeB a b = true) : a = b := by
  unfold likeB at h
  simp only [Bool.and_eq_true, decide_eq_true_eq, List.all_eq_true, List.mem_range, sameI_iff] at h
  apply List.ext_getElem h.1
  intro k h1 h2
  have := h.2 k h1
  rwa [List.getD_eq_getElem?_getD, List.getD_eq_getElem?_getD, List.getElem?_eq_getElem h1, List.getElem?_eq_getElem h2] at this
theorem getD_at (l : List In) (k : Nat) (h : k < l.length) : l.getD k zI = l[k] := by rw [List.getD_eq_getElem?_getD, List.getElem?_eq_getElem h]; rfl

set_option maxHeartbeats 2000000 in
set_option maxRecDepth 100000 in
theorem like_any (la lb' : List In) (va vb : Value) (w : World) (ha : InsAt w va la) (hb : InsAt w vb lb') : Calls Tryd.prog 17 #[va, vb] w fun x w' => x = .returned (.bool (likeB la lb')) ∧ Below w.heap.size w w' := by
  obtain ⟨oa, ca, rfl, ha1, ha2, ha3⟩ := ha
  obtain ⟨ob, cb, rfl, hb1, hb2, hb3⟩ := hb
  by_cases hl : la.length = lb'.length
  · have hle : ((la.length : Int) == (lb'.length : Int)) = true := by simp; omega
    have HX := (show Hid (likeB la lb' = (List.range la.length).all fun k => sameI (la.getD k zI) (lb'.getD k zI)) by show _ = _; unfold likeB; rw [decide_eq_true hl]; rfl)
    obtain ⟨n, hn⟩ : ∃ n, n = la.length := ⟨_, rfl⟩
    have hn2 : lb'.length = n := by omega
    have A3 : ∀ m, m < n → ∃ b off, oa = some ⟨b, off, none⟩ ∧ IAt w b (off + m * 5) (la.getD m zI) := fun m hm => by
      obtain ⟨b, off, e, h⟩ := ha3 (by omega)
      exact ⟨b, off, e, by rw [getD_at la m (by omega)]; exact h m (by omega)⟩
    have B3 : ∀ m, m < n → ∃ b off, ob = some ⟨b, off, none⟩ ∧ IAt w b (off + m * 5) (lb'.getD m zI) := fun m hm => by
      obtain ⟨b, off, e, h⟩ := hb3 (by omega)
      exact ⟨b, off, e, by rw [getD_at lb' m (by omega)]; exact h m (by omega)⟩
    clear ha3 hb3
    rw [hn2] at hb1 ⊢
    rw [← hn] at ha1 HX ⊢
    clear hle hl hn hn2
    go_enter Tryd.func17, Tryd.ntmps17
    go_wp2
    go_loopw [13] (fun y wr => ∃ m : Nat, y = .int .i64 m ∧ m ≤ n ∧ Below w.heap.size w wr ∧ Hid (∀ k, k < m → sameI (la.getD k zI) (lb'.getD k zI) = true)) (fun y _ => n - (intOf y).toNat)
    case atStart => exact ⟨0, rfl, by omega, Below.refl _ _, fun k hk => by omega⟩
    case round =>
      rename_i wr
      obtain ⟨m, rfl, hm, hB, HK⟩ := hrel
      by_cases hmn : m < n
      · obtain ⟨b1, o1, rfl, i1⟩ := A3 m hmn
        obtain ⟨b2, o2, rfl, i2⟩ := B3 m hmn
        have i1 := i1.later hB
        have i2 := i2.later hB
        have HI : Hid (∀ k, k < m + 1 → k < m ∨ k = m) := fun k hk => by omega
        have HN : Hid (sameI (la.getD m zI) (lb'.getD m zI) = false → likeB la lb' = false) := fun h => by
          rw [HX.out, List.all_eq_false]
          exact ⟨m, List.mem_range.2 hmn, by rw [h]; simp⟩
        have HK2 : Hid (sameI (la.getD m zI) (lb'.getD m zI) = true → ∀ k, k < m + 1 → sameI (la.getD k zI) (lb'.getD k zI) = true) := fun h k hk => by
          rcases HI.out k hk with h2 | rfl
          · exact HK.out k h2
          · exact h
        clear HI HK HX
        generalize la.getD m zI = x at *
        generalize lb'.getD m zI = y at *
        obtain ⟨x0, x1, x2, x3, x4⟩ := x
        obtain ⟨y0, y1, y2, y3, y4⟩ := y
        have a0 := i1.c0
        have a1 := i1.c1
        have a2 := i1.c2
        have a3 := i1.c3
        have a4 := i1.c4
        have g0 := i2.c0
        have g1 := i2.c1
        have g2 := i2.c2
        have g3 := i2.c3
        have g4 := i2.c4
        clear i1 i2 A3 B3
        by_cases h0 : x0 = y0
        case neg =>
          have e : (x0 == y0) = false := by rw [beq_eq_false_iff_ne]; exact h0
          have HF : Hid (likeB la lb' = false) := HN.out (by simp [sameI, h0])
          clear HN HK2 h0
          go_wp2
          go_quiet (fail)
          go_wp2
          go_ret
          exact ⟨by rw [HF.out]; rfl, below_drewN hB _⟩
        obtain rfl := h0
        by_cases h1 : x1 = y1
        case neg =>
          have e : (x1 == y1) = false := by rw [beq_eq_false_iff_ne]; exact h1
          have HF : Hid (likeB la lb' = false) := HN.out (by simp [sameI, h1])
          clear HN HK2 h1
          go_wp2
          go_quiet (fail)
          go_wp2
          go_ret
          exact ⟨by rw [HF.out]; rfl, below_drewN hB _⟩
        obtain rfl := h1
        by_cases h2 : x2 = y2
        case neg =>
          have e : (x2 == y2) = false := by rw [beq_eq_false_iff_ne]; exact h2
          have HF : Hid (likeB la lb' = false) := HN.out (by simp [sameI, h2])
          clear HN HK2 h2
          go_wp2
          go_quiet (fail)
          go_wp2
          go_ret
          exact ⟨by rw [HF.out]; rfl, below_drewN hB _⟩
        obtain rfl := h2
        by_cases h3 : x3 = y3
        case neg =>
          have e : (x3 == y3) = false := by rw [beq_eq_false_iff_ne]; exact h3
          have HF : Hid (likeB la lb' = false) := HN.out (by simp [sameI, h3])
          clear HN HK2 h3
          go_wp2
          go_quiet (fail)
          go_wp2
          go_ret
          exact ⟨by rw [HF.out]; rfl, below_drewN hB _⟩
        obtain rfl := h3
        by_cases h4 : x4 = y4
        case neg =>
          have e : (x4 == y4) = false := by rw [beq_eq_false_iff_ne]; exact h4
          have HF : Hid (likeB la lb' = false) := HN.out (by simp [sameI, h4])
          clear HN HK2 h4
          go_wp2
          go_quiet (fail)
          go_wp2
          go_ret
          exact ⟨by rw [HF.out]; rfl, below_drewN hB _⟩
        obtain rfl := h4
        have HF := (show Hid (∀ k, k < m + 1 → sameI (la.getD k zI) (lb'.getD k zI) = true) from HK2.out (by simp [sameI]))
        clear HN HK2
        go_wp2
        go_quiet (fail)
        go_wp2
        go_roundw
        case rel => exact ⟨m + 1, by go_num, by omega, below_drewN hB _, HF⟩
        case measure => simp [intOf]; omega
      · obtain rfl : m = n := by omega
        have HE : Hid (likeB la lb' = true) := by
          show _ = _
          rw [HX.out, List.all_eq_true]
          intro k hk
          exact HK.out k (List.mem_range.1 hk)
        go_wp2
        go_ret
        exact ⟨by rw [HE.out]; rfl, hB⟩
  · have hle : ((la.length : Int) == (lb'.length : Int)) = false := by rw [beq_eq_false_iff_ne]; omega
    have HX := (show Hid (likeB la lb' = false) by show _ = _; unfold likeB; rw [decide_eq_false hl]; rfl)
    go_enter Tryd.func17, Tryd.ntmps17
    go_wp2
    go_ret
    exact ⟨by rw [HX.out]; rfl, Below.refl _ _⟩
end Go.Proofs.YtdekkjnlmlkbdaaDoor.is
