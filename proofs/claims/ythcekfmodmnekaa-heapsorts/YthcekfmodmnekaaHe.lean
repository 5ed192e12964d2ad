/-
  Contracts over this program: the least number is taken out of a pile (pile.sink, pile.take).
-/
import Derived.Test.YthcekfmodmnekaaHd
namespace Go.Proofs.Ythcekfmodmnekaa.hp
open Go.ChangeShapes Go.WideShapes Go.ChangeAt Go.RowKit
set_option linter.unusedVariables false
set_option maxRecDepth 100000

def SinkOut (B b off : Nat) (v : Value) (l : List Int) (x : Int) (w : World) (e : Ending) (w' : World) : Prop :=
  ∃ l', e = .returned (.tuple #[]) ∧ Pil w' B b off v l' ∧ Heap nlt l' ∧ l'.Perm (l.set 0 x) ∧ Mv w w' b off v.ownBlock
set_option maxHeartbeats 4000000 in
theorem sink_any (x : Int) {l : List Int} (hl : l.length ≤ 1000000) {w : World} {B b off g n cap : Nat} (h : Pil w B b off (.slice (some ⟨g, 0, none⟩) n cap) l) (hd : Dn nlt l 0 x) :
    Calls Try.prog 45 #[.pointer (some ⟨b, off, none⟩), nv x] w (SinkOut B b off (.slice (some ⟨g, 0, none⟩) n cap) l x w) := by
  obtain ⟨HN, c1, c2⟩ := h.len
  have hn : n ≤ 1000000 := by omega
  have c54 := kid_any l 0 (by omega) hl h
  have HP := (show Hid (Pil w B b off (.slice (some ⟨g, 0, none⟩) n cap) l) from h)
  have HD := (show Hid (Dn nlt l 0 x) from hd)
  have HN := (show Hid (n = l.length) from HN)
  have hbl := h.lt
  have hV0 := (show Hid (Mv w w b off (some g)) from Mv.refl h.cell)
  clear h hd
  go_enter Try.func45, Try.ntmps45
  go_wp2_with (go_at_call 54; refine c54.mono ?_; rintro e w1 ⟨rfl, b1⟩)
  have HP1 := (show Hid (Pil w1 B b off (.slice (some ⟨g, 0, none⟩) n cap) l) from HP.out.later b1)
  have HV1 := (show Hid (Mv w w1 b off (some g)) from hV0.out.below b1 hbl)
  clear HP hV0 c54 b1
  go_loopw [4, 5] (fun y z wr => ∃ (k : Nat) (m : List Int), y = .int .i64 k ∧ z = .int .i64 (kidOf nlt m k : Nat) ∧ k ≤ n ∧ Hid (m.length = n) ∧ Hid (Pil wr B b off (.slice (some ⟨g, 0, none⟩) n cap) m) ∧ Hid (Mv w wr b off (some g)) ∧ Hid (Dn nlt m k x) ∧ Hid ((m.set k x).Perm (l.set 0 x))) (fun y _ _ => n - (intOf y).toNat)
  case atStart => exact ⟨0, l, rfl, rfl, by omega, HN.out.symm, HP1, HV1, HD, by show List.Perm _ _; exact List.Perm.refl _⟩
  case round =>
    clear HP1 HV1 HD
    obtain ⟨k, m, rfl, rfl, hk, HL, HP, HV, HD, HR⟩ := hrel
    have hcell := HP.out.cell
    have hkl : k < n := by have := HD.out.here; rw [HL.out] at this; exact this
    obtain ⟨x0, hx0⟩ : ∃ x0, m[k]? = some x0 := ⟨_, List.getElem?_eq_getElem (by rw [HL.out]; omega)⟩
    obtain ⟨hc0, hf0⟩ := HP.out.row hx0
    have hfin : ∀ e W, e = .returned (.tuple #[]) → W = wr.setCell ⟨g, k, none⟩ (nv x) → (kidOf nlt m k = 0 ∨ (0 < kidOf nlt m k ∧ ∃ y, m[kidOf nlt m k]? = some y ∧ nlt y x = false)) → SinkOut B b off (.slice (some ⟨g, 0, none⟩) n cap) l x w e W := by
      intro e W he hW hs
      subst hW
      obtain ⟨q1, q2⟩ := HP.out.set k x
      exact ⟨_, he, q1, HD.out.stop nlt_ok hs, HR.out, HV.out.trans q2 (.inl rfl)⟩
    have hstep := fun y (h0 : 0 < kidOf nlt m k) (hy : m[kidOf nlt m k]? = some y) (ht : nlt y x = true) => HD.out.step nlt_ok h0 hy ht
    have HF := (show Hid _ from hfin)
    have HS := (show Hid _ from hstep)
    clear hfin hx0 hstep
    by_cases h0 : kidOf nlt m k = 0
    · have HZ := (show Hid (kidOf nlt m k = 0) from h0)
      rw [h0]
      clear h0
      go_wp2_with (fail)
      go_end0
      exact HF.out _ _ rfl rfl (.inl HZ.out)
    · obtain ⟨d1, d2, d3⟩ := kid_lt (lt := nlt) (l := m) (k := k) (by omega)
      rw [HL.out] at d1
      generalize hq : kidOf nlt m k = c at *
      obtain ⟨x1, hx1⟩ : ∃ x1, m[c]? = some x1 := ⟨_, List.getElem?_eq_getElem (by rw [HL.out]; omega)⟩
      obtain ⟨hc1, hf1⟩ := HP.out.row hx1
      have hp0 : 0 < c := by omega
      have HX := (show Hid (m[c]? = some x1) from hx1)
      have hm := fun W => method_num x1 W
      clear hx1 hq d3 h0
      cases hb : nlt x1 x with
      | false =>
        have ca : ∀ W, Calls Try.prog 92 #[nv x1, nv x] W fun e w' => e = .returned (.bool false) ∧ w' = W := fun W => hb ▸ ahead_num x1 x W
        have HB := (show Hid (nlt x1 x = false) from hb)
        clear hb
        go_wp2_with (go_at_call 92; refine (ca _).mono ?_; rintro e w' ⟨rfl, h⟩; obtain rfl := h.symm)
        go_end0
        exact HF.out _ _ rfl rfl (.inr ⟨hp0, x1, HX.out, HB.out⟩)
      | true =>
        have ca : ∀ W, Calls Try.prog 92 #[nv x1, nv x] W fun e w' => e = .returned (.bool true) ∧ w' = W := fun W => hb ▸ ahead_num x1 x W
        have HB := (show Hid (nlt x1 x = true) from hb)
        clear hb
        go_wp2_with (go_at_call 92; refine (ca _).mono ?_; rintro e w' ⟨rfl, h⟩; obtain rfl := h.symm)
        go_region
        obtain ⟨q1, q2⟩ := HP.out.set k x1
        obtain ⟨q3, q4⟩ := HS.out x1 hp0 HX.out HB.out
        have q1 : Pil (wr.setCell ⟨g, k, none⟩ (nv x1)).drew B b off (.slice (some ⟨g, 0, none⟩) n cap) (m.set k x1) := q1.keep rfl (fun _ _ => rfl)
        have q2 : Mv w (wr.setCell ⟨g, k, none⟩ (nv x1)).drew b off (some g) := (HV.out.trans q2 (.inl rfl)).drew
        have c54 := kid_any (m.set k x1) c (by omega) (by simpa [HL.out] using hn) q1
        have hbl2 : b < w.heap.size := hbl
        have Q1 := (show Hid _ from q1)
        have Q2 := (show Hid _ from q2)
        have Q3 := (show Hid _ from q3)
        have Q4 := (show Hid _ from q4)
        clear q1 q2 q3 q4
        go_wp2_with (go_at_call 54; refine c54.mono ?_; rintro e w2 ⟨rfl, b2⟩)
        go_roundw
        case rel => exact ⟨c, m.set k x1, rfl, rfl, by omega, by show _ = _; simpa using HL.out, Q1.out.later b2, Q2.out.below b2 hbl, Q3.out, by show List.Perm _ _; exact Q4.out.trans HR.out⟩
        case measure => simp [intOf]; omega
def TakeOut (B b off : Nat) (v : Value) (l : List Int) (w : World) (e : Ending) (w' : World) : Prop :=
  ∃ v' x l', e = .returned (nv x) ∧ Pil w' B b off v' l' ∧ Heap nlt l' ∧ l.Perm (x :: l') ∧ (∀ y ∈ l, nlt y x = false) ∧ Mv w w' b off v.ownBlock ∧ v'.ownBlock = v.ownBlock
theorem Pil.cut {w : World} {B b off g n cap : Nat} {l m : List Int} {x : Int} (h : Pil w B b off (.slice (some ⟨g, 0, none⟩) (n + 1) cap) l) (hl : l = m ++ [x]) : Pil (w.setCell ⟨b, off, none⟩ (.slice (some ⟨g, 0, none⟩) n cap)) B b off (.slice (some ⟨g, 0, none⟩) n cap) m ∧ Mv w (w.setCell ⟨b, off, none⟩ (.slice (some ⟨g, 0, none⟩) n cap)) b off (some g) := by
  subst hl
  have hn : n = m.length := by have := h.len.1; simp at this; omega
  subst hn
  have ho : w.ownsRow B 75 1 (.slice (some ⟨g, 0, none⟩) (m.length + 1) cap) (m.length + 1) (m.map nv ++ [nv x]) := by simpa using h.own
  have hp := ownsRow_pop (by simp) ho
  have hbg : b ≠ g := fun e => h.apart (by rw [e]; rfl)
  have oth : ∀ k, k ≠ b → (w.setCell ⟨b, off, none⟩ (.slice (some ⟨g, 0, none⟩) m.length cap)).heap[k]? = w.heap[k]? := fun k hk => Below.heap_setCell _ _ _ _ hk
  refine ⟨⟨World.cell?_setCell_same w ⟨b, off, none⟩ _ h.cell, by simp [h.thaw], own_keep hp fun k e => oth k (by intro e'; subst e'; cases e; exact hbg rfl), h.apart⟩, rfl, rfl, rfl, by rw [World.size_setCell]; exact Nat.le_refl _, fun k hk hne _ => oth k hne, fun cs t hc => ⟨_, heap_setCell_same w b off cs t _ hc⟩⟩
set_option maxHeartbeats 4000000 in
theorem take_any {l : List Int} (hl : l.length ≤ 1000000) (h0 : 0 < l.length) {w : World} {B b off : Nat} {v : Value} (h : Pil w B b off v l) (hh : Heap nlt l) :
    Calls Try.prog 34 #[.pointer (some ⟨b, off, none⟩)] w (TakeOut B b off v l w) := by
  obtain ⟨n, hn⟩ : ∃ n, l.length = n + 1 := ⟨l.length - 1, by omega⟩
  obtain ⟨x0, hx0⟩ : ∃ x0, l[0]? = some x0 := ⟨_, List.getElem?_eq_getElem h0⟩
  obtain ⟨x1, hx1⟩ : ∃ x1, l[n]? = some x1 := ⟨_, List.getElem?_eq_getElem (by omega)⟩
  obtain ⟨g, cap, rfl, -, -⟩ := h.at 0 h0
  rw [hn] at h ⊢
  obtain ⟨hc0, hf0⟩ := h.row hx0
  obtain ⟨hc1, hf1⟩ := h.row hx1
  obtain ⟨-, c1, c2⟩ := h.len
  have hc := h.cell
  have hf := h.thaw
  have hbl := h.lt
  have hleast : ∀ y ∈ l, nlt y x0 = false := fun y hy => by
    obtain ⟨i, hi⟩ := List.getElem?_of_mem hy
    exact hh.least nlt_ok hx0 i y hi
  have hlast : l = l.take n ++ [x1] := by
    conv => lhs; rw [← List.take_append_drop n l]
    congr 1
    obtain ⟨hlt, e⟩ := List.getElem?_eq_some_iff.1 hx1
    rw [List.drop_eq_getElem_cons hlt, e, List.drop_of_length_le (by omega)]
  obtain ⟨HP1, HV1⟩ := h.cut hlast
  have HP1 := (show Hid _ from HP1)
  have HV1 := (show Hid (Mv w (w.setCell ⟨b, off, none⟩ (.slice (some ⟨g, 0, none⟩) n cap)) b off (some g)) from HV1)
  have HL := (show Hid (∀ y ∈ l, nlt y x0 = false) from hleast)
  by_cases hz : n = 0
  · subst hz
    have e : x1 = x0 := by rw [hx0] at hx1; exact (Option.some.inj hx1).symm
    have HE := (show Hid (l = [x1]) from hlast.trans (by simp))
    have HE2 := (show Hid (x1 = x0) from e)
    clear h hh hx0 hx1 hleast hlast hn e
    go_enter Try.func34, Try.ntmps34
    go_wp2_with (fail)
    go_quiet (fail)
    go_wp2_with (fail)
    go_ret
    refine ⟨_, x0, [], rfl, HP1.out.keep rfl (fun _ _ => rfl), Heap.nil, ?_, HL.out, ⟨HV1.out.os, HV1.out.tape, HV1.out.output, HV1.out.size, HV1.out.block, HV1.out.self⟩, rfl⟩
    rw [HE.out, HE2.out]
  · have hd : Dn nlt (l.take n) 0 x1 := Dn.start hh x1 x1 _ hlast (by rw [List.length_take]; omega)
    have HQ := (show Hid (l.Perm (x0 :: (l.take n).set 0 x1)) from by
      show List.Perm _ _
      obtain ⟨a, t, e⟩ : ∃ a t, l.take n = a :: t := by
        cases hlt : l.take n with
        | nil => have := congrArg List.length hlt; rw [List.length_take, hn, List.length_nil] at this; omega
        | cons a t => exact ⟨a, t, rfl⟩
      have ea : a = x0 := by
        have : (l.take n)[0]? = some a := by rw [e]; rfl
        rw [List.getElem?_take_of_lt (by omega), hx0] at this
        exact (Option.some.inj this).symm
      rw [e, ea]
      rw [e, ea] at hlast
      rw [hlast]
      simp only [List.set_cons_zero, List.cons_append]
      exact List.Perm.cons _ List.perm_append_comm)
    have c45 : ∀ W, W.heap = (w.setCell ⟨b, off, none⟩ (.slice (some ⟨g, 0, none⟩) n cap)).heap → Calls Try.prog 45 #[.pointer (some ⟨b, off, none⟩), nv x1] W (SinkOut B b off (.slice (some ⟨g, 0, none⟩) n cap) (l.take n) x1 W) := fun W hW => sink_any x1 (by rw [List.length_take]; omega) (HP1.out.keep (by rw [hW]) (fun _ _ => by rw [hW])) hd
    have C45 := (show Hid _ from c45)
    have hz : 0 < n := by omega
    clear h hh hx0 hx1 hleast hlast c45 hd
    have hln : l.length ≤ 1000000 := hl
    have hn2 : n ≤ 1000000 := by omega
    clear hn hl
    go_enter Try.func34, Try.ntmps34
    go_wp2_with (fail)
    go_quiet (fail)
    go_wp2_with (go_at_call 45; refine (C45.out _ (by rfl)).mono ?_; rintro e w1 ⟨l', rfl, t1, t2, t3, t4⟩)
    go_ret
    exact ⟨_, x0, l', rfl, t1, t2, HQ.out.trans (List.Perm.cons _ t3.symm), HL.out, Mv.trans (show Mv w ((w.drewN nq).setCell ⟨b, off, none⟩ (.slice (some ⟨g, 0, none⟩) n cap)) b off (some g) from ⟨HV1.out.os, HV1.out.tape, HV1.out.output, HV1.out.size, HV1.out.block, HV1.out.self⟩) t4 (.inl rfl), rfl⟩
end Go.Proofs.Ythcekfmodmnekaa.hp
