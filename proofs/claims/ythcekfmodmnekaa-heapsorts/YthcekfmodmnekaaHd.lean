/-
  Contracts over this program: a number more in a pile (pile.put).
-/
import Derived.Test.YthcekfmodmnekaaHc
namespace Go.Proofs.Ythcekfmodmnekaa.hp
open Go.ChangeShapes Go.WideShapes Go.ChangeAt Go.RowKit
set_option linter.unusedVariables false
set_option maxRecDepth 100000

def PutOut (B b off : Nat) (v : Value) (l : List Int) (x : Int) (w : World) (e : Ending) (w' : World) : Prop :=
  ∃ v' l', e = .returned (.tuple #[]) ∧ Pil w' B b off v' l' ∧ Heap nlt l' ∧ l'.Perm (x :: l) ∧ Mv w w' b off v.ownBlock ∧ (v'.ownBlock = v.ownBlock ∨ ∀ g, v'.ownBlock = some g → w.heap.size ≤ g)
set_option maxHeartbeats 4000000 in
theorem put_any (x : Int) {l : List Int} (hl : l.length ≤ 999998) {w : World} {B b off : Nat} {v : Value} (h : Pil w B b off v l) (hB : B ≤ b) (hh : Heap nlt l) :
    Calls Try.prog 33 #[.pointer (some ⟨b, off, none⟩), nv x] w (PutOut B b off v l x w) := by
  have hBs : B ≤ w.heap.size := Nat.le_trans hB (Nat.le_of_lt h.lt)
  have hc := h.cell
  have hc1 : (w.alloc (.cells #[nv x] 75)).cell? ⟨b, off, none⟩ = some v := (World.cell?_of_block (a := ⟨b, off, none⟩) (((Below.refl w.heap.size w).alloc (Nat.le_refl _) (.cells #[nv x] 75)).block b h.lt)).trans h.cell
  have ho : (w.alloc (.cells #[nv x] 75)).ownsRow B 75 1 v l.length (l.map nv) := h.own.alloc _
  have HM := (show Hid (∀ (g cap : Nat) (w2 : World), w2.ownsRow B 75 1 (.slice (some ⟨g, 0, none⟩) (l.length + 1) cap) (l.length + 1) (l.map nv ++ [nv x]) → (w.alloc (.cells #[nv x] 75)).grownBy w2 v.ownBlock → (some g = v.ownBlock ∨ (w.alloc (.cells #[nv x] 75)).heap.size ≤ g) → _) from fun g cap w2 => h.more (w2 := w2) (g := g) (cap := cap) (x := x) hB)
  have HO := (show Hid _ from ho)
  have hbl := h.lt
  clear ho h
  go_enter Try.func33, Try.ntmps33
  go_wp2_with (at_builtin; refine ow.wpList_append (by rfl) (.tmp 9) (.tmp 11) 71 (by rfl) 75 (.int .i64 0) 1 8 Try.underlying71 info75 rfl (by omega) (by omega) B v l.length (l.map nv) w.heap.size [nv x] (by rfl) (by rfl) HO.out rfl (ow.new1 w _ 75) (ow.one1 _ rfl) (by omega) (by simp; omega) ?_; intro g' cap' w2 h1 h2 h3; obtain ⟨p1, p2, p3, p4⟩ := HM.out g' cap' w2 h1 h2 h3)
  have HW := (show Hid (v.ownBlock = some g' ∨ w.heap.size ≤ g') from by
    show _ ∨ _
    rcases h3 with e | e
    · exact .inl e.symm
    · right; simp at e; omega)
  clear HM HO h1 h2 h3 p3 p4 hc hc1
  have hlen : (l ++ [x]).length = l.length + 1 := by simp
  generalize w2.setCell ⟨b, off, none⟩ (.slice (some ⟨g', 0, none⟩) (l.length + 1) cap') = w3 at *
  obtain ⟨n, HN⟩ : ∃ n, Hid (n = l.length) := ⟨_, rfl⟩
  have HP : Hid (Pil w3 B b off (.slice (some ⟨g', 0, none⟩) (n + 1) cap') (l ++ [x])) := by show Pil _ _ _ _ _ _; rw [HN.out]; exact p1
  have HV := (show Hid (Mv w w3 b off v.ownBlock) from p2)
  have HU : Hid (Up nlt (l ++ [x]) n x) := by show Up _ _ _ _; rw [HN.out]; exact Up.start hh x
  have hn : n ≤ 999998 := by rw [HN.out]; exact hl
  rw [← HN.out]
  clear p1 p2 hh hlen hl
  go_loopw [4] (fun y wr => ∃ (k : Nat) (m : List Int), y = .int .i64 k ∧ k ≤ n ∧ Hid (m.length = n + 1) ∧ Hid (Pil wr B b off (.slice (some ⟨g', 0, none⟩) (n + 1) cap') m) ∧ Hid (Mv w wr b off v.ownBlock) ∧ Hid (Up nlt m k x) ∧ Hid ((m.set k x).Perm (l ++ [x]))) (fun y _ => (intOf y).toNat)
  case atStart => exact ⟨n, l ++ [x], by go_num, Nat.le_refl _, by show _ = _; rw [HN.out]; simp, HP, HV, HU, by show List.Perm _ _; rw [HN.out]; simp⟩
  case round =>
    clear HP HV HU
    obtain ⟨k, m, rfl, hk, HL, HP, HV, HU, HR⟩ := hrel
    have hcell := HP.out.cell
    have hfin : ∀ e W, e = .returned (.tuple #[]) → W = wr.setCell ⟨g', k, none⟩ (nv x) → (k = 0 ∨ ∃ y, m[(k - 1) / 2]? = some y ∧ nlt x y = false) → PutOut B b off v l x w e W := by
      intro e W he hW hs
      subst hW
      obtain ⟨q1, q2⟩ := HP.out.set k x
      exact ⟨_, _, he, q1, HU.out.stop hs, HR.out.trans List.perm_append_comm, HV.out.trans q2 (by rcases HW.out with e | e; exact .inl e.symm; exact .inr fun g eg => by cases eg; exact e), by rcases HW.out with e | e; exact .inl e.symm; exact .inr fun g eg => by cases eg; exact e⟩
    have HF := (show Hid _ from hfin)
    clear hfin
    rcases k with _ | j
    · obtain ⟨x0, hx0⟩ : ∃ x0, m[0]? = some x0 := ⟨_, List.getElem?_eq_getElem (by rw [HL.out]; omega)⟩
      obtain ⟨hc0, hf0⟩ := HP.out.row hx0
      obtain ⟨-, c1, c2⟩ := HP.out.len
      clear hx0
      go_wp2_with (fail)
      go_end0
      exact HF.out _ _ rfl rfl (by first | exact .inl rfl | exact .inl trivial)
    · obtain ⟨x0, hx0⟩ : ∃ x0, m[j + 1]? = some x0 := ⟨_, List.getElem?_eq_getElem (by rw [HL.out]; omega)⟩
      obtain ⟨x1, hx1⟩ : ∃ x1, m[j / 2]? = some x1 := ⟨_, List.getElem?_eq_getElem (by rw [HL.out]; omega)⟩
      obtain ⟨hc0, hf0⟩ := HP.out.row hx0
      obtain ⟨hc1, hf1⟩ := HP.out.row hx1
      obtain ⟨-, c1, c2⟩ := HP.out.len
      have HX := (show Hid (m[j / 2]? = some x1) from hx1)
      clear hx0 hx1
      have hm := fun W => method_num x W
      cases hb : nlt x x1 with
      | false =>
        have ca : ∀ W, Calls Try.prog 92 #[nv x, nv x1] W fun e w' => e = .returned (.bool false) ∧ w' = W := fun W => hb ▸ ahead_num x x1 W
        have HB := (show Hid (nlt x x1 = false) from hb)
        clear hb
        go_wp2_with (go_at_call 92; refine (ca _).mono ?_; rintro e w' ⟨rfl, h⟩; obtain rfl := h.symm)
        go_end0
        exact HF.out _ _ rfl rfl (.inr ⟨x1, by simpa using HX.out, HB.out⟩)
      | true =>
        have ca : ∀ W, Calls Try.prog 92 #[nv x, nv x1] W fun e w' => e = .returned (.bool true) ∧ w' = W := fun W => hb ▸ ahead_num x x1 W
        have HB := (show Hid (nlt x x1 = true) from hb)
        clear hb
        go_wp2_with (go_at_call 92; refine (ca _).mono ?_; rintro e w' ⟨rfl, h⟩; obtain rfl := h.symm)
        go_region
        go_wp2_with (fail)
        obtain ⟨q1, q2⟩ := HP.out.set (j + 1) x1
        obtain ⟨q3, q4⟩ := HU.out.step nlt_ok (by omega) (by simpa using HX.out) HB.out
        go_roundw
        case rel => exact ⟨j / 2, m.set (j + 1) x1, by go_num, by omega, by show _ = _; simpa using HL.out, q1.keep rfl (fun _ _ => rfl), (HV.out.trans q2 (by rcases HW.out with e | e; exact .inl e.symm; exact .inr fun g eg => by cases eg; exact e)).drew, by show Up _ _ _ _; simpa using q3, by show List.Perm _ _; exact (by simpa using q4 : List.Perm _ _).trans HR.out⟩
        case measure => simp [intOf]; omega
end Go.Proofs.Ythcekfmodmnekaa.hp
