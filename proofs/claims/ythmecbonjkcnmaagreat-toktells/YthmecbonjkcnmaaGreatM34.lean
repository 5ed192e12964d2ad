/-
  Texts put together: Contracts over this program: fretsawref07's repeated, and from as a whole. Contracts over this program: fretsawref07's from as a whole; its Ends. Contracts over this program: fretsawref07's Ends.
-/
import Derived.Test.YthmecbonjkcnmaaGreatM33
import Derived.Deep.LoopGhost
import Derived.Test.YthmecbonjkcnmaaGreatM02
import Derived.Test.YthmecbonjkcnmaaGreatM01
namespace Go.Proofs.YthmecbonjkcnmaaGreat.nb
open Go.ChangeShapes Go.WideShapes Go.ChangeAt Go.RowKit
open st (Tr Q4 nodesOf goods okNode Is Box nthT)
open nf (Ed IRow icells dOf)
set_option linter.unusedVariables false

def zeros (M : List Int) : Nat := M.count 0
theorem zeros_set (M : List Int) (i : Nat) (h : i < M.length) (h0 : M[i] = 0) : zeros (M.set i 1) < zeros M := by
  unfold zeros
  rw [List.count_set h]
  have : 0 < M.count 0 := List.count_pos_iff.2 (h0 ▸ List.getElem_mem h)
  simp [h0]
  omega
theorem zeros_le (M : List Int) : zeros M ≤ M.length := List.count_le_length
theorem img_pow (s : ByteArray) (t : Tr) (S : Nat → Prop) (m j : Nat) : Img (s.size + 1) (Tk (txOf s) t) (Img (s.size + 1) (Pow (Tk (txOf s) t) m) S) j ↔ Img (s.size + 1) (Pow (Tk (txOf s) t) (m + 1)) S j := by
  constructor
  · rintro ⟨c, h1, ⟨a, h2, h3, h4⟩, h5⟩
    exact ⟨a, h2, h3, Pow.snoc h4 h5⟩
  · rintro ⟨a, h2, h3, h4⟩
    obtain ⟨c, h5, h6⟩ := Pow.unsnoc h4
    have hr := (pow_range (x := txOf s) (tk_range (txOf s) t) m a c h5).2 (by show a ≤ s.size; omega)
    have hr' : c ≤ s.size := hr
    exact ⟨c, by omega, ⟨a, h2, h3, h5⟩, h6⟩
/-- so many times at least, so many times at most -/
def Btw (s : ByteArray) (t : Tr) (S : Nat → Prop) (a b j : Nat) : Prop := ∃ k, a ≤ k ∧ k ≤ b ∧ Img (s.size + 1) (Pow (Tk (txOf s) t) k) S j
theorem btw_one (s : ByteArray) (t : Tr) (S : Nat → Prop) (a j : Nat) : Btw s t S a a j ↔ Img (s.size + 1) (Pow (Tk (txOf s) t) a) S j := by
  constructor
  · rintro ⟨k, h1, h2, h3⟩
    obtain rfl : k = a := by omega
    exact h3
  · exact fun h => ⟨a, Nat.le_refl _, Nat.le_refl _, h⟩
theorem btw_succ (s : ByteArray) (t : Tr) (S : Nat → Prop) (a b j : Nat) (h : a ≤ b) : (Btw s t S a b j ∨ Img (s.size + 1) (Pow (Tk (txOf s) t) (b + 1)) S j) ↔ Btw s t S a (b + 1) j := by
  constructor
  · rintro (⟨k, h1, h2, h3⟩ | h1)
    · exact ⟨k, h1, by omega, h3⟩
    · exact ⟨b + 1, by omega, Nat.le_refl _, h1⟩
  · rintro ⟨k, h1, h2, h3⟩
    by_cases e : k = b + 1
    · subst e; exact .inr h3
    · exact .inl ⟨k, h1, by omega, h3⟩
/-- where nothing new is come to, nothing new ever is -/
theorem btw_shut (s : ByteArray) (t : Tr) (S : Nat → Prop) (a b : Nat) (hab : a ≤ b) (h : ∀ j, j < s.size + 1 → Img (s.size + 1) (Pow (Tk (txOf s) t) (b + 1)) S j → Btw s t S a b j) : ∀ k, a ≤ k → ∀ j, j < s.size + 1 → Img (s.size + 1) (Pow (Tk (txOf s) t) k) S j → Btw s t S a b j := by
  intro k
  induction k with
  | zero => intro hk j hj hi; exact ⟨0, hk, by omega, hi⟩
  | succ k ih =>
    intro hk j hj hi
    by_cases e : a = k + 1
    · exact ⟨k + 1, hk, by omega, hi⟩
    · obtain ⟨c, h1, h2, h3⟩ := (img_pow s t S k j).2 hi
      obtain ⟨m, h4, h5, h6⟩ := ih (by omega) c h1 h2
      have h7 := (img_pow s t S m j).1 ⟨c, h1, h6, h3⟩
      by_cases e2 : m + 1 ≤ b
      · exact ⟨m + 1, by omega, e2, h7⟩
      · obtain rfl : m = b := by omega
        exact h j hj h7
def RepIs (s : ByteArray) (t : Tr) : Prop := ∀ (S : Nat → Prop) (P : List Int) (g : Nat) (tv : Value) (w : World) (Q0 : Nat → Prop), PlOf S (s.size + 1) P → IRow w g P → Is w Q0 t tv →
  Calls Tryz.prog 105 #[trV t tv, .string s, .slice (some ⟨g, 0, none⟩) (s.size + 1) (s.size + 1)] w fun e w' => ∃ g' Q, e = .returned (.slice (some ⟨g', 0, none⟩) (s.size + 1) (s.size + 1)) ∧ w.heap.size ≤ g' ∧ IRow w' g' Q ∧ PlOf (Img (s.size + 1) (Tk (txOf s) t) S) (s.size + 1) Q ∧ Below w.heap.size w w'
/-- what stands beside one another while it is repeated -/
structure Rp (w : World) (t : Tr) (tv : Value) (W : World) (g go : Nat) (P Q : List Int) : Prop where
  box : Box W w.heap.size t tv
  pl : IRow W g P
  out : IRow W go Q
  ne : g ≠ go
  lo : w.heap.size < go
  be : Below w.heap.size w W
theorem Rp.later {w : World} {t : Tr} {tv : Value} {W W' : World} {g go : Nat} {P Q : List Int} (h : Rp w t tv W g go P Q) (b : Below W.heap.size W W') : Rp w t tv W' g go P Q := ⟨h.box.below b, h.pl.later b, h.out.later b, h.ne, h.lo, nf.chain h.be b⟩
theorem Rp.put {w : World} {t : Tr} {tv : Value} {W : World} {g go : Nat} {P Q : List Int} (h : Rp w t tv W g go P Q) (i : Nat) (x : Int) : Rp w t tv (W.setCell ⟨go, i, none⟩ (.int .i64 x)) g go P (Q.set i x) :=
  ⟨(Below.heap_setCell _ _ _ _ (fun e => by have e2 : w.heap.size = go := e; have := h.lo; omega)).trans h.box, h.pl.other h.ne i _, h.out.put i x, h.ne, h.lo, h.be.setCell (p := ⟨go, i, none⟩) (Nat.le_of_lt h.lo) _⟩
theorem Rp.next {w : World} {t : Tr} {tv : Value} {W W' : World} {g go g2 : Nat} {P Q P2 : List Int} (h : Rp w t tv W g go P Q) (b : Below W.heap.size W W') (hp : IRow W' g2 P2) (hg : W.heap.size ≤ g2) : Rp w t tv W' g2 go P2 Q := ⟨h.box.below b, hp, h.out.later b, by have := h.out.lt; omega, h.lo, nf.chain h.be b⟩
set_option maxHeartbeats 8000000 in
set_option maxRecDepth 100000 in
theorem rep_any (s : ByteArray) (hs : s.size ≤ 60) (t : Tr) (hk : t.kind = 4) (mn : Nat) (hmn : t.min = (mn : Int)) (hm20 : mn ≤ 20) (hmx : t.max = -1 ∨ ((mn : Int) ≤ t.max ∧ t.max ≤ 20)) (hkl : t.kids.length = 1) (hkid0 : FromIs s (nthT t.kids 0)) : RepIs s t := by
  intro S P g tv w Q0 hP hR hI
  obtain ⟨o, cap, b, off, vs, rfl, hcap, hki⟩ := hI.form
  obtain ⟨rfl, hcm, hb, hne, hcells, hkid⟩ := hki 0 (by omega)
  have HTK := (show Hid (∀ S j, Img (s.size + 1) (Tk (txOf s) t) S j ↔ ∃ k, mn ≤ k ∧ (t.max = -1 ∨ (k : Int) ≤ t.max) ∧ Img (s.size + 1) (Pow (Tk (txOf s) (nthT t.kids 0)) k) S j) from fun S j => by
    cases t with
    | node k q mn' mx l =>
      simp only [Tr.kind, Tr.min, Tr.max, Tr.kids] at hk hmn hmx hkl ⊢
      obtain ⟨u, rfl⟩ : ∃ u, l = [u] := List.length_eq_one_iff.1 hkl
      have eH : TkH (txOf s) [u] = Tk (txOf s) u := by funext a c; rw [TkH]
      have e0 : nthT [u] 0 = u := rfl
      rw [e0]
      constructor
      · rintro ⟨a, h1, h2, h3⟩
        rw [Tk, if_neg (by omega), if_neg (by omega), if_neg (by omega), if_pos hk, eH] at h3
        obtain ⟨n, h4, h5, h6⟩ := h3
        refine ⟨n, by omega, ?_, a, h1, h2, h6⟩
        rcases hmx with hm | hm
        · exact .inl hm
        · rcases h5 with h5 | h5
          · exact .inl h5
          · exact .inr (by omega)
      · rintro ⟨n, h4, h5, a, h1, h2, h6⟩
        refine ⟨a, h1, h2, ?_⟩
        rw [Tk, if_neg (by omega), if_neg (by omega), if_neg (by omega), if_pos hk, eH]
        refine ⟨n, by omega, ?_, h6⟩
        rcases h5 with h5 | h5
        · exact .inl h5
        · exact .inr (by omega))
  generalize nthT t.kids 0 = x at *
  have HKX := (show Hid (∀ W, Below w.heap.size w W → st.Cells W b off x (vs 0)) from fun W h => hcells.same (h.block b hb))
  have HIX := (show Hid (∀ W, Below w.heap.size w W → Is W Q0 x (vs 0)) from fun W h => hkid.later h)
  obtain ⟨o2, n2, cap2, hv2⟩ := hkid.shape
  rw [hv2] at HKX HIX
  have hm : ∀ W, (Instr.makeSlice 138 (.int .i64 ((s.size : Int) + 1)) (.int .i64 ((s.size : Int) + 1))).run Tryz.prog W = .ok (.slice (some ⟨W.heap.size, 0, none⟩) (s.size + 1) (s.size + 1)) (W.alloc (.cells (icells (List.replicate (s.size + 1) 0)) 3)) := fun W => by
    have := make138 (s.size + 1) (by omega) W
    rw [Int.natCast_add] at this
    exact this
  obtain ⟨w2, HW2⟩ : ∃ w2, Hid (w2 = w.alloc (.cells #[.int .i64 t.kind, .int .u64 t.set.a, .int .u64 t.set.b, .int .u64 t.set.c, .int .u64 t.set.d, .int .i64 t.min, .int .i64 t.max, .slice (some ⟨b, off, none⟩) t.kids.length cap] 29)) := ⟨_, rfl⟩
  have hB2 : Below w.heap.size w w2 := by rw [HW2.out]; exact nf.below_alloc _ _
  have hX2 : Box w2 w.heap.size t (.slice (some ⟨b, off, none⟩) t.kids.length cap) := by rw [HW2.out]; exact st.box_new w t _
  have HP2 := (show Hid (PlOf (Img (s.size + 1) (Pow (Tk (txOf s) x) 0) S) (s.size + 1) P) from hP.to fun j hj => ⟨fun h => ⟨j, hj, h, rfl⟩, fun ⟨k, h1, h2, h3⟩ => by cases h3; exact h2⟩)
  have HR2 := (show Hid (IRow w2 g P) from hR.later hB2)
  have HMN := (show Hid (t.min = (mn : Int)) from hmn)
  have HKD := (show Hid _ from hkid0)
  have HKL := (show Hid (t.kids.length = 1) from hkl)
  have HX2 := (show Hid _ from hX2)
  have HMX := (show Hid (t.max = -1 ∨ ((mn : Int) ≤ t.max ∧ t.max ≤ 20)) from hmx)
  clear hP hR hI hki hcells hkid hkid0 hv2 hne hmn hkl hX2 hk hmx
  go_enter Tryz.func105, Tryz.ntmps105
  go_wp2
  rw [← HW2.out]
  go_loopw [2, 7] (fun u y wr => ∃ (i g' : Nat) (P' : List Int), u = .slice (some ⟨g', 0, none⟩) (s.size + 1) (s.size + 1) ∧ y = .int .i64 i ∧ i ≤ mn ∧ Hid (Box wr w.heap.size t (.slice (some ⟨b, off, none⟩) t.kids.length cap)) ∧ Hid (IRow wr g' P') ∧ Hid (PlOf (Img (s.size + 1) (Pow (Tk (txOf s) x) i) S) (s.size + 1) P') ∧ Below w.heap.size w wr) (fun _ y _ => mn - (intOf y).toNat)
  case atStart => exact ⟨0, g, P, rfl, rfl, by omega, HX2, HR2, HP2, hB2⟩
  case round =>
    obtain ⟨i, g', P', rfl, rfl, hi, HX, HR, HP, hB⟩ := hrel
    clear HX2 HR2 HP2 hB2
    have hb5 : wr.cell? ⟨w.heap.size, 5, none⟩ = some (.int .i64 (mn : Int)) := by rw [Lib.cell_of_heap HX.out, ← HMN.out]; rfl
    have hb7 : wr.cell? ⟨w.heap.size, 7, none⟩ = some (.slice (some ⟨b, off, none⟩) t.kids.length cap) := by rw [Lib.cell_of_heap HX.out]; rfl
    have hkl1 : (0 : Int) < (t.kids.length : Int) := by have := HKL.out; omega
    by_cases hin : i < mn
    · obtain ⟨k0, k1, k2, k3, k4, k5, k6, k7⟩ := HKX.out wr hB
      have c37 := HKD.out _ P' g' _ wr _ HP.out HR.out (HIX.out wr hB)
      have hii : (i : Int) < (mn : Int) := by omega
      have HXL := (show Hid _ from HX)
      have HNX := (show Hid (∀ Q3, PlOf (Img (s.size + 1) (Tk (txOf s) x) (Img (s.size + 1) (Pow (Tk (txOf s) x) i) S)) (s.size + 1) Q3 → PlOf (Img (s.size + 1) (Pow (Tk (txOf s) x) (i + 1)) S) (s.size + 1) Q3) from fun Q3 h => h.to fun j _ => img_pow s x S i j)
      go_wp2_with (go_at_call 77; refine c37.mono ?_; rintro e w3 ⟨g3, Q3, rfl, hg3, hr3, hp3, b3⟩; have HR3 := (show Hid (IRow w3 g3 Q3) from hr3); have HP3 := (show Hid _ from HNX.out Q3 hp3); clear hr3 hp3)
      go_roundw
      case rel => exact ⟨i + 1, g3, Q3, rfl, by go_num, by omega, HX.out.below b3, HR3, HP3, nf.chain hB b3⟩
      case measure => simp [intOf]; omega
    · obtain rfl : i = mn := by omega
      have hii : ¬ (i : Int) < (i : Int) := by omega
      go_wp2
      obtain ⟨go, hgo⟩ : ∃ go, go = wr.heap.size := ⟨_, rfl⟩
      obtain ⟨w4, HW4⟩ : ∃ w4, Hid (w4 = wr.alloc (.cells (icells (List.replicate (s.size + 1) 0)) 3)) := ⟨_, rfl⟩
      have HRP := (show Hid (Rp w t (.slice (some ⟨b, off, none⟩) t.kids.length cap) w4 g' go P' (List.replicate (s.size + 1) 0)) from by
        have hba : Below wr.heap.size wr w4 := by rw [HW4.out]; exact nf.below_alloc _ _
        refine ⟨HX.out.below hba, HR.out.later hba, ?_, ?_, ?_, nf.chain hB hba⟩
        · rw [HW4.out, hgo]; exact nf.irow_new wr _
        · have := HR.out.lt; omega
        · have h1 := HX.out
          have := (Array.getElem?_eq_some_iff.1 h1).1
          omega)
      rw [← HW4.out, ← hgo]
      clear HW4 hgo hb5 hb7 hm HX HR hB
      go_loopw [31] (fun y wr => ∃ (j : Nat) (Q : List Int), y = .int .i64 j ∧ j ≤ s.size + 1 ∧ Hid (Rp w t (.slice (some ⟨b, off, none⟩) t.kids.length cap) wr g' go P' Q) ∧ Hid (PlOf (fun m => m < j ∧ Img (s.size + 1) (Pow (Tk (txOf s) x) i) S m) (s.size + 1) Q)) (fun y _ => s.size + 1 - (intOf y).toNat)
      case atStart => exact ⟨0, _, rfl, by omega, HRP, (plOf_none _).to fun j _ => ⟨fun h => h.elim, fun h => by omega⟩⟩
      case round =>
        obtain ⟨j, Q, rfl, hj, HRQ, HQ⟩ := hrel
        clear HRP
        have hQl := HQ.out.len
        have hPl := HP.out.len
        by_cases hje : j < s.size + 1
        · have hpi := HRQ.out.pl.cell j (by omega)
          have kc := HRQ.out.out.cell j (by omega)
          have kf := HRQ.out.out.fz j
          have hji : (j : Int) < (s.size : Int) + 1 := by omega
          rcases HP.out.bit j (by omega) with ⟨e1, hSi⟩ | ⟨e0, hSn⟩
          · rw [e1] at hpi
            have HQ2 := (show Hid (PlOf (fun m => m < j + 1 ∧ Img (s.size + 1) (Pow (Tk (txOf s) x) i) S m) (s.size + 1) (Q.set j 1)) from (HQ.out.put j hje).to fun m _ => by
              constructor
              · rintro (⟨h1, h2⟩ | rfl)
                · exact ⟨by omega, h2⟩
                · exact ⟨by omega, hSi⟩
              · rintro ⟨h1, h2⟩
                by_cases e : m = j
                · exact .inr e
                · exact .inl ⟨by omega, h2⟩)
            clear HQ
            go_wp2
            go_roundw
            case rel => exact ⟨j + 1, _, by go_num, by omega, HRQ.out.put j 1, HQ2⟩
            case measure => simp [intOf]; omega
          · rw [e0] at hpi
            have HQ2 := (show Hid (PlOf (fun m => m < j + 1 ∧ Img (s.size + 1) (Pow (Tk (txOf s) x) i) S m) (s.size + 1) (Q.set j 0)) from (HQ.out.put0 j (fun h => by omega)).to fun m _ => by
              constructor
              · rintro ⟨h1, h2⟩
                exact ⟨by omega, h2⟩
              · rintro ⟨h1, h2⟩
                by_cases e : m = j
                · subst e; exact absurd h2 hSn
                · exact ⟨by omega, h2⟩)
            clear HQ
            go_wp2
            go_roundw
            case rel => exact ⟨j + 1, _, by go_num, by omega, HRQ.out.put j 0, HQ2⟩
            case measure => simp [intOf]; omega
        · have hji : ¬ (j : Int) < (s.size : Int) + 1 := by omega
          have hb5 : wr.cell? ⟨w.heap.size, 5, none⟩ = some (.int .i64 (i : Int)) := by rw [Lib.cell_of_heap HRQ.out.box, ← HMN.out]; rfl
          have HQB := (show Hid (PlOf (Btw s x S i i) (s.size + 1) Q) from HQ.out.to fun m hm => by
            rw [btw_one]
            exact ⟨fun h => h.2, fun h => ⟨by omega, h⟩⟩)
          have hz0 := zeros_le Q
          clear HQ
          go_wp2
          go_loopg [2, 10] (zeros Q) (fun k u y wr => ∃ (m g2 : Nat) (P2 Q2 : List Int), u = .slice (some ⟨g2, 0, none⟩) (s.size + 1) (s.size + 1) ∧ y = .int .i64 m ∧ i ≤ m ∧ Hid (t.max = -1 ∨ (m : Int) ≤ t.max) ∧ m + k ≤ 100 ∧ Hid (k = zeros Q2) ∧ Hid (Rp w t (.slice (some ⟨b, off, none⟩) t.kids.length cap) wr g2 go P2 Q2) ∧ Hid (PlOf (Img (s.size + 1) (Pow (Tk (txOf s) x) m) S) (s.size + 1) P2) ∧ Hid (PlOf (Btw s x S i m) (s.size + 1) Q2))
          case atStart => exact ⟨i, g', P', Q, rfl, rfl, Nat.le_refl _, HMX.out.imp id (fun h => h.1), by omega, rfl, HRQ, HP, HQB⟩
          case round =>
            obtain ⟨m, g2, P2, Q2, rfl, rfl, hmm, HMM, hmk, HKK, HRQ2, HPM, HQM⟩ := hrel
            clear HRQ HQB hb5 HP
            have hb6 : wr.cell? ⟨w.heap.size, 6, none⟩ = some (.int .i64 t.max) := by rw [Lib.cell_of_heap HRQ2.out.box]; rfl
            have hb7 : wr.cell? ⟨w.heap.size, 7, none⟩ = some (.slice (some ⟨b, off, none⟩) t.kids.length cap) := by rw [Lib.cell_of_heap HRQ2.out.box]; rfl
            by_cases hgoon : t.max = -1 ∨ (m : Int) < t.max
            · have HM2 := (show Hid (t.max = -1 ∨ ((m + 1 : Nat) : Int) ≤ t.max) from hgoon.imp id (fun h => by omega))
              obtain ⟨k0, k1, k2, k3, k4, k5, k6, k7⟩ := HKX.out wr HRQ2.out.be
              have c37 := HKD.out _ P2 g2 _ wr _ HPM.out HRQ2.out.pl (HIX.out wr HRQ2.out.be)
              have HNX := (show Hid (∀ Q3, PlOf (Img (s.size + 1) (Tk (txOf s) x) (Img (s.size + 1) (Pow (Tk (txOf s) x) m) S)) (s.size + 1) Q3 → PlOf (Img (s.size + 1) (Pow (Tk (txOf s) x) (m + 1)) S) (s.size + 1) Q3) from fun Q3 h => h.to fun j _ => img_pow s x S m j)
              have hm3 : (m : Int) + 1 ≤ 9223372036854775807 := by omega
              by_cases hmx1 : t.max = -1
              · have f1 : decide (t.max < 0) = true := decide_eq_true (by omega)
                have f1' : t.max < 0 := by omega
                clear hgoon hmx1
                go_wp2_with (go_at_call 77; refine c37.mono ?_; rintro e w3 ⟨g3, P3, rfl, hg3, hr3, hp3, b3⟩; have HR3 := (show Hid _ from HRQ2.out.next b3 hr3 hg3); have HP3 := (show Hid _ from HNX.out P3 hp3); clear hr3 hp3)
                clear c37 k0 k1 k2 k3 k4 k5 k6 k7 hb6 hb7 HNX HPM f1 f1'
                go_loopw [11, 64] (fun u y wr => ∃ (j : Nat) (Q3 : List Int) (nw : Bool), u = .bool nw ∧ y = .int .i64 j ∧ j ≤ s.size + 1 ∧ Hid (Rp w t (.slice (some ⟨b, off, none⟩) t.kids.length cap) wr g3 go P3 Q3) ∧ Hid (PlOf (fun c => Btw s x S i m c ∨ (c < j ∧ Img (s.size + 1) (Pow (Tk (txOf s) x) (m + 1)) S c)) (s.size + 1) Q3) ∧ Hid (nw = true → zeros Q3 < zeros Q2) ∧ Hid (nw = false → zeros Q3 ≤ zeros Q2 ∧ ∀ c, c < j → Img (s.size + 1) (Pow (Tk (txOf s) x) (m + 1)) S c → Btw s x S i m c)) (fun _ y _ => s.size + 1 - (intOf y).toNat)
                case atStart => exact ⟨0, Q2, false, rfl, rfl, by omega, HR3, HQM.out.to fun c _ => ⟨fun h => .inl h, fun h => h.elim id (fun h => by omega)⟩, (fun h => nomatch h), fun _ => ⟨Nat.le_refl _, fun c hc => by omega⟩⟩
                case round =>
                  obtain ⟨j, Q3, nw, rfl, rfl, hj, HR4, HQ4, HN1, HN2⟩ := hrel
                  clear HR3
                  have hQl := HQ4.out.len
                  have hPl := HP3.out.len
                  by_cases hje : j < s.size + 1
                  · have hpi := HR4.out.pl.cell j (by omega)
                    have kc := HR4.out.out.cell j (by omega)
                    have kf := HR4.out.out.fz j
                    have hji : (j : Int) < (s.size : Int) + 1 := by omega
                    rcases HP3.out.bit j (by omega) with ⟨e1, hSi⟩ | ⟨e0, hSn⟩
                    · rw [e1] at hpi
                      rcases HQ4.out.bit j (by omega) with ⟨q1, hqi⟩ | ⟨q0, hqn⟩
                      · rw [q1] at kc
                        have HQ5 := (show Hid (PlOf (fun c => Btw s x S i m c ∨ (c < j + 1 ∧ Img (s.size + 1) (Pow (Tk (txOf s) x) (m + 1)) S c)) (s.size + 1) Q3) from HQ4.out.to fun c _ => by
                          constructor
                          · rintro (h | ⟨h1, h2⟩)
                            · exact .inl h
                            · exact .inr ⟨by omega, h2⟩
                          · rintro (h | ⟨h1, h2⟩)
                            · exact .inl h
                            · by_cases e : c = j
                              · subst e; exact hqi
                              · exact .inr ⟨by omega, h2⟩)
                        have HN3 := (show Hid (nw = false → zeros Q3 ≤ zeros Q2 ∧ ∀ c, c < j + 1 → Img (s.size + 1) (Pow (Tk (txOf s) x) (m + 1)) S c → Btw s x S i m c) from fun hn => by
                          obtain ⟨h1, h2⟩ := HN2.out hn
                          refine ⟨h1, fun c hc hi => ?_⟩
                          by_cases e : c = j
                          · subst e
                            rcases hqi with h | h
                            · exact h
                            · omega
                          · exact h2 c (by omega) hi)
                        clear HQ4 HN2 q1
                        go_wp2
                        go_roundw
                        case rel => exact ⟨j + 1, Q3, nw, rfl, by go_num, by omega, HR4, HQ5, HN1, HN3⟩
                        case measure => simp [intOf]; omega
                      · rw [q0] at kc
                        have HZ := (show Hid (zeros (Q3.set j 1) < zeros Q2) from by
                          have h1 := zeros_set Q3 j (by omega) q0
                          show _ < _
                          cases nw with
                          | true => have := HN1.out rfl; omega
                          | false => have := (HN2.out rfl).1; omega)
                        have HQ5 := (show Hid (PlOf (fun c => Btw s x S i m c ∨ (c < j + 1 ∧ Img (s.size + 1) (Pow (Tk (txOf s) x) (m + 1)) S c)) (s.size + 1) (Q3.set j 1)) from (HQ4.out.put j hje).to fun c _ => by
                          constructor
                          · rintro ((h | ⟨h1, h2⟩) | rfl)
                            · exact .inl h
                            · exact .inr ⟨by omega, h2⟩
                            · exact .inr ⟨by omega, hSi⟩
                          · rintro (h | ⟨h1, h2⟩)
                            · exact .inl (.inl h)
                            · by_cases e : c = j
                              · exact .inr e
                              · exact .inl (.inr ⟨by omega, h2⟩))
                        clear HQ4 HN1 HN2 q0
                        go_wp2
                        go_roundw
                        case rel => exact ⟨j + 1, Q3.set j 1, true, rfl, by go_num, by omega, HR4.out.put j 1, HQ5, fun _ => HZ.out, fun h => nomatch h⟩
                        case measure => simp [intOf]; omega
                    · rw [e0] at hpi
                      have HQ5 := (show Hid (PlOf (fun c => Btw s x S i m c ∨ (c < j + 1 ∧ Img (s.size + 1) (Pow (Tk (txOf s) x) (m + 1)) S c)) (s.size + 1) Q3) from HQ4.out.to fun c _ => by
                        constructor
                        · rintro (h | ⟨h1, h2⟩)
                          · exact .inl h
                          · exact .inr ⟨by omega, h2⟩
                        · rintro (h | ⟨h1, h2⟩)
                          · exact .inl h
                          · by_cases e : c = j
                            · subst e; exact absurd h2 hSn
                            · exact .inr ⟨by omega, h2⟩)
                      have HN3 := (show Hid (nw = false → zeros Q3 ≤ zeros Q2 ∧ ∀ c, c < j + 1 → Img (s.size + 1) (Pow (Tk (txOf s) x) (m + 1)) S c → Btw s x S i m c) from fun hn => by
                        obtain ⟨h1, h2⟩ := HN2.out hn
                        refine ⟨h1, fun c hc hi => ?_⟩
                        by_cases e : c = j
                        · subst e; exact absurd hi hSn
                        · exact h2 c (by omega) hi)
                      clear HQ4 HN2
                      go_wp2
                      go_roundw
                      case rel => exact ⟨j + 1, Q3, nw, rfl, by go_num, by omega, HR4, HQ5, HN1, HN3⟩
                      case measure => simp [intOf]; omega
                  · have hji : ¬ (j : Int) < (s.size : Int) + 1 := by omega
                    cases nw with
                    | false =>
                      have HF := (show Hid (PlOf (Img (s.size + 1) (Tk (txOf s) t) S) (s.size + 1) Q3) from HQ4.out.to fun c hc => by
                        have hsh := btw_shut s x S i m hmm (fun c hc => (HN2.out rfl).2 c (by omega))
                        rw [HTK.out]
                        constructor
                        · intro h
                          have h' : Btw s x S i m c := by
                            rcases h with h | ⟨_, h⟩
                            · exact h
                            · exact hsh (m + 1) (by omega) c hc h
                          obtain ⟨k, h1, h2, h3⟩ := h'
                          exact ⟨k, h1, HMM.out.imp id (fun h => by omega), h3⟩
                        · rintro ⟨k, h1, h2, h3⟩
                          exact .inl (hsh k h1 c hc h3))
                      clear HQ4 HN1 HN2 HKK HM2 HMM
                      go_wp2
                      go_ret
                      exact ⟨_, rfl, Nat.le_of_lt HR4.out.lo, Q3, HR4.out.out, HF.out, HR4.out.be⟩
                    | true =>
                      have HLT := (show Hid (zeros Q3 < gk) from by show _ < _; rw [HKK.out]; exact HN1.out rfl)
                      have HQ5 := (show Hid (PlOf (Btw s x S i (m + 1)) (s.size + 1) Q3) from HQ4.out.to fun c hc => by
                        rw [← btw_succ s x S i m c hmm]
                        exact ⟨fun h => h.imp id (fun h => h.2), fun h => h.imp id (fun h => ⟨by omega, h⟩)⟩)
                      have hlt := HLT.out
                      clear HQ4 HN1 HN2 HKK HMM HLT
                      go_wp2
                      go_roundg (zeros Q3)
                      case rel => exact ⟨m + 1, g3, P3, Q3, rfl, by go_num, by omega, HM2, by omega, rfl, HR4, HP3, HQ5⟩
                      case measure => exact hlt
              · have f1 : decide (t.max < 0) = false := decide_eq_false (by have := HMM.out; omega)
                have f2 : (m : Int) < t.max := by omega
                clear hgoon hmx1
                go_wp2_with (go_at_call 77; refine c37.mono ?_; rintro e w3 ⟨g3, P3, rfl, hg3, hr3, hp3, b3⟩; have HR3 := (show Hid _ from HRQ2.out.next b3 hr3 hg3); have HP3 := (show Hid _ from HNX.out P3 hp3); clear hr3 hp3)
                clear c37 k0 k1 k2 k3 k4 k5 k6 k7 hb6 hb7 HNX HPM f1 f2
                go_loopw [11, 64] (fun u y wr => ∃ (j : Nat) (Q3 : List Int) (nw : Bool), u = .bool nw ∧ y = .int .i64 j ∧ j ≤ s.size + 1 ∧ Hid (Rp w t (.slice (some ⟨b, off, none⟩) t.kids.length cap) wr g3 go P3 Q3) ∧ Hid (PlOf (fun c => Btw s x S i m c ∨ (c < j ∧ Img (s.size + 1) (Pow (Tk (txOf s) x) (m + 1)) S c)) (s.size + 1) Q3) ∧ Hid (nw = true → zeros Q3 < zeros Q2) ∧ Hid (nw = false → zeros Q3 ≤ zeros Q2 ∧ ∀ c, c < j → Img (s.size + 1) (Pow (Tk (txOf s) x) (m + 1)) S c → Btw s x S i m c)) (fun _ y _ => s.size + 1 - (intOf y).toNat)
                case atStart => exact ⟨0, Q2, false, rfl, rfl, by omega, HR3, HQM.out.to fun c _ => ⟨fun h => .inl h, fun h => h.elim id (fun h => by omega)⟩, (fun h => nomatch h), fun _ => ⟨Nat.le_refl _, fun c hc => by omega⟩⟩
                case round =>
                  obtain ⟨j, Q3, nw, rfl, rfl, hj, HR4, HQ4, HN1, HN2⟩ := hrel
                  clear HR3
                  have hQl := HQ4.out.len
                  have hPl := HP3.out.len
                  by_cases hje : j < s.size + 1
                  · have hpi := HR4.out.pl.cell j (by omega)
                    have kc := HR4.out.out.cell j (by omega)
                    have kf := HR4.out.out.fz j
                    have hji : (j : Int) < (s.size : Int) + 1 := by omega
                    rcases HP3.out.bit j (by omega) with ⟨e1, hSi⟩ | ⟨e0, hSn⟩
                    · rw [e1] at hpi
                      rcases HQ4.out.bit j (by omega) with ⟨q1, hqi⟩ | ⟨q0, hqn⟩
                      · rw [q1] at kc
                        have HQ5 := (show Hid (PlOf (fun c => Btw s x S i m c ∨ (c < j + 1 ∧ Img (s.size + 1) (Pow (Tk (txOf s) x) (m + 1)) S c)) (s.size + 1) Q3) from HQ4.out.to fun c _ => by
                          constructor
                          · rintro (h | ⟨h1, h2⟩)
                            · exact .inl h
                            · exact .inr ⟨by omega, h2⟩
                          · rintro (h | ⟨h1, h2⟩)
                            · exact .inl h
                            · by_cases e : c = j
                              · subst e; exact hqi
                              · exact .inr ⟨by omega, h2⟩)
                        have HN3 := (show Hid (nw = false → zeros Q3 ≤ zeros Q2 ∧ ∀ c, c < j + 1 → Img (s.size + 1) (Pow (Tk (txOf s) x) (m + 1)) S c → Btw s x S i m c) from fun hn => by
                          obtain ⟨h1, h2⟩ := HN2.out hn
                          refine ⟨h1, fun c hc hi => ?_⟩
                          by_cases e : c = j
                          · subst e
                            rcases hqi with h | h
                            · exact h
                            · omega
                          · exact h2 c (by omega) hi)
                        clear HQ4 HN2 q1
                        go_wp2
                        go_roundw
                        case rel => exact ⟨j + 1, Q3, nw, rfl, by go_num, by omega, HR4, HQ5, HN1, HN3⟩
                        case measure => simp [intOf]; omega
                      · rw [q0] at kc
                        have HZ := (show Hid (zeros (Q3.set j 1) < zeros Q2) from by
                          have h1 := zeros_set Q3 j (by omega) q0
                          show _ < _
                          cases nw with
                          | true => have := HN1.out rfl; omega
                          | false => have := (HN2.out rfl).1; omega)
                        have HQ5 := (show Hid (PlOf (fun c => Btw s x S i m c ∨ (c < j + 1 ∧ Img (s.size + 1) (Pow (Tk (txOf s) x) (m + 1)) S c)) (s.size + 1) (Q3.set j 1)) from (HQ4.out.put j hje).to fun c _ => by
                          constructor
                          · rintro ((h | ⟨h1, h2⟩) | rfl)
                            · exact .inl h
                            · exact .inr ⟨by omega, h2⟩
                            · exact .inr ⟨by omega, hSi⟩
                          · rintro (h | ⟨h1, h2⟩)
                            · exact .inl (.inl h)
                            · by_cases e : c = j
                              · exact .inr e
                              · exact .inl (.inr ⟨by omega, h2⟩))
                        clear HQ4 HN1 HN2 q0
                        go_wp2
                        go_roundw
                        case rel => exact ⟨j + 1, Q3.set j 1, true, rfl, by go_num, by omega, HR4.out.put j 1, HQ5, fun _ => HZ.out, fun h => nomatch h⟩
                        case measure => simp [intOf]; omega
                    · rw [e0] at hpi
                      have HQ5 := (show Hid (PlOf (fun c => Btw s x S i m c ∨ (c < j + 1 ∧ Img (s.size + 1) (Pow (Tk (txOf s) x) (m + 1)) S c)) (s.size + 1) Q3) from HQ4.out.to fun c _ => by
                        constructor
                        · rintro (h | ⟨h1, h2⟩)
                          · exact .inl h
                          · exact .inr ⟨by omega, h2⟩
                        · rintro (h | ⟨h1, h2⟩)
                          · exact .inl h
                          · by_cases e : c = j
                            · subst e; exact absurd h2 hSn
                            · exact .inr ⟨by omega, h2⟩)
                      have HN3 := (show Hid (nw = false → zeros Q3 ≤ zeros Q2 ∧ ∀ c, c < j + 1 → Img (s.size + 1) (Pow (Tk (txOf s) x) (m + 1)) S c → Btw s x S i m c) from fun hn => by
                        obtain ⟨h1, h2⟩ := HN2.out hn
                        refine ⟨h1, fun c hc hi => ?_⟩
                        by_cases e : c = j
                        · subst e; exact absurd hi hSn
                        · exact h2 c (by omega) hi)
                      clear HQ4 HN2
                      go_wp2
                      go_roundw
                      case rel => exact ⟨j + 1, Q3, nw, rfl, by go_num, by omega, HR4, HQ5, HN1, HN3⟩
                      case measure => simp [intOf]; omega
                  · have hji : ¬ (j : Int) < (s.size : Int) + 1 := by omega
                    cases nw with
                    | false =>
                      have HF := (show Hid (PlOf (Img (s.size + 1) (Tk (txOf s) t) S) (s.size + 1) Q3) from HQ4.out.to fun c hc => by
                        have hsh := btw_shut s x S i m hmm (fun c hc => (HN2.out rfl).2 c (by omega))
                        rw [HTK.out]
                        constructor
                        · intro h
                          have h' : Btw s x S i m c := by
                            rcases h with h | ⟨_, h⟩
                            · exact h
                            · exact hsh (m + 1) (by omega) c hc h
                          obtain ⟨k, h1, h2, h3⟩ := h'
                          exact ⟨k, h1, HMM.out.imp id (fun h => by omega), h3⟩
                        · rintro ⟨k, h1, h2, h3⟩
                          exact .inl (hsh k h1 c hc h3))
                      clear HQ4 HN1 HN2 HKK HM2 HMM
                      go_wp2
                      go_ret
                      exact ⟨_, rfl, Nat.le_of_lt HR4.out.lo, Q3, HR4.out.out, HF.out, HR4.out.be⟩
                    | true =>
                      have HLT := (show Hid (zeros Q3 < gk) from by show _ < _; rw [HKK.out]; exact HN1.out rfl)
                      have HQ5 := (show Hid (PlOf (Btw s x S i (m + 1)) (s.size + 1) Q3) from HQ4.out.to fun c hc => by
                        rw [← btw_succ s x S i m c hmm]
                        exact ⟨fun h => h.imp id (fun h => h.2), fun h => h.imp id (fun h => ⟨by omega, h⟩)⟩)
                      have hlt := HLT.out
                      clear HQ4 HN1 HN2 HKK HMM HLT
                      go_wp2
                      go_roundg (zeros Q3)
                      case rel => exact ⟨m + 1, g3, P3, Q3, rfl, by go_num, by omega, HM2, by omega, rfl, HR4, HP3, HQ5⟩
                      case measure => exact hlt
            · obtain ⟨hne1, hnlt⟩ := not_or.1 hgoon
              have hmax : t.max = (m : Int) := by
                rcases HMM.out with h | h
                · exact absurd h hne1
                · omega
              have f1 : decide (t.max < 0) = false := decide_eq_false (by omega)
              have f2 : ¬ (m : Int) < t.max := by omega
              have HF := (show Hid (PlOf (Img (s.size + 1) (Tk (txOf s) t) S) (s.size + 1) Q2) from HQM.out.to fun j hj => by
                rw [HTK.out]
                constructor
                · rintro ⟨k, h1, h2, h3⟩
                  exact ⟨k, h1, .inr (by omega), h3⟩
                · rintro ⟨k, h1, h2, h3⟩
                  exact ⟨k, h1, by rcases h2 with h2 | h2 <;> omega, h3⟩)
              clear hmax HMM HKK HPM HQM hgoon hne1 hnlt
              go_wp2
              go_ret
              exact ⟨_, rfl, Nat.le_of_lt HRQ2.out.lo, Q2, HRQ2.out.out, HF.out, HRQ2.out.be⟩
end Go.Proofs.YthmecbonjkcnmaaGreat.nb

namespace Go.Proofs.YthmecbonjkcnmaaGreat.nb
open Go.ChangeShapes Go.WideShapes Go.ChangeAt Go.RowKit
open st (Tr Q4 nodesOf goods okNode Is Box nthT)
open nf (Ed IRow icells dOf)
open mg (Row iv In IntsV)
set_option linter.unusedVariables false

set_option maxHeartbeats 4000000 in
set_option maxRecDepth 100000 in
theorem from4 (s : ByteArray) (hs : s.size ≤ 60) (t : Tr) (hk : t.kind = 4) (hrep : RepIs s t) : FromIs s t := by
  intro S P g tv w Q0 hP hR hI
  obtain ⟨o, n0, cap0, rfl⟩ := hI.shape
  have hm : ∀ W, (Instr.makeSlice 138 (.int .i64 ((s.size : Int) + 1)) (.int .i64 ((s.size : Int) + 1))).run Tryz.prog W = .ok (.slice (some ⟨W.heap.size, 0, none⟩) (s.size + 1) (s.size + 1)) (W.alloc (.cells (icells (List.replicate (s.size + 1) 0)) 3)) := fun W => by
    have := make138 (s.size + 1) (by omega) W
    rw [Int.natCast_add] at this
    exact this
  obtain ⟨w2, HW2⟩ : ∃ w2, Hid (w2 = (w.alloc (.cells #[.int .i64 t.kind, .int .u64 t.set.a, .int .u64 t.set.b, .int .u64 t.set.c, .int .u64 t.set.d, .int .i64 t.min, .int .i64 t.max, .slice o n0 cap0] 29)).alloc (.cells (icells (List.replicate (s.size + 1) 0)) 3)) := ⟨_, rfl⟩
  have HT0 := (show Hid _ from two_new w t _ (s.size + 1) w2 HW2.out)
  have c58 := hrep S P g _ w2 _ hP (hR.later HT0.out.be) (hI.later HT0.out.be)
  have hbx : ((w.alloc (.cells #[.int .i64 t.kind, .int .u64 t.set.a, .int .u64 t.set.b, .int .u64 t.set.c, .int .u64 t.set.d, .int .i64 t.min, .int .i64 t.max, .slice o n0 cap0] 29)).alloc (.cells (icells (List.replicate (s.size + 1) 0)) 3)).heap[w.heap.size]? = some (.cells #[.int .i64 t.kind, .int .u64 t.set.a, .int .u64 t.set.b, .int .u64 t.set.c, .int .u64 t.set.d, .int .i64 t.min, .int .i64 t.max, .slice o n0 cap0] 29 (0, 0)) := by
    rw [← HW2.out]; exact HT0.out.box
  have hb2 := HT0.out.be
  clear hP hR hI hrep
  unfold trV at c58 ⊢
  rw [hk] at HW2 hbx c58 ⊢
  go_enter Tryz.func77, Tryz.ntmps77
  go_wp2_with (first | (refine wpList_load_row rfl 29 (.tmp 3) rfl w.heap.size rfl 29 _ (0, 0) _ hbx Tryz.underlying29 rfl info29 ?_) | (go_at_call 105; rw [← HW2.out]; refine c58.mono ?_; rintro e w3 ⟨g3, Q3, rfl, hg3, hr3, hp3, b3⟩))
  go_ret
  exact ⟨_, Q3, rfl, Nat.le_trans hb2.size hg3, hr3, hp3, nf.chain hb2 b3⟩
theorem kind_of (t : Tr) (h : okNode t = true) : t.kind = 1 ∨ t.kind = 2 ∨ t.kind = 3 ∨ t.kind = 4 := by
  unfold okNode at h
  split at h
  · exact .inl (by assumption)
  · split at h
    · exact .inr (.inl (by assumption))
    · split at h
      · exact .inr (.inr (.inl (by assumption)))
      · split at h
        · exact .inr (.inr (.inr (by assumption)))
        · cases h
theorem sane_kid : ∀ (l : List Tr), st.sanes l → ∀ i, i < l.length → (nthT l i).sane
  | [], _, i, h => by simp at h
  | t :: l, hs, 0, h => by unfold st.sanes at hs; exact hs.1
  | t :: l, hs, i + 1, h => by
    unfold st.sanes at hs
    exact sane_kid l hs.2 i (by simpa using h)
theorem from_any (s : ByteArray) (hs : s.size ≤ 60) : ∀ (d : Nat) (t : Tr), t.depth ≤ d → t.good = true → t.sane → FromIs s t
  | 0, t, h, _, _ => by rw [Tr.depth_eq] at h; omega
  | d + 1, t, h, hg, hsn => by
    rw [Tr.good_eq, Bool.and_eq_true] at hg
    have hkid : ∀ i, i < t.kids.length → FromIs s (nthT t.kids i) := fun i hi => by
      refine from_any s hs d (nthT t.kids i) ?_ ?_ ?_
      · have := st.depth_nth t.kids i hi
        rw [Tr.depth_eq] at h
        omega
      · exact goods_mem t.kids hg.2 _ (st.nthT_mem t.kids i hi)
      · refine sane_kid t.kids ?_ i hi
        cases t with
        | node k q mn mx l => unfold Tr.sane at hsn; exact hsn.2.2.2.2
    rcases kind_of t hg.1 with hk | hk | hk | hk
    · refine from1 s hs t hk ?_
      cases t with
      | node k q mn mx l => unfold Tr.sane at hsn; exact hsn.1
    · exact from2 s hs t hk hkid
    · exact from3 s hs t hk hkid
    · obtain ⟨h1, h2, h3, h4⟩ := times_of t hg.1 hk
      obtain ⟨_, _, h5⟩ := times_ok t hg.1 hk
      exact from4 s hs t hk (rep_any s hs t hk t.min.toNat (by omega) (by omega) (by omega) h1 (hkid 0 (by omega)))
end Go.Proofs.YthmecbonjkcnmaaGreat.nb

namespace Go.Proofs.YthmecbonjkcnmaaGreat.nb
open Go.ChangeShapes Go.WideShapes Go.ChangeAt Go.RowKit
open st (Tr Q4 nodesOf goods okNode Is Box nthT)
open nf (Ed IRow icells dOf)
open mg (Row iv In IntsV)
set_option linter.unusedVariables false

/-- the places that are marked, one behind the other -/
structure Lst (S : Nat → Prop) (i : Nat) (K : List Int) : Prop where
  up : K.Pairwise (· < ·)
  mem : ∀ u, u ∈ K ↔ ∃ j : Nat, j < i ∧ u = (j : Int) ∧ S j
  len : K.length ≤ i
theorem lst_nil (S : Nat → Prop) : Lst S 0 [] := ⟨List.Pairwise.nil, fun u => ⟨fun h => absurd h (by simp), fun ⟨j, h, _⟩ => by omega⟩, Nat.le_refl _⟩
theorem Lst.yes {S : Nat → Prop} {i : Nat} {K : List Int} (h : Lst S i K) (hs : S i) : Lst S (i + 1) (K ++ [(i : Int)]) := by
  refine ⟨List.pairwise_append.2 ⟨h.up, List.pairwise_singleton _ _, fun a ha b hb => ?_⟩, fun u => ?_, by rw [List.length_append]; have := h.len; simp; omega⟩
  · obtain ⟨j, h1, rfl, _⟩ := (h.mem a).1 ha
    rw [List.mem_singleton] at hb
    subst hb
    omega
  · rw [List.mem_append, h.mem, List.mem_singleton]
    constructor
    · rintro (⟨j, h1, h2, h3⟩ | rfl)
      · exact ⟨j, by omega, h2, h3⟩
      · exact ⟨i, by omega, rfl, hs⟩
    · rintro ⟨j, h1, h2, h3⟩
      by_cases e : j = i
      · subst e; exact .inr h2
      · exact .inl ⟨j, by omega, h2, h3⟩
theorem Lst.no {S : Nat → Prop} {i : Nat} {K : List Int} (h : Lst S i K) (hs : ¬ S i) : Lst S (i + 1) K := by
  refine ⟨h.up, fun u => ?_, Nat.le_succ_of_le h.len⟩
  rw [h.mem]
  constructor
  · rintro ⟨j, h1, h2, h3⟩
    exact ⟨j, by omega, h2, h3⟩
  · rintro ⟨j, h1, h2, h3⟩
    by_cases e : j = i
    · subst e; exact absurd h3 hs
    · exact ⟨j, by omega, h2, h3⟩
theorem owns_later2 {W W' : World} {B : Nat} {v : Value} {l : List Int} (h : nf.Owns W B v l) (b : Below W.heap.size W W') : nf.Owns W' B v l := by
  refine ⟨h.1, ?_⟩
  rcases h.2 with h0 | ⟨g, cap, cur, rfl, hb, hg, hr⟩
  · exact .inl h0
  · exact .inr ⟨g, cap, cur, rfl, hb, (b.block g (Array.getElem?_eq_some_iff.1 hg).1).trans hg, hr⟩
theorem info3b : (Tryz.prog.info? 3).map (fun i => (i.zero, i.size, i.bytes)) = some (some (.int .i64 0), 1, 8) := by kernel_rfl
def REndsIs (s : ByteArray) (t : Tr) (at' : Nat) (L : List Int) : Prop := ∀ (tv : Value) (w : World) (Q0 : Nat → Prop), Is w Q0 t tv → Calls Tryz.prog 50 #[trV t tv, .string s, .int .i64 (at' : Int)] w fun e w' => ∃ v, e = .returned v ∧ IntsV w' v L ∧ Below w.heap.size w w'
set_option maxHeartbeats 4000000 in
set_option maxRecDepth 100000 in
theorem rends_any (s : ByteArray) (hs : s.size ≤ 60) (t : Tr) (hfrom : FromIs s t) (at' : Nat) (hat : at' ≤ s.size) (L : List Int) (hL : Lst (fun j => Tk (txOf s) t at' j) (s.size + 1) L) : REndsIs s t at' L := by
  intro tv w Q0 hI
  obtain ⟨o, n0, cap0, rfl⟩ := hI.shape
  have hm : ∀ W, (Instr.makeSlice 138 (.int .i64 ((s.size : Int) + 1)) (.int .i64 ((s.size : Int) + 1))).run Tryz.prog W = .ok (.slice (some ⟨W.heap.size, 0, none⟩) (s.size + 1) (s.size + 1)) (W.alloc (.cells (icells (List.replicate (s.size + 1) 0)) 3)) := fun W => by
    have := make138 (s.size + 1) (by omega) W
    rw [Int.natCast_add] at this
    exact this
  obtain ⟨w2, HW2⟩ : ∃ w2, Hid (w2 = (w.alloc (.cells #[.int .i64 t.kind, .int .u64 t.set.a, .int .u64 t.set.b, .int .u64 t.set.c, .int .u64 t.set.d, .int .i64 t.min, .int .i64 t.max, .slice o n0 cap0] 29)).alloc (.cells (icells (List.replicate (s.size + 1) 0)) 3)) := ⟨_, rfl⟩
  have HT0 := (show Hid _ from two_new w t _ (s.size + 1) w2 HW2.out)
  have HT1 := (show Hid _ from HT0.out.put at' 1)
  have hw2s : w2.heap.size = w.heap.size + 1 + 1 := by rw [HW2.out]; simp
  have kc := HT0.out.out.cell at' (by simp; omega)
  have kf := HT0.out.out.fz at'
  rw [List.getElem_replicate] at kc
  have HP1 := (show Hid (PlOf (fun j => j = at') (s.size + 1) ((List.replicate (s.size + 1) (0 : Int)).set at' 1)) from ((plOf_none (s.size + 1)).put at' (by omega)).to fun j _ => ⟨fun h => h.elim (fun h => h.elim) id, .inr⟩)
  obtain ⟨w3, HW3⟩ : ∃ w3, Hid (w3 = (w2.setCell ⟨w.heap.size + 1, at', none⟩ (.int .i64 1)).alloc (.cells #[] 3)) := ⟨_, rfl⟩
  have hsz : (w2.setCell ⟨w.heap.size + 1, at', none⟩ (.int .i64 1)).heap.size = w2.heap.size := by simp
  have hb3 : Below (w2.setCell ⟨w.heap.size + 1, at', none⟩ (.int .i64 1)).heap.size (w2.setCell ⟨w.heap.size + 1, at', none⟩ (.int .i64 1)) w3 := by rw [HW3.out]; exact nf.below_alloc _ _
  have HT3 := (show Hid _ from HT1.out.later hb3)
  have hO3 : w3.ownsRow w.heap.size 3 1 (.slice (some ⟨w2.heap.size, 0, none⟩) 0 0) ([] : List Int).length (([] : List Int).map (Value.int .i64)) := ⟨rfl, .inr ⟨w2.heap.size, 0, #[], rfl, by omega, by rw [HW3.out, ← hsz]; exact heap_alloc_new _ _, Nat.le_refl _, by unfold maxLen; omega, rfl, rfl⟩⟩
  have HO3 := (show Hid _ from hO3)
  have c37 := hfrom _ _ _ _ w3 _ HP1.out HT3.out.out (hI.later HT3.out.be)
  have hbx := HT3.out.box
  have HSZ := (show Hid (w2.heap.size = w.heap.size + 1 + 1) from hw2s)
  have HIM := (show Hid (∀ j, Img (s.size + 1) (Tk (txOf s) t) (fun i => i = at') j ↔ Tk (txOf s) t at' j) from fun j => ⟨fun ⟨k, h1, h2, h3⟩ => by subst h2; exact h3, fun h => ⟨at', by omega, rfl, h⟩⟩)
  have hai : (at' : Int) < (s.size : Int) + 1 := by omega
  have HLL := (show Hid _ from hL)
  have hlt3 : w2.heap.size < w3.heap.size := by have := hb3.size; have h1 := (Array.getElem?_eq_some_iff.1 (show w3.heap[w2.heap.size]? = some _ from by rw [HW3.out, ← hsz]; exact heap_alloc_new _ (.cells #[] 3))).1; exact h1
  clear hI hfrom hL hw2s hO3 hb3
  rw [HW2.out] at kc kf
  unfold trV
  go_enter Tryz.func50, Tryz.ntmps50
  have hbx' : ((((w.alloc (.cells #[.int .i64 t.kind, .int .u64 t.set.a, .int .u64 t.set.b, .int .u64 t.set.c, .int .u64 t.set.d, .int .i64 t.min, .int .i64 t.max, .slice o n0 cap0] 29)).alloc (.cells (icells (List.replicate (s.size + 1) 0)) 3)).setCell ⟨w.heap.size + 1, at', none⟩ (.int .i64 1)).alloc (.cells #[] 3)).heap[w.heap.size]? = some (.cells #[.int .i64 t.kind, .int .u64 t.set.a, .int .u64 t.set.b, .int .u64 t.set.c, .int .u64 t.set.d, .int .i64 t.min, .int .i64 t.max, .slice o n0 cap0] 29 (0, 0)) := by
    rw [← HW2.out, ← HW3.out]; exact hbx
  unfold trV at c37
  have HWW := (show Hid ((((w.alloc (.cells #[.int .i64 t.kind, .int .u64 t.set.a, .int .u64 t.set.b, .int .u64 t.set.c, .int .u64 t.set.d, .int .i64 t.min, .int .i64 t.max, .slice o n0 cap0] 29)).alloc (.cells ((icells (List.replicate (s.size + 1) 0)).setIfInBounds at' (.int .i64 1)) 3)).alloc (.cells #[] 3)) = w3) from by rw [HW3.out, HW2.out]; rw [World.setCell_alloc_at _ _ _ _ _ (World.size_alloc ..).symm]; exact rfl)
  go_wp2_with (first | (refine wpList_load_row rfl 29 (.tmp 3) rfl w.heap.size rfl 29 _ (0, 0) _ hbx' Tryz.underlying29 rfl info29 ?_) | (go_at_call 77; rw [HWW.out]; refine c37.mono ?_; rintro e w4 ⟨g4, Q4, rfl, hg4, hr4, hp4, b4⟩))
  have HB4 := (show Hid (Below w.heap.size w w4) from nf.chain HT3.out.be b4)
  rw [HSZ.out] at HO3 hlt3
  have HO4 := (show Hid (nf.Owns w4 w.heap.size (.slice (some ⟨w.heap.size + 1 + 1, 0, none⟩) 0 0) []) from owns_later2 HO3.out b4)
  have HR4 := (show Hid (IRow w4 g4 Q4) from hr4)
  have HP4 := (show Hid (PlOf (fun j => Tk (txOf s) t at' j) (s.size + 1) Q4) from hp4.to fun j _ => HIM.out j)
  have hq4 : Q4.length = s.size + 1 := hp4.len
  have HG4 := (show Hid (some g4 ≠ (Value.slice (some ⟨w.heap.size + 1 + 1, 0, none⟩) 0 0).ownBlock) from fun e => by
    have e2 : g4 = w.heap.size + 1 + 1 := Option.some.inj e
    omega)
  clear hr4 hp4 b4 HIM HO3 hbx' HWW hbx HT0 HT1 HT3 HP1 kc kf HW3 HW2 hsz hlt3 HSZ hg4 hm
  go_loopw [8, 24] (fun y x wr => ∃ (i : Nat) (K : List Int) (gy : Option Addr) (cy : Nat), y = .slice gy K.length cy ∧ x = .int .i64 i ∧ i ≤ s.size + 1 ∧ Hid (Lst (fun j => Tk (txOf s) t at' j) i K) ∧ Hid (nf.Owns wr w.heap.size (.slice gy K.length cy) K) ∧ Hid (Below w.heap.size w wr) ∧ Hid (IRow wr g4 Q4) ∧ Hid (some g4 ≠ (Value.slice gy K.length cy).ownBlock)) (fun _ x _ => s.size + 1 - (intOf x).toNat)
  case atStart => exact ⟨0, [], _, 0, rfl, rfl, by omega, lst_nil _, HO4, HB4, HR4, HG4⟩
  case round =>
    obtain ⟨i, K, gy, cy, rfl, rfl, hi, HL, HO, HB, HR, HG⟩ := hrel
    clear HO4 HB4 HR4 HG4
    by_cases hend : i < s.size + 1
    · have hiq : i < Q4.length := by omega
      have hc := HR.out.cell i hiq
      have hln := HL.out.len
      have hsz := HB.out.size
      have hii : (i : Int) < (s.size : Int) + 1 := by omega
      rcases HP4.out.bit i hiq with ⟨hb, hS⟩ | ⟨hb, hS⟩
      · rw [hb] at hc
        have HL1 := (show Hid _ from HL.out.yes hS)
        clear hb hS
        go_wp2_with (at_builtin; refine nf.wpList_append_at rfl (.tmp 31) (.tmp 33) rfl w.heap.size _ K (i : Int) _ rfl rfl (owns_later2 HO.out (nf.below_alloc _ _)) (nf.tmp_cell _ _ _ rfl) (by omega) (by simp; omega) ?_; intro g' cap' w5 hown5 hgr5 hw5)
        have hR5 : IRow w5 g4 Q4 := (HR.out.alloc _).keep (hgr5.block g4 (HR.out.alloc _).lt HG.out)
        have hne : some g4 ≠ some g' := fun e => by
          rcases hw5 with h | h
          · exact HG.out (e.trans h)
          · have e2 := Option.some.inj e
            have := HR.out.lt
            simp at h
            omega
        go_roundw
        case rel => exact ⟨i + 1, K ++ [(i : Int)], some ⟨g', 0, none⟩, cap', by simp, by go_num, by omega, HL1, (show nf.Owns _ _ _ _ from by simpa using hown5), (HB.out.alloc hsz _).grown hgr5 (by simp; omega) (nf.own_ge HO.out), hR5, hne⟩
        case measure => simp [intOf]; omega
      · rw [hb] at hc
        have HL1 := (show Hid _ from HL.out.no hS)
        clear hb hS
        go_wp2_with (fail)
        go_roundw
        case rel => exact ⟨i + 1, K, gy, cy, rfl, by go_num, by omega, HL1, HO, HB, HR, HG⟩
        case measure => simp [intOf]; omega
    · have he : i = s.size + 1 := by omega
      subst he
      go_wp2_with (fail)
      go_ret
      have hKL : K = L := nf.up_eq K L HL.out.up HLL.out.up fun u => (HL.out.mem u).trans (HLL.out.mem u).symm
      exact ⟨_, rfl, by rw [← hKL]; exact mg.RowV.own HO.out, HB.out⟩
end Go.Proofs.YthmecbonjkcnmaaGreat.nb
