/-
  Contracts over this program: a class, as the document's reader reads it (fretsawref06's P: class).
-/
import Derived.Test.YtjfnefmolhihaaaQj
import Derived.Lib.QuietBelow
import Derived.BigQuiet
namespace Go.Proofs.Ytjfnefmolhihaaa.st
open Go.Sort Go.ChangeShapes Go.WideShapes Go.ChangeAt Go.RowKit
set_option linter.unusedVariables false

def OutC (res : R Q4) (u : ByteArray) (g o a i : Nat) (w : World) (e : Ending) (w' : World) : Prop :=
  (∃ q i', res = .ok q (suf u i') ∧ i ≤ i' ∧ i' ≤ u.size ∧ e = .returned (nodeV q) ∧ Pb w' g u i' o 0 a ∧ w.grownBy w' (some g)) ∨
  (∃ er s q i', er ≠ 0 ∧ res = .bad er (suf u s) ∧ s ≤ u.size ∧ i ≤ i' ∧ i' ≤ u.size ∧ e = .returned (nodeV q) ∧ Pb w' g u i' o er s ∧ w.grownBy w' (some g))

theorem below_drewN (w : World) (n : Nat) : RowKit.Below w.heap.size w (w.drewN n) := ⟨rfl, rfl, rfl, Nat.le_refl _, fun _ _ => rfl⟩
def NowB (u : ByteArray) (i o a : Nat) (c : Int) : Prop := ∀ g w, Pb w g u i o 0 a → Calls Try.prog 30 #[.pointer (some ⟨g, 0, none⟩)] w fun e w' => e = .returned (.int .i64 c) ∧ RowKit.Below w.heap.size w w'
set_option maxHeartbeats 1000000 in
set_option maxRecDepth 100000 in
theorem now_below (u : ByteArray) (i o a : Nat) (hu : u.size ≤ 1000) (hi : i ≤ u.size) (c : Int) (hc : c = hd (suf u i)) : NowB u i o a c := by
  intro g w h
  have c0 := h.c0
  have c1 := h.c1
  have c3 := h.c3
  by_cases hin : i < u.size
  · rw [suf_in u i hin] at hc
    replace hc : c = (u[i].toNat : Int) := hc
    subst hc
    have hle : decide (u.size ≤ i) = false := by simpa using hin
    have hlt : u[i].toNat < 256 := u[i].toNat_lt
    go_enter Try.func30, Try.ntmps30
    go_wp2_with (fail)
    go_quiet (fail)
    go_wp2_with (fail)
    go_quiet (fail)
    go_wp2_with (fail)
    go_ret
    exact ⟨rfl, (below_drewN _ _).trans ((below_drewN _ _).mono (below_drewN _ _).size)⟩
  · rw [suf_out u i (by omega)] at hc
    replace hc : c = -1 := hc
    subst hc
    have hle : decide (u.size ≤ i) = true := by simp; omega
    go_enter Try.func30, Try.ntmps30
    go_wp2_with (fail)
    go_quiet (fail)
    go_wp2_with (fail)
    go_ret
    exact ⟨rfl, below_drewN _ _⟩
theorem Cst.away {w V V' : World} {u : ByteArray} {g j o b a gA k : Nat} {q : Q4} (h : Cst w V u g j o b a gA q) (t : V.grownBy V' (some k)) (h1 : g ≠ k) (h2 : gA ≠ k) (h3 : w.heap.size ≠ k) (h4 : w.heap.size ≤ k) : Cst w V' u g j o b a gA q :=
  ⟨h.pb.other t h1, h.set.other t h2, Box.keep h.zero t h3, touch_over h.t t h4⟩

/-- the world and the cells that a drawn region of class reads -/
def CSt (w : World) (u : ByteArray) (g j o a gA : Nat) (q : Q4) (V : World) : Prop := V.cell? ⟨g, 0, none⟩ = some (.string u) ∧ V.cell? ⟨g, 1, none⟩ = some (.int .i64 j) ∧ Cst w V u g j o 0 a gA q
theorem CSt.pb {w V : World} {u : ByteArray} {g j o a gA : Nat} {q : Q4} (h : V.cell? ⟨g, 0, none⟩ = some (.string u) ∧ V.cell? ⟨g, 1, none⟩ = some (.int .i64 j) ∧ Cst w V u g j o 0 a gA q) : Pb V g u j o 0 a := h.2.2.pb
theorem CSt.next {w V V' : World} {u : ByteArray} {g j o a gA : Nat} {q : Q4} (h : V.cell? ⟨g, 0, none⟩ = some (.string u) ∧ V.cell? ⟨g, 1, none⟩ = some (.int .i64 j) ∧ Cst w V u g j o 0 a gA q) (hg : g < w.heap.size) (hA : w.heap.size < gA) (pb : Pb V' g u j o 0 a) (t : V.grownBy V' (some g)) :
    V'.cell? ⟨g, 0, none⟩ = some (.string u) ∧ V'.cell? ⟨g, 1, none⟩ = some (.int .i64 j) ∧ Cst w V' u g j o 0 a gA q := ⟨pb.c0, pb.c1, h.2.2.call hg hA pb t⟩

set_option maxHeartbeats 8000000 in
set_option maxRecDepth 100000 in
theorem class_walk (u : ByteArray) (hu : u.size ≤ 512) (i j0 o a : Nat) (nb : Bool) (hi : i ≤ j0) (hj0 : j0 ≤ u.size) (t0 : Mv 24 [.int .u8 94] u i o 0 a (.bool nb) j0 0 a) (res : R Q4)
    (hres : res = (part (suf u j0)).then fun q l1 => (parts (l1.length + 1) q l1).then fun q l2 => .ok (if nb then nt q else q) l2) :
    ∀ g w, Pb w g u i o 0 a → Calls Try.prog 44 #[.pointer (some ⟨g, 0, none⟩)] w (OutC res u g o a i w) := by
  intro g w h
  have hg := h.lt
  have HR : Hid (res = (part (suf u j0)).then fun q l1 => (parts (l1.length + 1) q l1).then fun q l2 => .ok (if nb then nt q else q) l2) := hres
  clear hres
  have h0 := fun o => h.later (below_alloc w o)
  have z0 := box_new w Tr.zero (.slice none 0 0)
  unfold Mv at t0
  go_enter Try.func44, Try.ntmps44
  go_wp2_with (first | (go_at_call 24; refine (t0 _ _ (h0 _)).mono ?_; rintro e w1 ⟨rfl, h1, t1⟩))
  have z1 := Box.keep z0 t1 (by omega)
  obtain ⟨gA, hgA⟩ : ∃ gA, gA = w1.heap.size := ⟨_, rfl⟩
  have hA : w.heap.size < gA := by rw [hgA]; exact z1.lt
  obtain ⟨X, hX⟩ : ∃ X, X = w1.alloc (.cells #[.int .u64 0, .int .u64 0, .int .u64 0, .int .u64 0] 25) := ⟨_, rfl⟩
  have cst0 : Cst w X u g j0 o 0 a gA none4 := by
    rw [hX, hgA]
    exact ⟨h1.later (below_alloc _ _), sp.blk_new w1 none4, z1.below (below_alloc _ _), touch_trans (touch_trans (touch_alloc (touch_refl _ _) _) t1) (touch_below _ (below_alloc _ _))⟩
  rw [← hX, ← hgA]
  clear hX hgA z1 h1 t1 z0 h0 t0 h
  go_loopw [5] (fun m wr => ∃ (k : Nat) (q : Q4) (j b at_ : Nat), m = .int .i64 k ∧ Cst w wr u g j o b at_ gA q ∧ Fits q ∧ i ≤ j ∧ j ≤ u.size ∧ (b = 0 → k ≤ j) ∧ k ≤ j + 1 ∧ Hid (ClsRel u a j0 (fun q l2 => .ok (if nb then nt q else q) l2) res k q j b at_)) (fun _ wr => left u.size wr g)
  case atStart => exact ⟨0, none4, j0, 0, a, rfl, cst0, fits_none, hi, hj0, fun _ => by omega, by omega, .inl ⟨rfl, rfl, .inl ⟨rfl, rfl, rfl⟩⟩⟩
  case round =>
    obtain ⟨k, q, j, b, at_, rfl, cst, hq, hij, hju, hkb, hkj, HI⟩ := hrel
    clear cst0
    have hk1 : k ≤ 1000 := by omega
    have hw := cst.pb.pl
    have hw2 := cst.pb.bd
    have HL : Hid (left u.size wr g = 2 * (u.size - j) + (if b = 0 then 1 else 0)) := by show _ = _; unfold left; rw [hw, hw2]
    clear hw hw2
    by_cases hb : b = 0
    · subst hb
      have hkj2 := hkb rfl
      obtain rfl : a = at_ := by rcases HI.out with ⟨_, h, _⟩ | ⟨h, _⟩; exact h.symm; exact absurd rfl h
      by_cases hex : 0 < k ∧ sees [93] (suf u j) = true
      · obtain ⟨hk0, hs⟩ := hex
        have hin := sees_lt hs
        have hne : ((k : Int) == 0) = false := by rw [beq_eq_false_iff_ne]; omega
        have hok : res = .ok (if nb then nt q else q) (suf u (j + 1)) := by
          rcases HI.out with ⟨_, _, ⟨h, _⟩ | ⟨_, n, hn, hr⟩⟩ | ⟨h, _⟩
          · omega
          · obtain ⟨n, rfl⟩ : ∃ m, n = m + 1 := ⟨n - 1, by omega⟩
            rw [hr, parts, hs, if_pos rfl, suf_tail u j hin]
            rfl
          · exact absurd rfl h
        have n0 := now_any u j o a (by omega) hju _ rfl
        have h93 : hd (suf u j) = 93 := by have := sees_one (suf u j) 93; rw [hs] at this; simpa using this
        rw [h93] at n0
        have md := must_yes u j o a (by omega) hju 93 (by decide) hs
        have nq := sp.rnot_any q (nt q) hq rfl
        have c3 := cst.pb.c3
        unfold Mv at md n0
        unfold sp.RNotIs at nq
        clear HI HL HR hkb hkj h93 hs
        cases nb with
        | false =>
          go_wp2_with (first | (go_at_call 40; refine (md _ _ cst.pb).mono ?_; rintro e w1 ⟨rfl, h1, t1⟩; replace cst := cst.call hg hA h1 t1; clear h1 t1; obtain ⟨a0, a1, a2, a3, e0, e1, e2, e3⟩ := sp8 cst.set; obtain ⟨⟨d0, d1, d2, d3, d4, d5, d6, d7⟩, f0, f1, f2, f3, f4, f5, f6, f7⟩ := b8 cst.zero) | (go_at_call 30; refine (n0 _ _ cst.pb).mono ?_; rintro e w1 ⟨rfl, h1, t1⟩; replace cst := cst.call hg hA h1 t1; clear h1 t1))
          refine ret28 Try.results44 w.heap.size (.node 1 q 0 0 []) (.slice none 0 0) rfl (box_set cst.zero (.node 1 q 0 0 []) _) rfl ?_
          exact .inl ⟨q, j + 1, hok, by omega, hin, rfl, cst.pb.other (touch_set8 _ _ (.node 1 q 0 0 []) _) (by omega), touch_over cst.t (touch_set8 _ _ (.node 1 q 0 0 []) _) (Nat.le_refl _)⟩
        | true =>
          go_wp2_with (first | (go_at_call 40; refine (md _ _ cst.pb).mono ?_; rintro e w1 ⟨rfl, h1, t1⟩; replace cst := cst.call hg hA h1 t1; clear h1 t1; obtain ⟨a0, a1, a2, a3, e0, e1, e2, e3⟩ := sp8 cst.set; obtain ⟨⟨d0, d1, d2, d3, d4, d5, d6, d7⟩, f0, f1, f2, f3, f4, f5, f6, f7⟩ := b8 cst.zero) | (go_at_call 45; (with_reducible refine (nq _).mono ?_); rintro e w2 ⟨rfl, b2⟩; replace cst := cst.later b2; obtain ⟨a0, a1, a2, a3, e0, e1, e2, e3⟩ := sp8 cst.set; replace cst := cst.put hg hA (nt q); obtain ⟨y0, y1, y2, y3, x0, x1, x2, x3⟩ := sp8 cst.set; obtain ⟨⟨d0, d1, d2, d3, d4, d5, d6, d7⟩, f0, f1, f2, f3, f4, f5, f6, f7⟩ := b8 cst.zero) | (go_at_call 30; refine (n0 _ _ cst.pb).mono ?_; rintro e w1 ⟨rfl, h1, t1⟩; replace cst := cst.call hg hA h1 t1; clear h1 t1))
          refine ret28 Try.results44 w.heap.size (.node 1 (nt q) 0 0 []) (.slice none 0 0) rfl (box_set cst.zero (.node 1 (nt q) 0 0 []) _) rfl ?_
          exact .inl ⟨nt q, j + 1, hok, by omega, hin, rfl, cst.pb.other (touch_set8 _ _ (.node 1 (nt q) 0 0 []) _) (by omega), touch_over cst.t (touch_set8 _ _ (.node 1 (nt q) 0 0 []) _) (Nat.le_refl _)⟩
      · have hno : k = 0 ∨ sees [93] (suf u j) = false := by
          by_cases h0 : k = 0
          · exact .inl h0
          · right
            cases hs : sees [93] (suf u j) with
            | false => rfl
            | true => exact absurd ⟨by omega, hs⟩ hex
        clear hex
        have n0 := now_any u j o a (by omega) hju _ rfl
        cases hs92 : sees [92] (suf u j) with
        | false =>
          have nb0 := now_below u j o a (by omega) hju _ rfl
          have f92 : (hd (suf u j) == 92) = false := by have := sees_one (suf u j) 92; rw [hs92] at this; exact this
          have hkn : kind (suf u j) = none := by
            by_cases hin : j < u.size
            · rw [suf_in u j hin] at hs92 ⊢
              have h1 : u[j].toNat ≠ 92 := by have := of_decide_eq_false hs92; simpa using this
              cases suf u (j + 1) <;> simp [kind, h1]
            · rw [suf_out u j (by omega)]; rfl
          clear hs92
          unfold Mv at n0
          have c3 := cst.pb.c3
          go_upto_region 4 with fail
          go_cut [27] (fun s27 wx => s27 = .bool true ∧ Cst w wx u g j o 0 a gA q)
          case first =>
            rcases Nat.eq_zero_or_pos k with rfl | hk0
            · go_wp2_with (first | (go_at_call 30; refine (n0 _ _ cst.pb).mono ?_; rintro e w1 ⟨rfl, h1, t1⟩; replace cst := cst.call hg hA h1 t1; clear h1 t1))
              go_meet
              exact ⟨rfl, cst⟩
            · have hne : ((k : Int) == 0) = false := by rw [beq_eq_false_iff_ne]; omega
              have hn93 : (hd (suf u j) != 93) = true := by
                have h9 : sees [93] (suf u j) = false := by rcases hno with h | h; omega; exact h
                have h8 : (hd (suf u j) == 93) = false := by have := sees_one (suf u j) 93; rw [h9] at this; exact this
                rw [bne, h8]; rfl
              go_wp2_with (first | (go_at_call 30; refine (n0 _ _ cst.pb).mono ?_; rintro e w1 ⟨rfl, h1, t1⟩; replace cst := cst.call hg hA h1 t1; clear h1 t1))
              go_meet
              exact ⟨rfl, cst⟩
          case rest =>
          clear cst c3
          obtain ⟨rfl, cst⟩ := hcut
          obtain ⟨W4, hW4⟩ : ∃ W4 : World, W4 = wc := ⟨_, rfl⟩
          rw [← hW4] at cst
          rw [← hW4]
          clear hW4 wc
          go_wp2_with (fail)
          have g30 := fun d os => Calls.regrown_of (nb0 g _ (cst.pb.later (below_regrown W4 d os)))
          have k0 := cell_regrown cst.pb.c0
          have k1 := cell_regrown cst.pb.c1
          refine wp_region_quiet_below (by kernel_rfl) (by kernel_rfl) ?_
          repeat (go_big_quiet_step (with_reducible exact g30 _ _))
          refine wpQuiet_nil ?_
          intro _ hw'
          obtain ⟨⟨dq, osq⟩, hw'9⟩ := hw'
          subst hw'9
          have b9 := below_regrown W4 dq osq
          generalize grow (redrawn W4 dq) osq = w9 at *
          replace cst := cst.later b9
          clear k0 k1 g30 b9
          rcases part_steps u j o a (by omega) hju hkn with ⟨lo, j1, b1, a1, hlo, m1, tk, F⟩ | ⟨lo, j1, hi_, j3, b3, a3, hlo, hhi, hj1_, m1, tk, m2, ⟨hlt, b4, a4, ms, F⟩ | ⟨hge, F⟩⟩
          · have HN : Hid (ClsRel u a j0 (fun q l2 => .ok (if nb then nt q else q) l2) res (k + 1) (jn q (rng lo lo)) j1 b1 a1) := cls_fin HR.out HI.out hno F
            have rg := sp.rrange_any lo lo (by omega) (by omega) (rng lo lo) rfl
            have jq := sp.rjoin_any q (rng lo lo) (jn q (rng lo lo)) hq (fits_rng _ _) rfl
            have c3 := cst.pb.c3
            unfold Mv at m1 tk
            unfold sp.RRangeIs at rg
            unfold sp.RJoinIs at jq
            clear hno HI hkn
            go_wp2_with (first | (go_at_call 56; refine (m1 _ _ cst.pb).mono ?_; rintro e w1 ⟨rfl, h1, t1⟩; replace cst := cst.call hg hA h1 t1; clear h1 t1) | (go_at_call 24; refine (tk _ _ cst.pb).mono ?_; rintro e w1 ⟨rfl, h1, t1⟩; replace cst := cst.call hg hA h1 t1; clear h1 t1))
            obtain ⟨v0_, v1_, v2_, v3_, x0_, x1_, x2_, x3_⟩ := sp8 cst.set
            replace cst := cst.drew
            go_region_with (first | (go_at_call 57; (with_reducible refine (rg _).mono ?_); rintro e w7 ⟨rfl, b7⟩; replace cst := cst.later b7; obtain ⟨v0_, v1_, v2_, v3_, x0_, x1_, x2_, x3_⟩ := sp8 cst.set) | (go_at_call 55; (with_reducible refine (jq _).mono ?_); rintro e w8 ⟨rfl, b8⟩; replace cst := cst.later b8; obtain ⟨v0_, v1_, v2_, v3_, x0_, x1_, x2_, x3_⟩ := sp8 cst.set))
            all_goals (try go_wp2_with fail)
            all_goals (
              replace cst := cst.put hg hA (jn q (rng lo lo))
              go_roundw
              case rel => exact ⟨k + 1, _, j1, b1, a1, by go_num, cst, fits_jn hq (fits_rng _ _), by have := F.1; omega, F.2.1, fun h => by have := F.less h; omega, by have := F.1; omega, HN⟩
              case measure => exact left_less HL.out cst.pb F.1 F.2.1 F.less)
          · obtain ⟨jj, hjj⟩ : ∃ jj, jj = j1 + 1 := ⟨_, rfl⟩
            rw [← hjj] at tk m2 ms
            clear hjj
            have HN : Hid (ClsRel u a j0 (fun q l2 => .ok (if nb then nt q else q) l2) res (k + 1) (jn q (rng lo hi_)) j3 b4 a4) := cls_fin HR.out HI.out hno F
            have rg := sp.rrange_any lo hi_ (by omega) (by omega) (rng lo hi_) rfl
            have jq := sp.rjoin_any q (rng lo hi_) (jn q (rng lo hi_)) hq (fits_rng _ _) rfl
            have c3 := cst.pb.c3
            unfold Mv at m1 tk m2 ms
            unfold sp.RRangeIs at rg
            unfold sp.RJoinIs at jq
            have hcmp : decide (hi_ < lo) = true := by simpa using hlt
            clear hno HI hkn
            go_wp2_with (first | (go_at_call 56; refine (m1 _ _ cst.pb).mono ?_; rintro e w1 ⟨rfl, h1, t1⟩; replace cst := cst.call hg hA h1 t1; clear h1 t1) | (go_at_call 24; refine (tk _ _ cst.pb).mono ?_; rintro e w1 ⟨rfl, h1, t1⟩; replace cst := cst.call hg hA h1 t1; clear h1 t1; have c1 := cst.pb.c1) | (go_at_call 56; refine (m2 _ _ cst.pb).mono ?_; rintro e w1 ⟨rfl, h1, t1⟩; replace cst := cst.call hg hA h1 t1; clear h1 t1) | (go_at_call 14; refine (ms _ _ cst.pb).mono ?_; rintro e w1 ⟨rfl, h1, t1⟩; replace cst := cst.call hg hA h1 t1; clear h1 t1))
            obtain ⟨v0_, v1_, v2_, v3_, x0_, x1_, x2_, x3_⟩ := sp8 cst.set
            replace cst := cst.drew
            go_region_with (first | (go_at_call 57; (with_reducible refine (rg _).mono ?_); rintro e w7 ⟨rfl, b7⟩; replace cst := cst.later b7; obtain ⟨v0_, v1_, v2_, v3_, x0_, x1_, x2_, x3_⟩ := sp8 cst.set) | (go_at_call 55; (with_reducible refine (jq _).mono ?_); rintro e w8 ⟨rfl, b8⟩; replace cst := cst.later b8; obtain ⟨v0_, v1_, v2_, v3_, x0_, x1_, x2_, x3_⟩ := sp8 cst.set))
            all_goals (try go_wp2_with fail)
            all_goals (
              replace cst := cst.put hg hA (jn q (rng lo hi_))
              go_roundw
              case rel => exact ⟨k + 1, _, j3, b4, a4, by go_num, cst, fits_jn hq (fits_rng _ _), by have := F.1; omega, F.2.1, fun h => by have := F.less h; omega, by have := F.1; omega, HN⟩
              case measure => exact left_less HL.out cst.pb F.1 F.2.1 F.less)
          · obtain ⟨jj, hjj⟩ : ∃ jj, jj = j1 + 1 := ⟨_, rfl⟩
            rw [← hjj] at tk m2
            clear hjj
            have HN : Hid (ClsRel u a j0 (fun q l2 => .ok (if nb then nt q else q) l2) res (k + 1) (jn q (rng lo hi_)) j3 b3 a3) := cls_fin HR.out HI.out hno F
            have rg := sp.rrange_any lo hi_ (by omega) (by omega) (rng lo hi_) rfl
            have jq := sp.rjoin_any q (rng lo hi_) (jn q (rng lo hi_)) hq (fits_rng _ _) rfl
            have c3 := cst.pb.c3
            unfold Mv at m1 tk m2
            unfold sp.RRangeIs at rg
            unfold sp.RJoinIs at jq
            have hcmp : decide (hi_ < lo) = false := by simpa using hge
            clear hno HI hkn
            go_wp2_with (first | (go_at_call 56; refine (m1 _ _ cst.pb).mono ?_; rintro e w1 ⟨rfl, h1, t1⟩; replace cst := cst.call hg hA h1 t1; clear h1 t1) | (go_at_call 24; refine (tk _ _ cst.pb).mono ?_; rintro e w1 ⟨rfl, h1, t1⟩; replace cst := cst.call hg hA h1 t1; clear h1 t1; have c1 := cst.pb.c1) | (go_at_call 56; refine (m2 _ _ cst.pb).mono ?_; rintro e w1 ⟨rfl, h1, t1⟩; replace cst := cst.call hg hA h1 t1; clear h1 t1))
            obtain ⟨v0_, v1_, v2_, v3_, x0_, x1_, x2_, x3_⟩ := sp8 cst.set
            replace cst := cst.drew
            go_region_with (first | (go_at_call 57; (with_reducible refine (rg _).mono ?_); rintro e w7 ⟨rfl, b7⟩; replace cst := cst.later b7; obtain ⟨v0_, v1_, v2_, v3_, x0_, x1_, x2_, x3_⟩ := sp8 cst.set) | (go_at_call 55; (with_reducible refine (jq _).mono ?_); rintro e w8 ⟨rfl, b8⟩; replace cst := cst.later b8; obtain ⟨v0_, v1_, v2_, v3_, x0_, x1_, x2_, x3_⟩ := sp8 cst.set))
            all_goals (try go_wp2_with fail)
            all_goals (
              replace cst := cst.put hg hA (jn q (rng lo hi_))
              go_roundw
              case rel => exact ⟨k + 1, _, j3, b3, a3, by go_num, cst, fits_jn hq (fits_rng _ _), by have := F.1; omega, F.2.1, fun h => by have := F.less h; omega, by have := F.1; omega, HN⟩
              case measure => exact left_less HL.out cst.pb F.1 F.2.1 F.less)
        | true =>
          have hin := sees_lt hs92
          have h92 : hd (suf u j) = 92 := by have := sees_one (suf u j) 92; rw [hs92] at this; simpa using this
          have nb0 := now_below u j o a (by omega) hju _ rfl
          rw [h92] at n0 nb0
          have hc92 : u[j].toNat = 92 := by have := sees_head hin hs92; simpa using this
          clear hs92 h92
          by_cases hj1 : j + 1 < u.size
          · obtain ⟨p1, ep⟩ : ∃ p1, p1 = j + 1 := ⟨_, rfl⟩
            have hend : p1 < u.size := by omega
            have hs1 : (j : Int) + 1 = (p1 : Int) := by omega
            have hw1 : IntKind.i64.wrap (p1 : Int) = (p1 : Int) := IntWalk.i64_in _ ⟨by omega, by omega⟩
            have hcl : u[p1].toNat < 256 := u[p1].toNat_lt
            have hwc : IntKind.i64.wrap (u[p1].toNat : Int) = (u[p1].toNat : Int) := IntWalk.i64_in _ ⟨by omega, by omega⟩
            have hf1 : decide (p1 < u.size) = true := by simpa using hend
            have hsp : suf u (j + 1) = u[p1].toNat :: suf u (j + 2) := by subst ep; exact suf_in u (j + 1) hj1
            rcases knd_nat u[p1].toNat with ⟨qk, hk1, hqf, kn⟩ | ⟨hk1, kn⟩
            · have hpart : part (suf u j) = .ok qk (suf u (j + 2)) := by
                unfold part
                rw [suf_in u j hin, hsp, hc92]
                simp [kind, hk1]
              unfold KndIs at kn
              clear hc92 hk1 hsp ep
              have HN : Hid (ClsRel u a j0 (fun q l2 => .ok (if nb then nt q else q) l2) res (k + 1) (jn q qk) (j + 2) 0 a) := cls_ok HR.out hqf HI.out hno (by omega) hj1 hpart
              have jq := sp.rjoin_any q qk (jn q qk) hq hqf rfl
              unfold sp.RJoinIs at jq
              unfold Mv at n0
              obtain ⟨jj, hjj⟩ : ∃ jj, jj = j + 2 := ⟨_, rfl⟩
              have HJ : Hid (jj = j + 2) := hjj
              rw [← hjj] at HN
              have hjl : jj ≤ u.size ∧ j < jj := by omega
              clear hjj hpart
              have c3 := cst.pb.c3
              go_upto_region 4 with fail
              go_cut [27] (fun s27 wx => s27 = .bool true ∧ Cst w wx u g j o 0 a gA q)
              case first =>
                rcases Nat.eq_zero_or_pos k with rfl | hk0
                · go_wp2_with (first | (go_at_call 30; refine (n0 _ _ cst.pb).mono ?_; rintro e w1 ⟨rfl, h1, t1⟩; replace cst := cst.call hg hA h1 t1; clear h1 t1))
                  go_meet
                  exact ⟨rfl, cst⟩
                · have hne : ((k : Int) == 0) = false := by rw [beq_eq_false_iff_ne]; omega
                  go_wp2_with (first | (go_at_call 30; refine (n0 _ _ cst.pb).mono ?_; rintro e w1 ⟨rfl, h1, t1⟩; replace cst := cst.call hg hA h1 t1; clear h1 t1))
                  go_meet
                  exact ⟨rfl, cst⟩
              case rest =>
              clear cst c3
              obtain ⟨rfl, cst⟩ := hcut
              obtain ⟨W4, hW4⟩ : ∃ W4 : World, W4 = wc := ⟨_, rfl⟩
              rw [← hW4] at cst
              rw [← hW4]
              clear hW4 wc
              go_wp2_with (fail)
              have g30 := fun d os => Calls.regrown_of (nb0 g _ (cst.pb.later (below_regrown W4 d os)))
              have k0 := cell_regrown cst.pb.c0
              have k1 := cell_regrown cst.pb.c1
              refine wp_region_quiet_below (by kernel_rfl) (by kernel_rfl) ?_
              repeat (go_big_quiet_step (with_reducible exact g30 _ _))
              refine wpQuiet_nil ?_
              intro _ hw'
              obtain ⟨⟨dq, osq⟩, hw'9⟩ := hw'
              subst hw'9
              have b9 := below_regrown W4 dq osq
              generalize grow (redrawn W4 dq) osq = w9 at *
              replace cst := cst.later b9
              clear k0 k1 g30 b9
              go_wp2_with (fail)
              have c0 := cst.pb.c0
              have c1 := cst.pb.c1
              have hgV := cst.pb.lt
              have zz : True := trivial
              obtain ⟨Y, hY⟩ : ∃ Y, Y = w9 := ⟨_, rfl⟩
              replace cst := cst.drew
              go_cut [6, 7] (fun s6 s7 wx => ∃ gK, s6 = .pointer (some ⟨gK, 0, none⟩) ∧ s7 = .bool true ∧ sp.Blk wx gK qk ∧ gK ≠ gA ∧ gK ≠ g ∧ Cst w wx u g j o 0 a gA q)
              case first =>
                have hAV : gA < w9.heap.size := cst.set.lt
                have hzV : w.heap.size < w9.heap.size := cst.zero.lt
                go_region_with (first | (go_at_call 47; (with_reducible refine (kn _).mono ?_); rintro e w7 ⟨rfl, b7⟩; (first | replace cst := cst.later b7 | replace cst := (cst.later (below_alloc _ _)).later b7); have hA7 := cst.set.lt; have hg7 := cst.pb.lt; have hz7 := cst.zero.lt; (try replace zz := (sp.blk_new _ none4).later b7); (try replace zz : sp.Blk _ w9.heap.size none4 := (show sp.Blk (w9.alloc (.cells #[.int .u64 0, .int .u64 0, .int .u64 0, .int .u64 0] 25)).drew w9.heap.size none4 from sp.blk_new w9 none4).later b7); (try (have mm := sp8 zz; obtain ⟨m0, m1_, m2_, m3_, n0_, n1_, n2_, n3_⟩ := mm))))
                all_goals go_wp2_with fail
                all_goals go_meet
                all_goals first | (with_reducible refine ⟨_, rfl, rfl, sp.blk_new _ qk, by omega, by omega, cst.later (below_alloc _ _)⟩) | (refine ⟨_, rfl, rfl, sp.set4 zz qk, by omega, by omega, cst.away (touch_set4 _ _ qk) (by omega) (by omega) (by omega) (by omega)⟩)
              case rest =>
                clear c0 c1 hgV zz hY cst
                obtain ⟨gK, rfl, rfl, kK, hKA, hKg, cst⟩ := hcut
                have c1 := cst.pb.c1
                have f1 := cst.pb.fz 1
                have cst2 : Cst w (World.setCell _ ⟨g, 1, none⟩ (.int .i64 ((j : Int) + 2))) u g (j + 2) o 0 a gA q := cst.move hg hA (j + 2)
                rw [← HJ.out] at cst2
                have kK2 : sp.Blk (World.setCell _ ⟨g, 1, none⟩ (.int .i64 ((j : Int) + 2))) gK qk := kK.other (touch_cell _ _ _ _) hKg
                obtain ⟨a0, a1, a2, a3, e0, e1, e2, e3⟩ := sp8 cst2.set
                obtain ⟨x0, x1, x2, x3, y0, y1, y2, y3⟩ := sp8 kK2
                clear cst
                go_wp2_with (first | (go_at_call 55; (with_reducible refine (jq _).mono ?_); rintro e w8 ⟨rfl, b8⟩; have cst := cst2.later b8; clear cst2; obtain ⟨p0, p1_, p2, p3, q0, q1, q2, q3⟩ := sp8 cst.set))
                replace cst := cst.put hg hA (jn q qk)
                go_roundw
                case rel => exact ⟨k + 1, _, jj, 0, a, by go_num, cst, fits_jn hq hqf, by omega, hjl.1, fun _ => by omega, by omega, HN⟩
                case measure => exact left_less HL.out cst.pb (by omega) hjl.1 (fun _ => hjl.2)
            · have hkn : kind (suf u j) = none := by
                rw [suf_in u j hin, hsp, hc92]
                simp [kind, hk1]
              unfold KndIs at kn
              clear hc92 hk1 hsp ep
              unfold Mv at n0
              have c3 := cst.pb.c3
              go_upto_region 4 with fail
              go_cut [27] (fun s27 wx => s27 = .bool true ∧ Cst w wx u g j o 0 a gA q)
              case first =>
                rcases Nat.eq_zero_or_pos k with rfl | hk0
                · go_wp2_with (first | (go_at_call 30; refine (n0 _ _ cst.pb).mono ?_; rintro e w1 ⟨rfl, h1, t1⟩; replace cst := cst.call hg hA h1 t1; clear h1 t1))
                  go_meet
                  exact ⟨rfl, cst⟩
                · have hne : ((k : Int) == 0) = false := by rw [beq_eq_false_iff_ne]; omega
                  go_wp2_with (first | (go_at_call 30; refine (n0 _ _ cst.pb).mono ?_; rintro e w1 ⟨rfl, h1, t1⟩; replace cst := cst.call hg hA h1 t1; clear h1 t1))
                  go_meet
                  exact ⟨rfl, cst⟩
              case rest =>
              clear cst c3
              obtain ⟨rfl, cst⟩ := hcut
              obtain ⟨W4, hW4⟩ : ∃ W4 : World, W4 = wc := ⟨_, rfl⟩
              rw [← hW4] at cst
              rw [← hW4]
              clear hW4 wc
              go_wp2_with (fail)
              have g30 := fun d os => Calls.regrown_of (nb0 g _ (cst.pb.later (below_regrown W4 d os)))
              have k0 := cell_regrown cst.pb.c0
              have k1 := cell_regrown cst.pb.c1
              refine wp_region_quiet_below (by kernel_rfl) (by kernel_rfl) ?_
              repeat (go_big_quiet_step (with_reducible exact g30 _ _))
              refine wpQuiet_nil ?_
              intro _ hw'
              obtain ⟨⟨dq, osq⟩, hw'9⟩ := hw'
              subst hw'9
              have b9 := below_regrown W4 dq osq
              generalize grow (redrawn W4 dq) osq = w9 at *
              replace cst := cst.later b9
              clear k0 k1 g30 b9
              go_wp2_with (fail)
              have c0 := cst.pb.c0
              have c1 := cst.pb.c1
              have hgV := cst.pb.lt
              have zz : True := trivial
              obtain ⟨Y, hY⟩ : ∃ Y, Y = w9 := ⟨_, rfl⟩
              replace cst := cst.drew
              go_cut [6, 7] (fun s6 s7 wx => ∃ gK, s6 = .pointer (some ⟨gK, 0, none⟩) ∧ s7 = .bool false ∧ sp.Blk wx gK none4 ∧ gK ≠ gA ∧ gK ≠ g ∧ Cst w wx u g j o 0 a gA q)
              case first =>
                have hAV : gA < w9.heap.size := cst.set.lt
                have hzV : w.heap.size < w9.heap.size := cst.zero.lt
                go_region_with (first | (go_at_call 47; (with_reducible refine (kn _).mono ?_); rintro e w7 ⟨rfl, b7⟩; (first | replace cst := cst.later b7 | replace cst := (cst.later (below_alloc _ _)).later b7); have hA7 := cst.set.lt; have hg7 := cst.pb.lt; have hz7 := cst.zero.lt; (try replace zz := (sp.blk_new _ none4).later b7); (try replace zz : sp.Blk _ w9.heap.size none4 := (show sp.Blk (w9.alloc (.cells #[.int .u64 0, .int .u64 0, .int .u64 0, .int .u64 0] 25)).drew w9.heap.size none4 from sp.blk_new w9 none4).later b7); (try (have mm := sp8 zz; obtain ⟨m0, m1_, m2_, m3_, n0_, n1_, n2_, n3_⟩ := mm))))
                all_goals go_wp2_with fail
                all_goals go_meet
                all_goals first | (with_reducible refine ⟨_, rfl, rfl, sp.blk_new _ none4, by omega, by omega, cst.later (below_alloc _ _)⟩) | (refine ⟨_, rfl, rfl, sp.set4 zz none4, by omega, by omega, cst.away (touch_set4 _ _ none4) (by omega) (by omega) (by omega) (by omega)⟩)
              case rest =>
                clear c0 c1 hgV zz hY cst
                obtain ⟨gK, rfl, rfl, kK, hKA, hKg, cst⟩ := hcut
                rcases part_steps u j o a (by omega) hju hkn with ⟨lo, j1, b1, a1, hlo, m1, tk, F⟩ | ⟨lo, j1, hi_, j3, b3, a3, hlo, hhi, hj1_, m1, tk, m2, ⟨hlt, b4, a4, ms, F⟩ | ⟨hge, F⟩⟩
                · have HN : Hid (ClsRel u a j0 (fun q l2 => .ok (if nb then nt q else q) l2) res (k + 1) (jn q (rng lo lo)) j1 b1 a1) := cls_fin HR.out HI.out hno F
                  have rg := sp.rrange_any lo lo (by omega) (by omega) (rng lo lo) rfl
                  have jq := sp.rjoin_any q (rng lo lo) (jn q (rng lo lo)) hq (fits_rng _ _) rfl
                  have c3 := cst.pb.c3
                  unfold Mv at m1 tk
                  unfold sp.RRangeIs at rg
                  unfold sp.RJoinIs at jq
                  clear hno HI hkn
                  go_wp2_with (first | (go_at_call 56; refine (m1 _ _ cst.pb).mono ?_; rintro e w1 ⟨rfl, h1, t1⟩; replace cst := cst.call hg hA h1 t1; clear h1 t1) | (go_at_call 24; refine (tk _ _ cst.pb).mono ?_; rintro e w1 ⟨rfl, h1, t1⟩; replace cst := cst.call hg hA h1 t1; clear h1 t1))
                  obtain ⟨v0_, v1_, v2_, v3_, x0_, x1_, x2_, x3_⟩ := sp8 cst.set
                  replace cst := cst.drew
                  go_region_with (first | (go_at_call 57; (with_reducible refine (rg _).mono ?_); rintro e w7 ⟨rfl, b7⟩; replace cst := cst.later b7; obtain ⟨v0_, v1_, v2_, v3_, x0_, x1_, x2_, x3_⟩ := sp8 cst.set) | (go_at_call 55; (with_reducible refine (jq _).mono ?_); rintro e w8 ⟨rfl, b8⟩; replace cst := cst.later b8; obtain ⟨v0_, v1_, v2_, v3_, x0_, x1_, x2_, x3_⟩ := sp8 cst.set))
                  all_goals (try go_wp2_with fail)
                  all_goals (
                    replace cst := cst.put hg hA (jn q (rng lo lo))
                    go_roundw
                    case rel => exact ⟨k + 1, _, j1, b1, a1, by go_num, cst, fits_jn hq (fits_rng _ _), by have := F.1; omega, F.2.1, fun h => by have := F.less h; omega, by have := F.1; omega, HN⟩
                    case measure => exact left_less HL.out cst.pb F.1 F.2.1 F.less)
                · obtain ⟨jj, hjj⟩ : ∃ jj, jj = j1 + 1 := ⟨_, rfl⟩
                  rw [← hjj] at tk m2 ms
                  clear hjj
                  have HN : Hid (ClsRel u a j0 (fun q l2 => .ok (if nb then nt q else q) l2) res (k + 1) (jn q (rng lo hi_)) j3 b4 a4) := cls_fin HR.out HI.out hno F
                  have rg := sp.rrange_any lo hi_ (by omega) (by omega) (rng lo hi_) rfl
                  have jq := sp.rjoin_any q (rng lo hi_) (jn q (rng lo hi_)) hq (fits_rng _ _) rfl
                  have c3 := cst.pb.c3
                  unfold Mv at m1 tk m2 ms
                  unfold sp.RRangeIs at rg
                  unfold sp.RJoinIs at jq
                  have hcmp : decide (hi_ < lo) = true := by simpa using hlt
                  clear hno HI hkn
                  go_wp2_with (first | (go_at_call 56; refine (m1 _ _ cst.pb).mono ?_; rintro e w1 ⟨rfl, h1, t1⟩; replace cst := cst.call hg hA h1 t1; clear h1 t1) | (go_at_call 24; refine (tk _ _ cst.pb).mono ?_; rintro e w1 ⟨rfl, h1, t1⟩; replace cst := cst.call hg hA h1 t1; clear h1 t1; have c1 := cst.pb.c1) | (go_at_call 56; refine (m2 _ _ cst.pb).mono ?_; rintro e w1 ⟨rfl, h1, t1⟩; replace cst := cst.call hg hA h1 t1; clear h1 t1) | (go_at_call 14; refine (ms _ _ cst.pb).mono ?_; rintro e w1 ⟨rfl, h1, t1⟩; replace cst := cst.call hg hA h1 t1; clear h1 t1))
                  obtain ⟨v0_, v1_, v2_, v3_, x0_, x1_, x2_, x3_⟩ := sp8 cst.set
                  replace cst := cst.drew
                  go_region_with (first | (go_at_call 57; (with_reducible refine (rg _).mono ?_); rintro e w7 ⟨rfl, b7⟩; replace cst := cst.later b7; obtain ⟨v0_, v1_, v2_, v3_, x0_, x1_, x2_, x3_⟩ := sp8 cst.set) | (go_at_call 55; (with_reducible refine (jq _).mono ?_); rintro e w8 ⟨rfl, b8⟩; replace cst := cst.later b8; obtain ⟨v0_, v1_, v2_, v3_, x0_, x1_, x2_, x3_⟩ := sp8 cst.set))
                  all_goals (try go_wp2_with fail)
                  all_goals (
                    replace cst := cst.put hg hA (jn q (rng lo hi_))
                    go_roundw
                    case rel => exact ⟨k + 1, _, j3, b4, a4, by go_num, cst, fits_jn hq (fits_rng _ _), by have := F.1; omega, F.2.1, fun h => by have := F.less h; omega, by have := F.1; omega, HN⟩
                    case measure => exact left_less HL.out cst.pb F.1 F.2.1 F.less)
                · obtain ⟨jj, hjj⟩ : ∃ jj, jj = j1 + 1 := ⟨_, rfl⟩
                  rw [← hjj] at tk m2
                  clear hjj
                  have HN : Hid (ClsRel u a j0 (fun q l2 => .ok (if nb then nt q else q) l2) res (k + 1) (jn q (rng lo hi_)) j3 b3 a3) := cls_fin HR.out HI.out hno F
                  have rg := sp.rrange_any lo hi_ (by omega) (by omega) (rng lo hi_) rfl
                  have jq := sp.rjoin_any q (rng lo hi_) (jn q (rng lo hi_)) hq (fits_rng _ _) rfl
                  have c3 := cst.pb.c3
                  unfold Mv at m1 tk m2
                  unfold sp.RRangeIs at rg
                  unfold sp.RJoinIs at jq
                  have hcmp : decide (hi_ < lo) = false := by simpa using hge
                  clear hno HI hkn
                  go_wp2_with (first | (go_at_call 56; refine (m1 _ _ cst.pb).mono ?_; rintro e w1 ⟨rfl, h1, t1⟩; replace cst := cst.call hg hA h1 t1; clear h1 t1) | (go_at_call 24; refine (tk _ _ cst.pb).mono ?_; rintro e w1 ⟨rfl, h1, t1⟩; replace cst := cst.call hg hA h1 t1; clear h1 t1; have c1 := cst.pb.c1) | (go_at_call 56; refine (m2 _ _ cst.pb).mono ?_; rintro e w1 ⟨rfl, h1, t1⟩; replace cst := cst.call hg hA h1 t1; clear h1 t1))
                  obtain ⟨v0_, v1_, v2_, v3_, x0_, x1_, x2_, x3_⟩ := sp8 cst.set
                  replace cst := cst.drew
                  go_region_with (first | (go_at_call 57; (with_reducible refine (rg _).mono ?_); rintro e w7 ⟨rfl, b7⟩; replace cst := cst.later b7; obtain ⟨v0_, v1_, v2_, v3_, x0_, x1_, x2_, x3_⟩ := sp8 cst.set) | (go_at_call 55; (with_reducible refine (jq _).mono ?_); rintro e w8 ⟨rfl, b8⟩; replace cst := cst.later b8; obtain ⟨v0_, v1_, v2_, v3_, x0_, x1_, x2_, x3_⟩ := sp8 cst.set))
                  all_goals (try go_wp2_with fail)
                  all_goals (
                    replace cst := cst.put hg hA (jn q (rng lo hi_))
                    go_roundw
                    case rel => exact ⟨k + 1, _, j3, b3, a3, by go_num, cst, fits_jn hq (fits_rng _ _), by have := F.1; omega, F.2.1, fun h => by have := F.less h; omega, by have := F.1; omega, HN⟩
                    case measure => exact left_less HL.out cst.pb F.1 F.2.1 F.less)
          · have hkn : kind (suf u j) = none := by
              rw [suf_in u j hin, suf_out u (j + 1) (by omega)]
              rfl
            have hf1 : decide (j + 1 < u.size) = false := by simpa using hj1
            clear hc92
            unfold Mv at n0
            have c3 := cst.pb.c3
            go_upto_region 4 with fail
            go_cut [27] (fun s27 wx => s27 = .bool true ∧ Cst w wx u g j o 0 a gA q)
            case first =>
              rcases Nat.eq_zero_or_pos k with rfl | hk0
              · go_wp2_with (first | (go_at_call 30; refine (n0 _ _ cst.pb).mono ?_; rintro e w1 ⟨rfl, h1, t1⟩; replace cst := cst.call hg hA h1 t1; clear h1 t1))
                go_meet
                exact ⟨rfl, cst⟩
              · have hne : ((k : Int) == 0) = false := by rw [beq_eq_false_iff_ne]; omega
                go_wp2_with (first | (go_at_call 30; refine (n0 _ _ cst.pb).mono ?_; rintro e w1 ⟨rfl, h1, t1⟩; replace cst := cst.call hg hA h1 t1; clear h1 t1))
                go_meet
                exact ⟨rfl, cst⟩
            case rest =>
            clear cst c3
            obtain ⟨rfl, cst⟩ := hcut
            obtain ⟨W4, hW4⟩ : ∃ W4 : World, W4 = wc := ⟨_, rfl⟩
            rw [← hW4] at cst
            rw [← hW4]
            clear hW4 wc
            go_wp2_with (fail)
            have g30 := fun d os => Calls.regrown_of (nb0 g _ (cst.pb.later (below_regrown W4 d os)))
            have k0 := cell_regrown cst.pb.c0
            have k1 := cell_regrown cst.pb.c1
            refine wp_region_quiet_below (by kernel_rfl) (by kernel_rfl) ?_
            repeat (go_big_quiet_step (with_reducible exact g30 _ _))
            refine wpQuiet_nil ?_
            intro _ hw'
            obtain ⟨⟨dq, osq⟩, hw'9⟩ := hw'
            subst hw'9
            have b9 := below_regrown W4 dq osq
            generalize grow (redrawn W4 dq) osq = w9 at *
            replace cst := cst.later b9
            clear k0 k1 g30 b9
            rcases part_steps u j o a (by omega) hju hkn with ⟨lo, j1, b1, a1, hlo, m1, tk, F⟩ | ⟨lo, j1, hi_, j3, b3, a3, hlo, hhi, hj1_, m1, tk, m2, ⟨hlt, b4, a4, ms, F⟩ | ⟨hge, F⟩⟩
            · have HN : Hid (ClsRel u a j0 (fun q l2 => .ok (if nb then nt q else q) l2) res (k + 1) (jn q (rng lo lo)) j1 b1 a1) := cls_fin HR.out HI.out hno F
              have rg := sp.rrange_any lo lo (by omega) (by omega) (rng lo lo) rfl
              have jq := sp.rjoin_any q (rng lo lo) (jn q (rng lo lo)) hq (fits_rng _ _) rfl
              have c3 := cst.pb.c3
              unfold Mv at m1 tk
              unfold sp.RRangeIs at rg
              unfold sp.RJoinIs at jq
              clear hno HI hkn
              go_wp2_with (first | (go_at_call 56; refine (m1 _ _ cst.pb).mono ?_; rintro e w1 ⟨rfl, h1, t1⟩; replace cst := cst.call hg hA h1 t1; clear h1 t1) | (go_at_call 24; refine (tk _ _ cst.pb).mono ?_; rintro e w1 ⟨rfl, h1, t1⟩; replace cst := cst.call hg hA h1 t1; clear h1 t1))
              obtain ⟨v0_, v1_, v2_, v3_, x0_, x1_, x2_, x3_⟩ := sp8 cst.set
              replace cst := cst.drew
              go_region_with (first | (go_at_call 57; (with_reducible refine (rg _).mono ?_); rintro e w7 ⟨rfl, b7⟩; replace cst := cst.later b7; obtain ⟨v0_, v1_, v2_, v3_, x0_, x1_, x2_, x3_⟩ := sp8 cst.set) | (go_at_call 55; (with_reducible refine (jq _).mono ?_); rintro e w8 ⟨rfl, b8⟩; replace cst := cst.later b8; obtain ⟨v0_, v1_, v2_, v3_, x0_, x1_, x2_, x3_⟩ := sp8 cst.set))
              all_goals (try go_wp2_with fail)
              all_goals (
                replace cst := cst.put hg hA (jn q (rng lo lo))
                go_roundw
                case rel => exact ⟨k + 1, _, j1, b1, a1, by go_num, cst, fits_jn hq (fits_rng _ _), by have := F.1; omega, F.2.1, fun h => by have := F.less h; omega, by have := F.1; omega, HN⟩
                case measure => exact left_less HL.out cst.pb F.1 F.2.1 F.less)
            · obtain ⟨jj, hjj⟩ : ∃ jj, jj = j1 + 1 := ⟨_, rfl⟩
              rw [← hjj] at tk m2 ms
              clear hjj
              have HN : Hid (ClsRel u a j0 (fun q l2 => .ok (if nb then nt q else q) l2) res (k + 1) (jn q (rng lo hi_)) j3 b4 a4) := cls_fin HR.out HI.out hno F
              have rg := sp.rrange_any lo hi_ (by omega) (by omega) (rng lo hi_) rfl
              have jq := sp.rjoin_any q (rng lo hi_) (jn q (rng lo hi_)) hq (fits_rng _ _) rfl
              have c3 := cst.pb.c3
              unfold Mv at m1 tk m2 ms
              unfold sp.RRangeIs at rg
              unfold sp.RJoinIs at jq
              have hcmp : decide (hi_ < lo) = true := by simpa using hlt
              clear hno HI hkn
              go_wp2_with (first | (go_at_call 56; refine (m1 _ _ cst.pb).mono ?_; rintro e w1 ⟨rfl, h1, t1⟩; replace cst := cst.call hg hA h1 t1; clear h1 t1) | (go_at_call 24; refine (tk _ _ cst.pb).mono ?_; rintro e w1 ⟨rfl, h1, t1⟩; replace cst := cst.call hg hA h1 t1; clear h1 t1; have c1 := cst.pb.c1) | (go_at_call 56; refine (m2 _ _ cst.pb).mono ?_; rintro e w1 ⟨rfl, h1, t1⟩; replace cst := cst.call hg hA h1 t1; clear h1 t1) | (go_at_call 14; refine (ms _ _ cst.pb).mono ?_; rintro e w1 ⟨rfl, h1, t1⟩; replace cst := cst.call hg hA h1 t1; clear h1 t1))
              obtain ⟨v0_, v1_, v2_, v3_, x0_, x1_, x2_, x3_⟩ := sp8 cst.set
              replace cst := cst.drew
              go_region_with (first | (go_at_call 57; (with_reducible refine (rg _).mono ?_); rintro e w7 ⟨rfl, b7⟩; replace cst := cst.later b7; obtain ⟨v0_, v1_, v2_, v3_, x0_, x1_, x2_, x3_⟩ := sp8 cst.set) | (go_at_call 55; (with_reducible refine (jq _).mono ?_); rintro e w8 ⟨rfl, b8⟩; replace cst := cst.later b8; obtain ⟨v0_, v1_, v2_, v3_, x0_, x1_, x2_, x3_⟩ := sp8 cst.set))
              all_goals (try go_wp2_with fail)
              all_goals (
                replace cst := cst.put hg hA (jn q (rng lo hi_))
                go_roundw
                case rel => exact ⟨k + 1, _, j3, b4, a4, by go_num, cst, fits_jn hq (fits_rng _ _), by have := F.1; omega, F.2.1, fun h => by have := F.less h; omega, by have := F.1; omega, HN⟩
                case measure => exact left_less HL.out cst.pb F.1 F.2.1 F.less)
            · obtain ⟨jj, hjj⟩ : ∃ jj, jj = j1 + 1 := ⟨_, rfl⟩
              rw [← hjj] at tk m2
              clear hjj
              have HN : Hid (ClsRel u a j0 (fun q l2 => .ok (if nb then nt q else q) l2) res (k + 1) (jn q (rng lo hi_)) j3 b3 a3) := cls_fin HR.out HI.out hno F
              have rg := sp.rrange_any lo hi_ (by omega) (by omega) (rng lo hi_) rfl
              have jq := sp.rjoin_any q (rng lo hi_) (jn q (rng lo hi_)) hq (fits_rng _ _) rfl
              have c3 := cst.pb.c3
              unfold Mv at m1 tk m2
              unfold sp.RRangeIs at rg
              unfold sp.RJoinIs at jq
              have hcmp : decide (hi_ < lo) = false := by simpa using hge
              clear hno HI hkn
              go_wp2_with (first | (go_at_call 56; refine (m1 _ _ cst.pb).mono ?_; rintro e w1 ⟨rfl, h1, t1⟩; replace cst := cst.call hg hA h1 t1; clear h1 t1) | (go_at_call 24; refine (tk _ _ cst.pb).mono ?_; rintro e w1 ⟨rfl, h1, t1⟩; replace cst := cst.call hg hA h1 t1; clear h1 t1; have c1 := cst.pb.c1) | (go_at_call 56; refine (m2 _ _ cst.pb).mono ?_; rintro e w1 ⟨rfl, h1, t1⟩; replace cst := cst.call hg hA h1 t1; clear h1 t1))
              obtain ⟨v0_, v1_, v2_, v3_, x0_, x1_, x2_, x3_⟩ := sp8 cst.set
              replace cst := cst.drew
              go_region_with (first | (go_at_call 57; (with_reducible refine (rg _).mono ?_); rintro e w7 ⟨rfl, b7⟩; replace cst := cst.later b7; obtain ⟨v0_, v1_, v2_, v3_, x0_, x1_, x2_, x3_⟩ := sp8 cst.set) | (go_at_call 55; (with_reducible refine (jq _).mono ?_); rintro e w8 ⟨rfl, b8⟩; replace cst := cst.later b8; obtain ⟨v0_, v1_, v2_, v3_, x0_, x1_, x2_, x3_⟩ := sp8 cst.set))
              all_goals (try go_wp2_with fail)
              all_goals (
                replace cst := cst.put hg hA (jn q (rng lo hi_))
                go_roundw
                case rel => exact ⟨k + 1, _, j3, b3, a3, by go_num, cst, fits_jn hq (fits_rng _ _), by have := F.1; omega, F.2.1, fun h => by have := F.less h; omega, by have := F.1; omega, HN⟩
                case measure => exact left_less HL.out cst.pb F.1 F.2.1 F.less)
    · have hne : ((b : Int) == 0) = false := by rw [beq_eq_false_iff_ne]; omega
      have hbad : at_ ≤ u.size ∧ res = .bad b (suf u at_) := by rcases HI.out with ⟨h, _⟩ | ⟨_, h⟩; exact absurd h hb; exact h
      have md := must_dead u j o b at_ hb 93
      have nq := sp.rnot_any q (nt q) hq rfl
      have c3 := cst.pb.c3
      unfold Mv at md
      unfold sp.RNotIs at nq
      clear HI HL HR hkb hkj
      cases nb with
      | false =>
        go_wp2_with (first | (go_at_call 40; refine (md _ _ cst.pb).mono ?_; rintro e w1 ⟨rfl, h1, t1⟩; replace cst := cst.call hg hA h1 t1; clear h1 t1; obtain ⟨a0, a1, a2, a3, e0, e1, e2, e3⟩ := sp8 cst.set; obtain ⟨⟨d0, d1, d2, d3, d4, d5, d6, d7⟩, f0, f1, f2, f3, f4, f5, f6, f7⟩ := b8 cst.zero))
        refine ret28 Try.results44 w.heap.size (.node 1 q 0 0 []) (.slice none 0 0) rfl (box_set cst.zero (.node 1 q 0 0 []) _) rfl ?_
        exact .inr ⟨b, at_, q, j, hb, hbad.2, hbad.1, hij, hju, rfl, cst.pb.other (touch_set8 _ _ (.node 1 q 0 0 []) _) (by omega), touch_over cst.t (touch_set8 _ _ (.node 1 q 0 0 []) _) (Nat.le_refl _)⟩
      | true =>
        go_wp2_with (first | (go_at_call 40; refine (md _ _ cst.pb).mono ?_; rintro e w1 ⟨rfl, h1, t1⟩; replace cst := cst.call hg hA h1 t1; clear h1 t1; obtain ⟨a0, a1, a2, a3, e0, e1, e2, e3⟩ := sp8 cst.set; obtain ⟨⟨d0, d1, d2, d3, d4, d5, d6, d7⟩, f0, f1, f2, f3, f4, f5, f6, f7⟩ := b8 cst.zero) | (go_at_call 45; (with_reducible refine (nq _).mono ?_); rintro e w2 ⟨rfl, b2⟩; replace cst := cst.later b2; obtain ⟨a0, a1, a2, a3, e0, e1, e2, e3⟩ := sp8 cst.set; replace cst := cst.put hg hA (nt q); obtain ⟨y0, y1, y2, y3, x0, x1, x2, x3⟩ := sp8 cst.set; obtain ⟨⟨d0, d1, d2, d3, d4, d5, d6, d7⟩, f0, f1, f2, f3, f4, f5, f6, f7⟩ := b8 cst.zero))
        refine ret28 Try.results44 w.heap.size (.node 1 (nt q) 0 0 []) (.slice none 0 0) rfl (box_set cst.zero (.node 1 (nt q) 0 0 []) _) rfl ?_
        exact .inr ⟨b, at_, nt q, j, hb, hbad.2, hbad.1, hij, hju, rfl, cst.pb.other (touch_set8 _ _ (.node 1 (nt q) 0 0 []) _) (by omega), touch_over cst.t (touch_set8 _ _ (.node 1 (nt q) 0 0 []) _) (Nat.le_refl _)⟩
end Go.Proofs.Ytjfnefmolhihaaa.st
