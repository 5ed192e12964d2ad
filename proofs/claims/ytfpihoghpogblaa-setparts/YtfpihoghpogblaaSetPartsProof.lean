/-
  For every list of sets and any two ints the law SetParts of package fretsawlaw05 returns true (each set is a whole number of classes, two classes are parted by some set, and a set more, made of those there, changes none), and the arguments read as before. No condition.
-/
import Derived.Test.YtfpihoghpogblaaRows
import Derived.Test.YtfpihoghpogblaaRowI
import Derived.Test.YtfpihoghpogblaaTail
import Derived.Lib.QuietBelow
import Derived.BigQuiet
import Derived.Deep.RegionHeldLaw
import Derived.WalkKit
import Derived.ProofKit
import Derived.OpenShut
import Derived.ChangeOld
import Derived.SizedLaws
import Derived.ShutString
import Derived.Below
namespace Go.Proofs.Ytfpihoghpogblaa.setParts
open Go.Sort Go.ChangeShapes Go.WideShapes Go.ChangeAt Go.RowKit
open Go.ChangeMaps (open_string shut_string)
set_option linter.unusedVariables false

theorem own : ownKnob Try.prog.godebug = none := by kernel_rfl
theorem laidOut : laidOutB Try.prog = true := by kernel_rfl

theorem cells_next {w5 W : World} {g o i1 i2 : Nat} {q1 q2 : st.Q4} (h : w5.cell? ⟨g, o + i1 * 4, none⟩ = some (.int .u64 q1.a) ∧ w5.cell? ⟨g, o + i1 * 4 + 1, none⟩ = some (.int .u64 q1.b) ∧ w5.cell? ⟨g, o + i1 * 4 + 2, none⟩ = some (.int .u64 q1.c) ∧ w5.cell? ⟨g, o + i1 * 4 + 3, none⟩ = some (.int .u64 q1.d) ∧ w5.cell? ⟨g, o + i2 * 4, none⟩ = some (.int .u64 q2.a) ∧ w5.cell? ⟨g, o + i2 * 4 + 1, none⟩ = some (.int .u64 q2.b) ∧ w5.cell? ⟨g, o + i2 * 4 + 2, none⟩ = some (.int .u64 q2.c) ∧ w5.cell? ⟨g, o + i2 * 4 + 3, none⟩ = some (.int .u64 q2.d)) (b : Below w5.heap.size w5 W) (hg : g < w5.heap.size) : W.cell? ⟨g, o + i1 * 4, none⟩ = some (.int .u64 q1.a) ∧ W.cell? ⟨g, o + i1 * 4 + 1, none⟩ = some (.int .u64 q1.b) ∧ W.cell? ⟨g, o + i1 * 4 + 2, none⟩ = some (.int .u64 q1.c) ∧ W.cell? ⟨g, o + i1 * 4 + 3, none⟩ = some (.int .u64 q1.d) ∧ W.cell? ⟨g, o + i2 * 4, none⟩ = some (.int .u64 q2.a) ∧ W.cell? ⟨g, o + i2 * 4 + 1, none⟩ = some (.int .u64 q2.b) ∧ W.cell? ⟨g, o + i2 * 4 + 2, none⟩ = some (.int .u64 q2.c) ∧ W.cell? ⟨g, o + i2 * 4 + 3, none⟩ = some (.int .u64 q2.d) := by
  obtain ⟨h0, h1, h2, h3, h4, h5, h6, h7⟩ := h
  exact ⟨by rw [b.cell hg]; exact h0, by rw [b.cell hg]; exact h1, by rw [b.cell hg]; exact h2, by rw [b.cell hg]; exact h3, by rw [b.cell hg]; exact h4, by rw [b.cell hg]; exact h5, by rw [b.cell hg]; exact h6, by rw [b.cell hg]; exact h7⟩
theorem cells_alloc {W : World} {g o i1 i2 : Nat} {q1 q2 : st.Q4} (h : W.cell? ⟨g, o + i1 * 4, none⟩ = some (.int .u64 q1.a) ∧ W.cell? ⟨g, o + i1 * 4 + 1, none⟩ = some (.int .u64 q1.b) ∧ W.cell? ⟨g, o + i1 * 4 + 2, none⟩ = some (.int .u64 q1.c) ∧ W.cell? ⟨g, o + i1 * 4 + 3, none⟩ = some (.int .u64 q1.d) ∧ W.cell? ⟨g, o + i2 * 4, none⟩ = some (.int .u64 q2.a) ∧ W.cell? ⟨g, o + i2 * 4 + 1, none⟩ = some (.int .u64 q2.b) ∧ W.cell? ⟨g, o + i2 * 4 + 2, none⟩ = some (.int .u64 q2.c) ∧ W.cell? ⟨g, o + i2 * 4 + 3, none⟩ = some (.int .u64 q2.d)) (ob : Obj) : (W.alloc ob).cell? ⟨g, o + i1 * 4, none⟩ = some (.int .u64 q1.a) ∧ (W.alloc ob).cell? ⟨g, o + i1 * 4 + 1, none⟩ = some (.int .u64 q1.b) ∧ (W.alloc ob).cell? ⟨g, o + i1 * 4 + 2, none⟩ = some (.int .u64 q1.c) ∧ (W.alloc ob).cell? ⟨g, o + i1 * 4 + 3, none⟩ = some (.int .u64 q1.d) ∧ (W.alloc ob).cell? ⟨g, o + i2 * 4, none⟩ = some (.int .u64 q2.a) ∧ (W.alloc ob).cell? ⟨g, o + i2 * 4 + 1, none⟩ = some (.int .u64 q2.b) ∧ (W.alloc ob).cell? ⟨g, o + i2 * 4 + 2, none⟩ = some (.int .u64 q2.c) ∧ (W.alloc ob).cell? ⟨g, o + i2 * 4 + 3, none⟩ = some (.int .u64 q2.d) := by
  obtain ⟨h0, h1, h2, h3, h4, h5, h6, h7⟩ := h
  have hg : g < W.heap.size := block_lt_of_cell h0
  have b : Below W.heap.size W (W.alloc ob) := (Below.refl _ _).alloc (Nat.le_refl _) _
  exact ⟨by rw [b.cell hg]; exact h0, by rw [b.cell hg]; exact h1, by rw [b.cell hg]; exact h2, by rw [b.cell hg]; exact h3, by rw [b.cell hg]; exact h4, by rw [b.cell hg]; exact h5, by rw [b.cell hg]; exact h6, by rw [b.cell hg]; exact h7⟩

set_option maxHeartbeats 8000000 in
set_option maxRecDepth 100000 in
theorem walk (l : List st.Q4) (x y : Int) (hf : ∀ q ∈ l, st.Fits q) (wx : (Lit.int .i64 x).wf = true) (wy : (Lit.int .i64 y).wf = true) (v : Value) (w : World) (hS : st.Sets w v l) :
    Calls Try.prog 7 #[v, .int .i64 x, .int .i64 y] w fun e w' => e = .returned (.bool true) ∧ Below w.heap.size w w' := by
  obtain ⟨a0, cap0, rfl⟩ : ∃ a cap, v = .slice a l.length cap := by
    rcases hS with ⟨h0, a, cap, h⟩ | ⟨b, off, cap, h, _⟩
    · exact ⟨_, _, by rw [h, h0]; rfl⟩
    · exact ⟨_, _, h⟩
  by_cases hlen : 200 < l.length
  · go_enter Try.func7, Try.ntmps7
    go_wp2
    go_ret
    exact ⟨rfl, Below.refl _ _⟩
  · have h23 := st.classes_any l hf (by omega)
    have HP : Hid (st.Parts l (st.tbl (st.like l) 256) (st.repsBy (st.like l) 256)) := st.parts_of rfl l
    obtain ⟨xs, HXS⟩ : ∃ xs, Hid (xs = st.tbl (st.like l) 256) := ⟨_, rfl⟩
    obtain ⟨L, HLL⟩ : ∃ L, Hid (L = st.repsBy (st.like l) 256) := ⟨_, rfl⟩
    rw [← HXS.out, ← HLL.out] at h23
    rw [← HXS.out, ← HLL.out] at HP
    have hx := HP.out.len
    have hL256 := HP.out.few
    have hst := fun W => st.store_last W _ hx
    have hcs := st.cells36_size _ hx
    have hz := st.zero36
    have hmk := st.make41 L.length (by omega)
    have hd1 : decide (200 < l.length) = false := by simp; omega
    have hd2 : decide ((200 : Int) < (l.length : Int)) = false := by simp; omega
    go_enter Try.func7, Try.ntmps7
    go_wp2_with (go_at_call 23; refine (h23 _ _ hS).mono ?_; rintro e w1 ⟨rfl, b1⟩)
    clear hst hcs hz hmk
    have ha1 : st.Arr ((w1.alloc (.cells (st.cells36 xs) 36)).alloc (.cells (madeCells #[.int .i64 0] L.length) 3)) w1.heap.size xs := ⟨heap_alloc2_old w1 _ _, hx⟩
    have hr1 : st.RowI ((w1.alloc (.cells (st.cells36 xs) 36)).alloc (.cells (madeCells #[.int .i64 0] L.length) 3)) (w1.heap.size + 1) (List.replicate L.length 0) := by
      have := st.made_rowI (w1.alloc (.cells (st.cells36 xs) 36)) L.length
      rw [World.size_alloc] at this
      exact this
    have hB1 : Below w.heap.size w ((w1.alloc (.cells (st.cells36 xs) 36)).alloc (.cells (madeCells #[.int .i64 0] L.length) 3)) := (b1.alloc b1.size _).alloc (by simp; have := b1.size; omega) _
    have hS1 := hS.below hB1
    have hgw := b1.size
    generalize (w1.alloc (.cells (st.cells36 xs) 36)).alloc (.cells (madeCells #[.int .i64 0] L.length) 3) = w2 at *
    clear b1
    generalize w1.heap.size = gc at *
    clear hd1 hd2 hS
    have HDN : Hid (∀ b, b < 256 → st.dn (fun b => xs.getD b 0) L.length (255 - b + 1) = (st.dn (fun b => xs.getD b 0) L.length (255 - b)).set (xs.getD b 0) b) := fun b hb => by
      rw [st.dn, show 255 - (255 - b) = b from by omega]
    go_loopw [10] (fun z wr => ((∃ b : Nat, z = .int .i64 b ∧ b < 256 ∧ Hid (st.RowI wr (gc + 1) (st.dn (fun b => xs.getD b 0) L.length (255 - b)))) ∨ (z = .int .i64 (-1) ∧ Hid (st.RowI wr (gc + 1) L))) ∧ st.Arr wr gc xs ∧ st.Sets wr (.slice a0 l.length cap0) l ∧ Below w.heap.size w wr) (fun z _ => (intOf z + 1).toNat)
    case atStart => exact ⟨.inl ⟨255, rfl, by omega, hr1⟩, ha1, hS1, hB1⟩
    case round =>
      obtain ⟨hor, harr, hSr, hB⟩ := hrel
      rcases hor with ⟨b, rfl, hb, HR⟩ | ⟨rfl, HR⟩
      · have hc := harr.cell b hb
        have hclt := HP.out.c_lt b hb
        have hc8 : xs.getD b 0 < 256 := by omega
        have HR2 := HR.out.put (xs.getD b 0) b
        have hfz := HR.out.fz (xs.getD b 0)
        have hcl : (st.dn (fun b => xs.getD b 0) L.length (255 - b)).length = L.length := st.dn_length _ _ _
        have hrc := HR.out.cell (xs.getD b 0) (by omega)
        have hS2 := hSr.kept (st.touch_set wr (gc + 1) (xs.getD b 0) (.int .i64 b)) HR.out.not64
        have harr2 := harr.set (k := gc + 1) (by omega) (xs.getD b 0) (.int .i64 b)
        have hB2 := hB.setCell (p := ⟨gc + 1, xs.getD b 0, none⟩) (by show w.heap.size ≤ gc + 1; omega) (.int .i64 b)
        rw [← HDN.out b hb] at HR2
        have HR3 : Hid _ := HR2
        clear HR HR2 hcl
        generalize xs.getD b 0 = c at *
        by_cases hb0 : b = 0
        · subst hb0
          have HR4 : Hid (st.RowI (wr.setCell ⟨gc + 1, c, none⟩ (.int .i64 (0 : Nat))) (gc + 1) L) := by
            have h1 := HP.out.down
            have h2 := HR3.out
            rw [show 255 - 0 + 1 = 256 from rfl, h1] at h2
            exact h2
          clear HR3
          go_wp2
          exact ⟨⟨.inr ⟨rfl, HR4⟩, harr2, hS2, hB2⟩, by simp [intOf]⟩
        · obtain ⟨b2, rfl⟩ : ∃ b2, b = b2 + 1 := ⟨b - 1, by omega⟩
          have HR4 : Hid (st.RowI (wr.setCell ⟨gc + 1, c, none⟩ (.int .i64 ((b2 + 1 : Nat) : Int))) (gc + 1) (st.dn (fun b => xs.getD b 0) L.length (255 - b2))) := by
            have h2 := HR3.out
            rw [show 255 - (b2 + 1) + 1 = 255 - b2 from by omega] at h2
            exact h2
          clear HR3
          go_wp2
          exact ⟨⟨.inl ⟨b2, rfl, by omega, HR4⟩, harr2, hS2, hB2⟩, by simp [intOf]; omega⟩
      · obtain ⟨w0, rfl⟩ : ∃ w0 : World, w0 = wr := ⟨_, rfl⟩
        have hR0 := HR.out
        clear HR HDN ha1 hr1 hB1 hS1
        go_wp2
        go_loopw [51] (fun z wr => ∃ k : Nat, z = .int .i64 k ∧ k ≤ L.length ∧ Below w0.heap.size w0 wr) (fun z _ => L.length - (intOf z).toNat)
        case atStart => exact ⟨0, rfl, by omega, Below.refl _ _⟩
        case round =>
          obtain ⟨k, rfl, hk, hW⟩ := hrel
          by_cases hkn : k < L.length
          · have hcell := (hR0.later hW).cell k hkn
            have hb256 := HP.out.l_lt k hkn
            by_cases hk0 : k = 0
            · subst hk0
              generalize L.getD 0 0 = b at *
              go_wp2
              go_loopw [71] (fun z wr => z = .int .i64 0 ∧ Below w0.heap.size w0 wr) (fun _ _ => 0)
              case atStart => exact ⟨rfl, hW⟩
              case round =>
                obtain ⟨rfl, hW2⟩ := hrel
                go_wp2
                exact ⟨⟨1, by go_num, by omega, hW2⟩, by simp [intOf]; omega⟩
            · obtain ⟨k2, rfl⟩ : ∃ k2, k = k2 + 1 := ⟨k - 1, by omega⟩
              have hcell2 := (hR0.later hW).cell k2 (by omega)
              have hrise := HP.out.rise k2 hkn
              have HPT : Hid (∀ m, m < k2 + 1 → st.like l (L.getD (k2 + 1) 0) (L.getD m 0) = false) := fun m hm => HP.out.parted m (k2 + 1) hm hkn
              have hd3 : decide (L.getD (k2 + 1) 0 ≤ L.getD k2 0) = false := decide_eq_false (by omega)
              generalize L.getD (k2 + 1) 0 = b at *
              generalize L.getD k2 0 = b' at *
              go_wp2
              clear hcell2 hrise hd3 hcell
              go_loopw [71] (fun z wr => ∃ m : Nat, z = .int .i64 m ∧ m ≤ k2 + 1 ∧ Below w0.heap.size w0 wr) (fun z _ => k2 + 1 - (intOf z).toNat)
              case atStart => exact ⟨0, rfl, by omega, hW⟩
              case round =>
                obtain ⟨m, rfl, hm, hW2⟩ := hrel
                by_cases hmk : m < k2 + 1
                · have hcell3 := (hR0.later hW2).cell m (by omega)
                  have hc256 := HP.out.l_lt m (by omega)
                  have HPR : Hid (st.prt l b (L.getD m 0) l.length = true) := st.prt_all l b _ (HPT.out m hmk)
                  generalize L.getD m 0 = c at *
                  go_wp2
                  clear hcell3
                  go_loopw [15, 77] (fun pz z wr => ∃ j : Nat, z = .int .i64 j ∧ j ≤ l.length ∧ pz = .bool (st.prt l b c j) ∧ Below w0.heap.size w0 wr) (fun _ z _ => l.length - (intOf z).toNat)
                  case atStart => exact ⟨0, rfl, by omega, rfl, hW2⟩
                  case round =>
                    obtain ⟨j, rfl, hj, rfl, hW3⟩ := hrel
                    by_cases hjl : j < l.length
                    · obtain ⟨gg, off, hae, hlt, d0, d1, d2, d3⟩ := st.sets_at (hSr.below hW3) j hjl
                      subst hae
                      have hfx := hf _ (st.nth_mem l j hjl)
                      have HS : Hid (st.prt l b c (j + 1) = (st.prt l b c j || (st.has (st.nth l j) b != st.has (st.nth l j) c))) := st.prt_succ l b c j
                      have h1 := st.has_any (st.nth l j) hfx b hb256 _ rfl
                      have h2 := st.has_any (st.nth l j) hfx c hc256 _ rfl
                      generalize st.nth l j = q at *
                      generalize st.prt l b c j = pr at *
                      have hk3 := st.blk_new wr q
                      have hW4 : Below w0.heap.size w0 (wr.alloc (.cells #[.int .u64 q.a, .int .u64 q.b, .int .u64 q.c, .int .u64 q.d] 25)) := hW3.alloc hW3.size _
                      obtain ⟨w3, hw3⟩ : ∃ w3, w3 = wr.alloc (.cells #[.int .u64 q.a, .int .u64 q.b, .int .u64 q.c, .int .u64 q.d] 25) := ⟨_, rfl⟩
                      rw [← hw3] at hk3 hW4
                      cases pr
                      · have z0 := cell_regrown hk3.c0
                        have z1 := cell_regrown hk3.c1
                        have z2 := cell_regrown hk3.c2
                        have z3 := cell_regrown hk3.c3
                        have g1 : ∀ d os, Calls Try.prog 15 #[.agg #[.int .u64 q.a, .int .u64 q.b, .int .u64 q.c, .int .u64 q.d], .int .u8 b] (grow (redrawn w3 d) os) fun e w'' => e = .returned (.bool (st.has q b)) ∧ ∃ p : Regrown, w'' = grow (redrawn w3 p.d) p.os := fun d os => Calls.regrown_of (h1 _)
                        have g2 : ∀ d os, Calls Try.prog 15 #[.agg #[.int .u64 q.a, .int .u64 q.b, .int .u64 q.c, .int .u64 q.d], .int .u8 c] (grow (redrawn w3 d) os) fun e w'' => e = .returned (.bool (st.has q c)) ∧ ∃ p : Regrown, w'' = grow (redrawn w3 p.d) p.os := fun d os => Calls.regrown_of (h2 _)
                        generalize st.has q b = y1 at *
                        generalize st.has q c = y2 at *
                        clear h1 h2
                        go_wp2
                        rw [← hw3]
                        clear hw3
                        refine wp_region_quiet_below (by kernel_rfl) (by kernel_rfl) ?_
                        repeat (go_big_quiet_step (first | (with_reducible exact g1 _ _) | (with_reducible exact g2 _ _)))
                        refine wpQuiet_nil ?_
                        intro _ hw'
                        obtain ⟨⟨dq, osq⟩, hw''⟩ := hw'
                        subst hw''
                        have hW5 := hW4.trans ((below_regrown w3 dq osq).mono hW4.size)
                        clear g1 g2 z0 z1 z2 z3
                        generalize grow (redrawn w3 dq) osq = w4 at *
                        go_wp2
                        exact ⟨⟨j + 1, by go_num, by omega, by rw [HS.out]; rfl, hW5⟩, by simp [intOf]; omega⟩
                      · clear h1 h2
                        go_wp2
                        rw [← hw3]
                        clear hw3
                        refine wp_region_quiet_below (by kernel_rfl) (by kernel_rfl) ?_
                        repeat (go_big_quiet_step (fail))
                        refine wpQuiet_nil ?_
                        intro _ hw'
                        obtain ⟨⟨dq, osq⟩, hw''⟩ := hw'
                        subst hw''
                        have hW5 := hW4.trans ((below_regrown w3 dq osq).mono hW4.size)
                        generalize grow (redrawn w3 dq) osq = w4 at *
                        go_wp2
                        exact ⟨⟨j + 1, by go_num, by omega, by rw [HS.out]; rfl, hW5⟩, by simp [intOf]; omega⟩
                    · have he : j = l.length := by omega
                      subst he
                      rw [HPR.out]
                      go_wp2
                      exact ⟨⟨m + 1, by go_num, by omega, hW3⟩, by simp [intOf]; omega⟩
                · go_wp2
                  exact ⟨⟨k2 + 1 + 1, by go_num, by omega, hW2⟩, by simp [intOf]; omega⟩
          · clear hk
            go_wp2
            go_loopw [100] (fun z wr => ∃ j : Nat, z = .int .i64 j ∧ j ≤ l.length ∧ Below w0.heap.size w0 wr) (fun z _ => l.length - (intOf z).toNat)
            case atStart => exact ⟨0, rfl, by omega, hW⟩
            case round =>
              obtain ⟨j, rfl, hj, hW2⟩ := hrel
              by_cases hjl : j < l.length
              · obtain ⟨gg, off, hae, hlt, d0, d1, d2, d3⟩ := st.sets_at (hSr.below hW2) j hjl
                subst hae
                have hfx := hf _ (st.nth_mem l j hjl)
                have HWH : Hid (∀ b, b < 256 → st.has (st.nth l j) b = st.has (st.nth l j) (L.getD (xs.getD b 0) 0)) := fun b hb => st.like_has (HP.out.whole b hb) (st.nth_mem l j hjl)
                generalize st.nth l j = q at *
                have hk3 := st.blk_new wr q
                have hW3 : Below w0.heap.size w0 (wr.alloc (.cells #[.int .u64 q.a, .int .u64 q.b, .int .u64 q.c, .int .u64 q.d] 25)) := hW2.alloc hW2.size _
                obtain ⟨ga, hga⟩ : ∃ ga, ga = wr.heap.size := ⟨_, rfl⟩
                go_wp2
                clear d0 d1 d2 d3
                rw [← hga] at hk3
                rw [← hga]
                clear hga
                generalize wr.alloc (.cells #[.int .u64 q.a, .int .u64 q.b, .int .u64 q.c, .int .u64 q.d] 25) = w3 at *
                go_loopw [104] (fun z wr => ∃ b : Nat, z = .int .i64 b ∧ b ≤ 256 ∧ Below w3.heap.size w3 wr) (fun z _ => 256 - (intOf z).toNat)
                case atStart => exact ⟨0, rfl, by omega, Below.refl _ _⟩
                case round =>
                  obtain ⟨b, rfl, hb, hW4⟩ := hrel
                  have hW5 := st.chain hW3 hW4
                  by_cases hb256 : b < 256
                  · have hkb := hk3.later hW4
                    have z0 := cell_regrown hkb.c0
                    have z1 := cell_regrown hkb.c1
                    have z2 := cell_regrown hkb.c2
                    have z3 := cell_regrown hkb.c3
                    have hclt := HP.out.c_lt b hb256
                    have hdlt := HP.out.l_lt _ hclt
                    have z4 := cell_regrown ((harr.later hW5 harr.lt).cell b hb256)
                    have z5 := cell_regrown ((hR0.later hW5).cell _ hclt)
                    have hhas := HWH.out b hb256
                    have h1 := st.has_any q hfx b hb256 _ rfl
                    have h2 := st.has_any q hfx _ hdlt _ rfl
                    generalize L.getD (xs.getD b 0) 0 = d at *
                    generalize xs.getD b 0 = c at *
                    rw [← hhas] at h2
                    have g1 : ∀ d os, Calls Try.prog 15 #[.agg #[.int .u64 q.a, .int .u64 q.b, .int .u64 q.c, .int .u64 q.d], .int .u8 b] (grow (redrawn wr d) os) fun e w'' => e = .returned (.bool (st.has q b)) ∧ ∃ p : Regrown, w'' = grow (redrawn wr p.d) p.os := fun d os => Calls.regrown_of (h1 _)
                    have g2 : ∀ d' os, Calls Try.prog 15 #[.agg #[.int .u64 q.a, .int .u64 q.b, .int .u64 q.c, .int .u64 q.d], .int .u8 d] (grow (redrawn wr d') os) fun e w'' => e = .returned (.bool (st.has q b)) ∧ ∃ p : Regrown, w'' = grow (redrawn wr p.d) p.os := fun d' os => Calls.regrown_of (h2 _)
                    clear hhas h1 h2
                    generalize st.has q b = y1 at *
                    go_wp2
                    refine wp_region_quiet_below (by kernel_rfl) (by kernel_rfl) ?_
                    repeat (go_big_quiet_step (first | (with_reducible exact g1 _ _) | (with_reducible exact g2 _ _)))
                    refine wpQuiet_nil ?_
                    intro _ hw'
                    obtain ⟨⟨dq, osq⟩, hw''⟩ := hw'
                    subst hw''
                    have hW6 := hW4.trans ((below_regrown wr dq osq).mono hW4.size)
                    clear g1 g2 z0 z1 z2 z3 z4 z5
                    generalize grow (redrawn wr dq) osq = w4 at *
                    go_wp2
                    exact ⟨⟨b + 1, by go_num, by omega, hW6⟩, by simp [intOf]; omega⟩
                  · go_wp2
                    exact ⟨⟨j + 1, by go_num, by omega, hW5⟩, by simp [intOf]; omega⟩
              · by_cases hl0 : l.length = 0
                · have hnil : l = [] := List.eq_nil_of_length_eq_zero hl0
                  have hL1 := HP.out.lone hnil
                  subst hnil
                  go_wp2
                  go_ret
                  exact ⟨rfl, st.chain hB hW2⟩
                · have hlz : ((l.length : Int) == 0) = false := by rw [beq_eq_false_iff_ne]; omega
                  obtain ⟨i1, hi1, e1⟩ := st.idx x wx l.length (by omega) (by omega)
                  obtain ⟨i2, hi2, e2⟩ := st.idx y wy l.length (by omega) (by omega)
                  have HE1 : Hid ((wrap64 (x.tmod (l.length : Int) + (l.length : Int))).tmod (l.length : Int) = (i1 : Int)) := e1
                  have HE2 : Hid ((wrap64 (y.tmod (l.length : Int) + (l.length : Int))).tmod (l.length : Int) = (i2 : Int)) := e2
                  clear e1 e2
                  go_wp2
                  refine wp_region_quiet_below (by kernel_rfl) (by kernel_rfl) ?_
                  repeat (go_big_quiet_step (fail))
                  refine wpQuiet_nil ?_
                  intro _ hw'
                  obtain ⟨⟨dq, osq⟩, hw''⟩ := hw'
                  subst hw''
                  have hW3 := hW2.trans ((below_regrown wr dq osq).mono hW2.size)
                  generalize grow (redrawn wr dq) osq = w5 at *
                  rw [HE1.out, HE2.out]
                  have hB5 := st.chain hB hW3
                  have hS5 := hSr.below hW3
                  have ha5 := harr.later hW3 harr.lt
                  obtain ⟨gg, off, hae, hlt, c0, c1, c2, c3⟩ := st.sets_at hS5 i1 hi1
                  subst hae
                  obtain ⟨gg2, off2, hae2, hlt2, d0, d1, d2, d3⟩ := st.sets_at hS5 i2 hi2
                  simp at hae2
                  obtain ⟨rfl, rfl⟩ := hae2
                  have hm1 := st.nth_mem l i1 hi1
                  have hm2 := st.nth_mem l i2 hi2
                  have hf1 := hf _ hm1
                  have hf2 := hf _ hm2
                  have hpm := st.parts_more hf hm1 hm2
                  have h21 := st.not_any (st.nth l i2) _ hf2 rfl
                  have h17 := st.join_any (st.nth l i1) (st.nt (st.nth l i2)) _ hf1 (st.fits_nt _) rfl
                  have hfj := st.fits_jn hf1 (st.fits_nt (st.nth l i2))
                  generalize st.nth l i1 = q1 at *
                  generalize st.nth l i2 = q2 at *
                  generalize st.nt q2 = nn at *
                  generalize st.jn q1 nn = ss at *
                  have hfm : ∀ q ∈ l ++ [ss], st.Fits q := by
                    intro q hq
                    rcases List.mem_append.1 hq with hq | hq
                    · exact hf q hq
                    · rw [List.mem_singleton.1 hq]; exact hfj
                  have h23b := st.classes_any (l ++ [ss]) hfm (by simp; omega)
                  rw [hpm.1, hpm.2, ← HXS.out, ← HLL.out] at h23b
                  have hz := st.zero36
                  have hcs := st.cells36_size _ hx
                  have hst := fun W => st.store_last W _ hx
                  have hstG := st.storeG xs hx
                  clear hpm hm1 hm2 hf1 hf2 hfj hfm HE1 HE2 hlz h23
                  go_wp2
                  refine last.region (c := ⟨gg, off, cap0, i1, i2, l, q1, q2, nn, ss, xs, L.length⟩) ⟨rfl, rfl, rfl, hi1, hi2, by show l.length ≤ 1000; omega, hS5, hlt, ⟨c0, c1, c2, c3⟩, ⟨d0, d1, d2, d3⟩, h21, h17, h23b, hx⟩ rfl ?_
                  intro a6 gA w6 z6 d6 e21 e7 e22 e8 hB6 hA6
                  rename_i hKK
                  refine hKK _ _ (last.tail (gA := gA) (gc := gc) (n := L.length) (xs := xs) z6 d6 e21 e7 e22 e8 hA6 (ha5.later hB6 ha5.lt) ⟨rfl, st.chain hB5 hB6⟩)

set_option maxRecDepth 100000 in
theorem lifted (os : Os) (started : os.Started) (H : Type) (enc : TypeId × Value → H) :
    ReturnsInHanded {} Try.checked os 7 .any (Rows.setPartsSpec.pre6 enc Try.prog Try.f7 Rows.setPartsRow.domain false) (Rows.setPartsSpec.post enc Try.prog Try.f7 false true false false) := by
  refine returnsInHanded_of_change_sized (C := Try.checked) own started (by kernel_rfl) Try.func7
    (ChangeSpec.witness6 (enc := enc) (C := Try.checked) false ⟨#[], #[.slice none 0 0, .int .i64 0, .int .i64 0], []⟩ 8 (by kernel_rfl) (by kernel_rfl) (by kernel_rfl) (by kernel_rfl)) ?_
  intro W base args ds gs before hval0 hW hcnd hsz0 _
  have hsz : (DataW.weightsEach Try.prog (Try.f7.params.toList ++ Rows.setPartsSpec.plain.varTypes Try.prog) (ds ++ gs)).all (· ≤ reachBytes) = true := hsz0
  have hval : ∀ (j : Nat) t v, Try.f7.params[j]? = some t → args[j]? = some v → Value.okWide Try.prog W .any base t v := hval0
  have hW' := hW
  obtain ⟨p, q, hA0, hV, rfl, hfz, hnd⟩ := hW
  have hA : DataW.TrodAll enc Try.prog W 0 (fun _ => true) true Try.f7.params.toList args.toList ds p := hA0
  rw [Try.params7] at hA hval hsz
  obtain ⟨v0, vs0, d0, ds0, p0, q0, hargs, rfl, rfl, h0, r0⟩ := trodAll_cons hA
  obtain ⟨v1, vs1, d1, ds1, p1, q1, rfl, rfl, rfl, h1, r1⟩ := trodAll_cons r0
  obtain ⟨v2, vs2, d2, ds2, p2, q2, rfl, rfl, rfl, h2, r2⟩ := trodAll_cons r1
  obtain ⟨rfl, rfl, rfl⟩ := trodAll_nil r2
  obtain rfl : args = #[v0, v1, v2] := by cases args; simp_all
  obtain ⟨rfl, rfl⟩ := trodVars_none hV
  obtain ⟨x0, len0, cap0, rfl⟩ := okWide_slice Try.underlying35 (hval 0 35 v0 rfl rfl)
  have k0 := h0
  have lt0 : ∀ x ∈ p0, x.block < W.heap.size := by obtain ⟨m, hm⟩ := k0; exact DataW.trod_lt m _ _ _ hm
  obtain ⟨l0, hS0, hl0, f0⟩ := st.sets_of h0
  obtain ⟨a1, rfl, rfl, rfl, w1⟩ := open_int Try.underlying3 (hval 1 3 v1 rfl rfl) h1
  obtain ⟨a2, rfl, rfl, rfl, w2⟩ := open_int Try.underlying3 (hval 2 3 v2 rfl rfl) h2
  clear hA0 hval0
  refine (walk l0 a1 a2 f0 w1 w2 _ W hS0).mono fun e W' ⟨he, bel⟩ => ?_
  subst he
  exact ⟨_, rfl, _, _, _, [], _, [], hW', trodAll_mk1 (shut_bool Try.underlying4 _), (trodAll_cons_mk (Below.trod laidOut (by kernel_rfl) (of_decide_eq_true (by kernel_rfl)) k0 bel lt0) (trodAll_cons_mk (shut_int Try.underlying3 w1) (trodAll_cons_mk (shut_int Try.underlying3 w2) trodAll_mk0))), rfl, bel.frame _, fun h => by cases h⟩

theorem over : Rows.setPartsRow.holds Try.pinned (OpenSpec.ofChange Rows.setPartsSpec) :=
  OpenClaim.holds_of_wide 7 Try.f7 rfl rfl rfl rfl rfl rfl rfl ⟨rfl, rfl, rfl, rfl, rfl⟩ rfl rfl rfl rfl rfl (by kernel_rfl) Try.func7 (by kernel_rfl)
    (of_decide_eq_true (by kernel_rfl)) (by unfold Func.isWrapper; first | (rw [if_pos (by decide +kernel)]; kernel_rfl) | (rw [if_neg (by decide +kernel)]; exact ⟨rfl, rfl⟩))
    (fun os started H enc _ => lifted os started H enc)

theorem proved : Rows.SetPartsSaid :=
  over
#print axioms proved
end Go.Proofs.Ytfpihoghpogblaa.setParts
