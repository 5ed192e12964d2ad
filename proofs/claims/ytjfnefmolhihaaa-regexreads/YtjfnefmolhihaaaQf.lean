/-
  Contracts over this program: sets that are written by one letter, as the document has them (fretsawref06's kind).
-/
import Derived.Test.YtjfnefmolhihaaaQa
import Derived.Test.YtjfnefmolhihaaaRe
import Derived.Deep.DeepCutAuto
import Derived.Deep.RegionWith
namespace Go.Proofs.Ytjfnefmolhihaaa.st
open Go.Sort Go.ChangeShapes Go.WideShapes Go.ChangeAt Go.RowKit
set_option linter.unusedVariables false

abbrev setV (q : Q4) : Value := .agg #[.int .u64 q.a, .int .u64 q.b, .int .u64 q.c, .int .u64 q.d]
/-- what a letter is written for, as the document has it -/
def KndIs (c : Int) (q : Q4) (r : Bool) : Prop := ∀ w, Calls Try.prog 47 #[.int .i64 c] w fun e w' => e = .returned (.tuple #[setV q, .bool r]) ∧ RowKit.Below w.heap.size w w'
abbrev Rng2 (lo hi : Int) (X : Q4) : Prop := ∀ w, Calls Try.prog 57 #[.int .u8 lo, .int .u8 hi] w fun e w' => e = .returned (setV X) ∧ RowKit.Below w.heap.size w w'
abbrev Join2 (X Y Z : Q4) : Prop := ∀ w, Calls Try.prog 55 #[setV X, setV Y] w fun e w' => e = .returned (setV Z) ∧ RowKit.Below w.heap.size w w'

theorem blk_other {w w' : World} {g k : Nat} {q : Q4} (h : sp.Blk w g q) (t : w.grownBy w' (some k)) (hne : g ≠ k) : sp.Blk w' g q := by
  unfold sp.Blk; rw [t.block g (sp.Blk.lt h) (fun e => hne (Option.some.inj e))]; exact h

set_option maxHeartbeats 4000000 in
set_option maxRecDepth 100000 in
theorem knd (X1 X2 X3 D J1 J2 W B : Q4) (hD : Rng2 48 57 D) (h1 : Rng2 65 90 X1) (h2 : Rng2 97 122 X2) (h3 : ∀ w, Calls Try.prog 46 #[.string ⟨#[95]⟩] w fun e w' => e = .returned (setV X3) ∧ RowKit.Below w.heap.size w w') (j1 : Join2 D X1 J1) (j2 : Join2 X2 X3 J2) (j3 : Join2 J1 J2 W)
    (hB : ∀ w, Calls Try.prog 46 #[.string ⟨#[9, 10, 11, 12, 13, 32]⟩] w fun e w' => e = .returned (setV B) ∧ RowKit.Below w.heap.size w w') (ND NW NB : Q4) (nD : sp.RNotIs D ND) (nW : sp.RNotIs W NW) (nB : sp.RNotIs B NB) (c : Int) (q : Q4) (r : Bool)
    (hk : (c = 100 ∧ D = q ∧ true = r) ∨ (c = 68 ∧ ND = q ∧ true = r) ∨ (c = 119 ∧ W = q ∧ true = r) ∨ (c = 87 ∧ NW = q ∧ true = r) ∨ (c = 115 ∧ B = q ∧ true = r) ∨ (c = 83 ∧ NB = q ∧ true = r) ∨ ((c ≠ 100 ∧ c ≠ 68 ∧ c ≠ 119 ∧ c ≠ 87 ∧ c ≠ 115 ∧ c ≠ 83) ∧ none4 = q ∧ false = r)) : KndIs c q r := by
  intro w
  unfold sp.RNotIs at nD nW nB
  have hz := sp.blk_new w none4
  have HK : Hid _ := hk
  clear hk
  go_enter Try.func47, Try.ntmps47
  go_wp2_with (first
    | (go_at_call 57; (with_reducible refine (hD _).mono ?_); rintro e w1 ⟨rfl, b1⟩; have z := (hz.later b1).later (below_alloc w1 (.cells #[.int .u64 D.a, .int .u64 D.b, .int .u64 D.c, .int .u64 D.d] 25)); have dd := sp.blk_new w1 D))
  obtain ⟨X, hX⟩ : ∃ X, X = w1.alloc (.cells #[.int .u64 D.a, .int .u64 D.b, .int .u64 D.c, .int .u64 D.d] 25) := ⟨_, rfl⟩
  have kk : RowKit.Below w.heap.size w X := by rw [hX]; exact sp.chain (sp.chain (below_alloc _ _) b1) (below_alloc _ _)
  rw [← hX] at dd z
  rw [← hX]
  clear hX hz b1
  obtain ⟨gD, hgD⟩ : ∃ gD, gD = w1.heap.size := ⟨_, rfl⟩
  rw [← hgD] at dd
  rw [← hgD]
  clear hgD
  obtain ⟨c0, c1, c2, c3, _, _, _, _⟩ := sp8 dd
  replace kk := kk.drew
  replace dd : sp.Blk X.drew gD D := dd
  replace z : sp.Blk X.drew w.heap.size none4 := z
  have ltd : gD < X.heap.size := dd.lt
  have ltz : w.heap.size < X.heap.size := z.lt
  have zz : True := trivial
  go_cut [5] (fun s5 wx => ∃ gW, s5 = .pointer (some ⟨gW, 0, none⟩) ∧ sp.Blk wx gW W ∧ sp.Blk wx gD D ∧ sp.Blk wx w.heap.size none4 ∧ RowKit.Below w.heap.size w wx)
  case first =>
    clear HK nD nW nB hB hD
    go_region_with (first
    | (go_at_call 57; (with_reducible refine (h1 _).mono ?_); rintro e w2 ⟨rfl, b2⟩; (first | replace dd := dd.later b2 | replace dd := (dd.later (below_alloc _ _)).later b2); (first | replace z := z.later b2 | replace z := (z.later (below_alloc _ _)).later b2); (first | replace kk := sp.chain kk b2 | replace kk := sp.chain (sp.chain kk (below_alloc _ _)) b2); (try replace zz := zz.later b2); (try replace zz := (sp.blk_new _ none4).later b2); (try replace zz : sp.Blk _ X.heap.size none4 := (show sp.Blk (X.alloc (.cells #[.int .u64 0, .int .u64 0, .int .u64 0, .int .u64 0] 25)).drew X.heap.size none4 from sp.blk_new X none4).later b2); (try (have mm := sp8 zz; obtain ⟨m0, m1, m2, m3, n0, n1, n2, n3⟩ := mm)); have ltd := dd.lt; have ltz := z.lt; obtain ⟨c0, c1, c2, c3, _, _, _, _⟩ := sp8 dd)
    | (go_at_call 57; (with_reducible refine (h2 _).mono ?_); rintro e w3 ⟨rfl, b3⟩; (first | replace dd := dd.later b3 | replace dd := (dd.later (below_alloc _ _)).later b3); (first | replace z := z.later b3 | replace z := (z.later (below_alloc _ _)).later b3); (first | replace kk := sp.chain kk b3 | replace kk := sp.chain (sp.chain kk (below_alloc _ _)) b3); (try replace zz := zz.later b3); (try replace zz := (sp.blk_new _ none4).later b3); (try replace zz : sp.Blk _ X.heap.size none4 := (show sp.Blk (X.alloc (.cells #[.int .u64 0, .int .u64 0, .int .u64 0, .int .u64 0] 25)).drew X.heap.size none4 from sp.blk_new X none4).later b3); (try (have mm := sp8 zz; obtain ⟨m0, m1, m2, m3, n0, n1, n2, n3⟩ := mm)); have ltd := dd.lt; have ltz := z.lt; obtain ⟨c0, c1, c2, c3, _, _, _, _⟩ := sp8 dd)
    | (go_at_call 46; (with_reducible refine (h3 _).mono ?_); rintro e w4 ⟨rfl, b4⟩; (first | replace dd := dd.later b4 | replace dd := (dd.later (below_alloc _ _)).later b4); (first | replace z := z.later b4 | replace z := (z.later (below_alloc _ _)).later b4); (first | replace kk := sp.chain kk b4 | replace kk := sp.chain (sp.chain kk (below_alloc _ _)) b4); (try replace zz := zz.later b4); (try replace zz := (sp.blk_new _ none4).later b4); (try replace zz : sp.Blk _ X.heap.size none4 := (show sp.Blk (X.alloc (.cells #[.int .u64 0, .int .u64 0, .int .u64 0, .int .u64 0] 25)).drew X.heap.size none4 from sp.blk_new X none4).later b4); (try (have mm := sp8 zz; obtain ⟨m0, m1, m2, m3, n0, n1, n2, n3⟩ := mm)); have ltd := dd.lt; have ltz := z.lt; obtain ⟨c0, c1, c2, c3, _, _, _, _⟩ := sp8 dd)
    | (go_at_call 55; (with_reducible refine (j1 _).mono ?_); rintro e w5 ⟨rfl, b5⟩; (first | replace dd := dd.later b5 | replace dd := (dd.later (below_alloc _ _)).later b5); (first | replace z := z.later b5 | replace z := (z.later (below_alloc _ _)).later b5); (first | replace kk := sp.chain kk b5 | replace kk := sp.chain (sp.chain kk (below_alloc _ _)) b5); (try replace zz := zz.later b5); (try replace zz := (sp.blk_new _ none4).later b5); (try replace zz : sp.Blk _ X.heap.size none4 := (show sp.Blk (X.alloc (.cells #[.int .u64 0, .int .u64 0, .int .u64 0, .int .u64 0] 25)).drew X.heap.size none4 from sp.blk_new X none4).later b5); (try (have mm := sp8 zz; obtain ⟨m0, m1, m2, m3, n0, n1, n2, n3⟩ := mm)); have ltd := dd.lt; have ltz := z.lt; obtain ⟨c0, c1, c2, c3, _, _, _, _⟩ := sp8 dd)
    | (go_at_call 55; (with_reducible refine (j2 _).mono ?_); rintro e w6 ⟨rfl, b6⟩; (first | replace dd := dd.later b6 | replace dd := (dd.later (below_alloc _ _)).later b6); (first | replace z := z.later b6 | replace z := (z.later (below_alloc _ _)).later b6); (first | replace kk := sp.chain kk b6 | replace kk := sp.chain (sp.chain kk (below_alloc _ _)) b6); (try replace zz := zz.later b6); (try replace zz := (sp.blk_new _ none4).later b6); (try replace zz : sp.Blk _ X.heap.size none4 := (show sp.Blk (X.alloc (.cells #[.int .u64 0, .int .u64 0, .int .u64 0, .int .u64 0] 25)).drew X.heap.size none4 from sp.blk_new X none4).later b6); (try (have mm := sp8 zz; obtain ⟨m0, m1, m2, m3, n0, n1, n2, n3⟩ := mm)); have ltd := dd.lt; have ltz := z.lt; obtain ⟨c0, c1, c2, c3, _, _, _, _⟩ := sp8 dd)
    | (go_at_call 55; (with_reducible refine (j3 _).mono ?_); rintro e w7 ⟨rfl, b7⟩; (first | replace dd := dd.later b7 | replace dd := (dd.later (below_alloc _ _)).later b7); (first | replace z := z.later b7 | replace z := (z.later (below_alloc _ _)).later b7); (first | replace kk := sp.chain kk b7 | replace kk := sp.chain (sp.chain kk (below_alloc _ _)) b7); (try replace zz := zz.later b7); (try replace zz := (sp.blk_new _ none4).later b7); (try replace zz : sp.Blk _ X.heap.size none4 := (show sp.Blk (X.alloc (.cells #[.int .u64 0, .int .u64 0, .int .u64 0, .int .u64 0] 25)).drew X.heap.size none4 from sp.blk_new X none4).later b7); (try (have mm := sp8 zz; obtain ⟨m0, m1, m2, m3, n0, n1, n2, n3⟩ := mm)); have ltd := dd.lt; have ltz := z.lt; obtain ⟨c0, c1, c2, c3, _, _, _, _⟩ := sp8 dd))
    all_goals go_wp2_with fail
    all_goals go_meet
    all_goals first | (with_reducible refine ⟨_, rfl, sp.blk_new _ W, dd.later (below_alloc _ _), z.later (below_alloc _ _), sp.chain kk (below_alloc _ _)⟩) | (refine ⟨_, rfl, sp.set4 zz W, dd.other (touch_set4 _ _ W) (by omega), z.other (touch_set4 _ _ W) (by omega), below_over kk (touch_set4 _ _ W) (by omega)⟩)
  case rest =>
    clear h1 h2 h3 j1 j2 j3 hD dd z kk c0 c1 c2 c3 ltd ltz zz
    obtain ⟨gW, rfl, kW, kD, kz, kb⟩ := hcut
    rcases HK.out with ⟨rfl, rfl, rfl⟩ | ⟨rfl, rfl, rfl⟩ | ⟨rfl, rfl, rfl⟩ | ⟨rfl, rfl, rfl⟩ | ⟨rfl, rfl, rfl⟩ | ⟨rfl, rfl, rfl⟩ | ⟨⟨g1, g2, g3, g4, g5, g6⟩, rfl, rfl⟩
    · clear HK
      go_wp2_with (first | (go_at_call 46; (with_reducible refine (hB _).mono ?_); rintro e w8 ⟨rfl, b8⟩; have kW2 := (kW.later b8).later (below_alloc w8 (.cells #[.int .u64 B.a, .int .u64 B.b, .int .u64 B.c, .int .u64 B.d] 25)); have kD2 := (kD.later b8).later (below_alloc w8 (.cells #[.int .u64 B.a, .int .u64 B.b, .int .u64 B.c, .int .u64 B.d] 25)); have kz2 := (kz.later b8).later (below_alloc w8 (.cells #[.int .u64 B.a, .int .u64 B.b, .int .u64 B.c, .int .u64 B.d] 25)); have kB2 := sp.blk_new w8 B; have kb2 := sp.chain (sp.chain kb b8) (below_alloc w8 (.cells #[.int .u64 B.a, .int .u64 B.b, .int .u64 B.c, .int .u64 B.d] 25)); obtain ⟨y0, y1, y2, y3, _, _, _, _⟩ := sp8 kD2; obtain ⟨u0, u1, u2, u3, _, _, _, _⟩ := sp8 kW2; obtain ⟨c0, c1, c2, c3, f0, f1, f2, f3⟩ := sp8 kz2))
      refine ret25b Try.results47 w.heap.size D rfl (sp.set4 kz2 D) rfl ?_
      exact ⟨rfl, below_over kb2 (touch_set4 _ _ D) (Nat.le_refl _)⟩
    · clear HK
      go_wp2_with (first | (go_at_call 46; (with_reducible refine (hB _).mono ?_); rintro e w8 ⟨rfl, b8⟩; have kW2 := (kW.later b8).later (below_alloc w8 (.cells #[.int .u64 B.a, .int .u64 B.b, .int .u64 B.c, .int .u64 B.d] 25)); have kD2 := (kD.later b8).later (below_alloc w8 (.cells #[.int .u64 B.a, .int .u64 B.b, .int .u64 B.c, .int .u64 B.d] 25)); have kz2 := (kz.later b8).later (below_alloc w8 (.cells #[.int .u64 B.a, .int .u64 B.b, .int .u64 B.c, .int .u64 B.d] 25)); have kB2 := sp.blk_new w8 B; have kb2 := sp.chain (sp.chain kb b8) (below_alloc w8 (.cells #[.int .u64 B.a, .int .u64 B.b, .int .u64 B.c, .int .u64 B.d] 25)); obtain ⟨y0, y1, y2, y3, _, _, _, _⟩ := sp8 kD2; obtain ⟨u0, u1, u2, u3, _, _, _, _⟩ := sp8 kW2; obtain ⟨c0, c1, c2, c3, f0, f1, f2, f3⟩ := sp8 kz2) | (go_at_call 45; (with_reducible refine (nD _).mono ?_); rintro e w9 ⟨rfl, b9⟩; have kz3 := kz2.later b9; have kb3 := sp.chain kb2 b9; obtain ⟨m0, m1, m2, m3, n0, n1, n2, n3⟩ := sp8 kz3))
      refine ret25b Try.results47 w.heap.size ND rfl (sp.set4 kz3 ND) rfl ?_
      exact ⟨rfl, below_over kb3 (touch_set4 _ _ ND) (Nat.le_refl _)⟩
    · clear HK
      go_wp2_with (first | (go_at_call 46; (with_reducible refine (hB _).mono ?_); rintro e w8 ⟨rfl, b8⟩; have kW2 := (kW.later b8).later (below_alloc w8 (.cells #[.int .u64 B.a, .int .u64 B.b, .int .u64 B.c, .int .u64 B.d] 25)); have kD2 := (kD.later b8).later (below_alloc w8 (.cells #[.int .u64 B.a, .int .u64 B.b, .int .u64 B.c, .int .u64 B.d] 25)); have kz2 := (kz.later b8).later (below_alloc w8 (.cells #[.int .u64 B.a, .int .u64 B.b, .int .u64 B.c, .int .u64 B.d] 25)); have kB2 := sp.blk_new w8 B; have kb2 := sp.chain (sp.chain kb b8) (below_alloc w8 (.cells #[.int .u64 B.a, .int .u64 B.b, .int .u64 B.c, .int .u64 B.d] 25)); obtain ⟨y0, y1, y2, y3, _, _, _, _⟩ := sp8 kD2; obtain ⟨u0, u1, u2, u3, _, _, _, _⟩ := sp8 kW2; obtain ⟨c0, c1, c2, c3, f0, f1, f2, f3⟩ := sp8 kz2))
      refine ret25b Try.results47 w.heap.size W rfl (sp.set4 kz2 W) rfl ?_
      exact ⟨rfl, below_over kb2 (touch_set4 _ _ W) (Nat.le_refl _)⟩
    · clear HK
      go_wp2_with (first | (go_at_call 46; (with_reducible refine (hB _).mono ?_); rintro e w8 ⟨rfl, b8⟩; have kW2 := (kW.later b8).later (below_alloc w8 (.cells #[.int .u64 B.a, .int .u64 B.b, .int .u64 B.c, .int .u64 B.d] 25)); have kD2 := (kD.later b8).later (below_alloc w8 (.cells #[.int .u64 B.a, .int .u64 B.b, .int .u64 B.c, .int .u64 B.d] 25)); have kz2 := (kz.later b8).later (below_alloc w8 (.cells #[.int .u64 B.a, .int .u64 B.b, .int .u64 B.c, .int .u64 B.d] 25)); have kB2 := sp.blk_new w8 B; have kb2 := sp.chain (sp.chain kb b8) (below_alloc w8 (.cells #[.int .u64 B.a, .int .u64 B.b, .int .u64 B.c, .int .u64 B.d] 25)); obtain ⟨y0, y1, y2, y3, _, _, _, _⟩ := sp8 kD2; obtain ⟨u0, u1, u2, u3, _, _, _, _⟩ := sp8 kW2; obtain ⟨c0, c1, c2, c3, f0, f1, f2, f3⟩ := sp8 kz2) | (go_at_call 45; (with_reducible refine (nW _).mono ?_); rintro e w9 ⟨rfl, b9⟩; have kz3 := kz2.later b9; have kb3 := sp.chain kb2 b9; obtain ⟨m0, m1, m2, m3, n0, n1, n2, n3⟩ := sp8 kz3))
      refine ret25b Try.results47 w.heap.size NW rfl (sp.set4 kz3 NW) rfl ?_
      exact ⟨rfl, below_over kb3 (touch_set4 _ _ NW) (Nat.le_refl _)⟩
    · clear HK
      go_wp2_with (first | (go_at_call 46; (with_reducible refine (hB _).mono ?_); rintro e w8 ⟨rfl, b8⟩; have kW2 := (kW.later b8).later (below_alloc w8 (.cells #[.int .u64 B.a, .int .u64 B.b, .int .u64 B.c, .int .u64 B.d] 25)); have kD2 := (kD.later b8).later (below_alloc w8 (.cells #[.int .u64 B.a, .int .u64 B.b, .int .u64 B.c, .int .u64 B.d] 25)); have kz2 := (kz.later b8).later (below_alloc w8 (.cells #[.int .u64 B.a, .int .u64 B.b, .int .u64 B.c, .int .u64 B.d] 25)); have kB2 := sp.blk_new w8 B; have kb2 := sp.chain (sp.chain kb b8) (below_alloc w8 (.cells #[.int .u64 B.a, .int .u64 B.b, .int .u64 B.c, .int .u64 B.d] 25)); obtain ⟨y0, y1, y2, y3, _, _, _, _⟩ := sp8 kD2; obtain ⟨u0, u1, u2, u3, _, _, _, _⟩ := sp8 kW2; obtain ⟨c0, c1, c2, c3, f0, f1, f2, f3⟩ := sp8 kz2))
      refine ret25b Try.results47 w.heap.size B rfl (sp.set4 kz2 B) rfl ?_
      exact ⟨rfl, below_over kb2 (touch_set4 _ _ B) (Nat.le_refl _)⟩
    · clear HK
      go_wp2_with (first | (go_at_call 46; (with_reducible refine (hB _).mono ?_); rintro e w8 ⟨rfl, b8⟩; have kW2 := (kW.later b8).later (below_alloc w8 (.cells #[.int .u64 B.a, .int .u64 B.b, .int .u64 B.c, .int .u64 B.d] 25)); have kD2 := (kD.later b8).later (below_alloc w8 (.cells #[.int .u64 B.a, .int .u64 B.b, .int .u64 B.c, .int .u64 B.d] 25)); have kz2 := (kz.later b8).later (below_alloc w8 (.cells #[.int .u64 B.a, .int .u64 B.b, .int .u64 B.c, .int .u64 B.d] 25)); have kB2 := sp.blk_new w8 B; have kb2 := sp.chain (sp.chain kb b8) (below_alloc w8 (.cells #[.int .u64 B.a, .int .u64 B.b, .int .u64 B.c, .int .u64 B.d] 25)); obtain ⟨y0, y1, y2, y3, _, _, _, _⟩ := sp8 kD2; obtain ⟨u0, u1, u2, u3, _, _, _, _⟩ := sp8 kW2; obtain ⟨c0, c1, c2, c3, f0, f1, f2, f3⟩ := sp8 kz2) | (go_at_call 45; (with_reducible refine (nB _).mono ?_); rintro e w9 ⟨rfl, b9⟩; have kz3 := kz2.later b9; have kb3 := sp.chain kb2 b9; obtain ⟨m0, m1, m2, m3, n0, n1, n2, n3⟩ := sp8 kz3))
      refine ret25b Try.results47 w.heap.size NB rfl (sp.set4 kz3 NB) rfl ?_
      exact ⟨rfl, below_over kb3 (touch_set4 _ _ NB) (Nat.le_refl _)⟩
    · clear HK
      have e1 : (c == 100) = false := by rw [beq_eq_false_iff_ne]; exact g1
      have e2 : (c == 68) = false := by rw [beq_eq_false_iff_ne]; exact g2
      have e3 : (c == 119) = false := by rw [beq_eq_false_iff_ne]; exact g3
      have e4 : (c == 87) = false := by rw [beq_eq_false_iff_ne]; exact g4
      have e5 : (c == 115) = false := by rw [beq_eq_false_iff_ne]; exact g5
      have e6 : (c == 83) = false := by rw [beq_eq_false_iff_ne]; exact g6
      clear g1 g2 g3 g4 g5 g6
      go_wp2_with (first | (go_at_call 46; (with_reducible refine (hB _).mono ?_); rintro e w8 ⟨rfl, b8⟩; have kW2 := (kW.later b8).later (below_alloc w8 (.cells #[.int .u64 B.a, .int .u64 B.b, .int .u64 B.c, .int .u64 B.d] 25)); have kD2 := (kD.later b8).later (below_alloc w8 (.cells #[.int .u64 B.a, .int .u64 B.b, .int .u64 B.c, .int .u64 B.d] 25)); have kz2 := (kz.later b8).later (below_alloc w8 (.cells #[.int .u64 B.a, .int .u64 B.b, .int .u64 B.c, .int .u64 B.d] 25)); have kB2 := sp.blk_new w8 B; have kb2 := sp.chain (sp.chain kb b8) (below_alloc w8 (.cells #[.int .u64 B.a, .int .u64 B.b, .int .u64 B.c, .int .u64 B.d] 25)); obtain ⟨y0, y1, y2, y3, _, _, _, _⟩ := sp8 kD2; obtain ⟨u0, u1, u2, u3, _, _, _, _⟩ := sp8 kW2; obtain ⟨c0, c1, c2, c3, f0, f1, f2, f3⟩ := sp8 kz2))
      refine ret25b Try.results47 w.heap.size none4 rfl (sp.set4 kz2 none4) rfl ?_
      exact ⟨rfl, below_over kb2 (touch_set4 _ _ none4) (Nat.le_refl _)⟩
end Go.Proofs.Ytjfnefmolhihaaa.st
