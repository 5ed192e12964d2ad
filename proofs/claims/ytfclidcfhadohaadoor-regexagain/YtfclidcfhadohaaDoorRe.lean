/-
  Contracts over this program: sets that are written by one letter (regex.dot, lone, kindOf).
-/
import Derived.Test.YtfclidcfhadohaaDoorRc
import Derived.Test.YtfclidcfhadohaaDoorRef
namespace Go.Proofs.YtfclidcfhadohaaDoor.st
open Go.ChangeShapes Go.WideShapes Go.ChangeAt Go.RowKit
set_option linter.unusedVariables false

theorem fits_digit : Fits digitSet := fits_ofl _
theorem fits_letter : Fits letterSet := fits_jn (fits_rng _ _) (fits_rng _ _)
theorem fits_word : Fits wordSet := fits_jn (fits_jn fits_digit fits_letter) (fits_rng _ _)
theorem fits_blank : Fits blankSet := fits_ofl _
theorem fits_dot : Fits dotSet := fits_nt _

theorem sp8 {w : World} {g : Nat} {q : Q4} (h : sp.Blk w g q) : w.cell? ⟨g, 0, none⟩ = some (.int .u64 q.a) ∧ w.cell? ⟨g, 1, none⟩ = some (.int .u64 q.b) ∧ w.cell? ⟨g, 2, none⟩ = some (.int .u64 q.c) ∧ w.cell? ⟨g, 3, none⟩ = some (.int .u64 q.d) ∧
    w.frozen? ⟨g, 0, none⟩ = false ∧ w.frozen? ⟨g, 1, none⟩ = false ∧ w.frozen? ⟨g, 2, none⟩ = false ∧ w.frozen? ⟨g, 3, none⟩ = false := ⟨h.c0, h.c1, h.c2, h.c3, h.fz 0, h.fz 1, h.fz 2, h.fz 3⟩
theorem touch_over {w w1 w2 : World} {g b : Nat} (h : w.grownBy w1 (some g)) (t : w1.grownBy w2 (some b)) (hb : w.heap.size ≤ b) : w.grownBy w2 (some g) :=
  ⟨t.os.trans h.os, t.tape.trans h.tape, t.output.trans h.output, Nat.le_trans h.size t.size, fun k hk hne => (t.block k (Nat.lt_of_lt_of_le hk h.size) (fun e => by have := Option.some.inj e; omega)).trans (h.block k hk hne)⟩
theorem below_over {w w1 w2 : World} {b : Nat} (h : Below w.heap.size w w1) (t : w1.grownBy w2 (some b)) (hb : w.heap.size ≤ b) : Below w.heap.size w w2 := Below.grown h t h.size (by intro k hk; have := Option.some.inj hk; omega)
theorem touch_set4 (w : World) (g : Nat) (q : Q4) : w.grownBy ((((w.setCell ⟨g, 0, none⟩ (.int .u64 q.a)).setCell ⟨g, 1, none⟩ (.int .u64 q.b)).setCell ⟨g, 2, none⟩ (.int .u64 q.c)).setCell ⟨g, 3, none⟩ (.int .u64 q.d)) (some g) :=
  touch_trans (touch_trans (touch_trans (touch_cell _ _ _ _) (touch_cell _ _ _ _)) (touch_cell _ _ _ _)) (touch_cell _ _ _ _)
theorem Rd.other {w w' : World} {g b p op : Nat} {u : ByteArray} (h : Rd w g u p op) (t : w.grownBy w' (some b)) (hne : g ≠ b) : Rd w' g u p op := by
  unfold Rd; rw [t.block g h.lt (fun e => hne (Option.some.inj e))]; exact h

def LoneIs (b : Nat) (r : Q4) : Prop := ∀ w, Calls Tryd.prog 93 #[.int .u8 b] w fun e w' => e = .returned (.agg #[.int .u64 r.a, .int .u64 r.b, .int .u64 r.c, .int .u64 r.d]) ∧ Below w.heap.size w w'
theorem lone_any (b : Nat) (hb : b < 256) (r : Q4) (hr : r = rng b b) : LoneIs b r := by
  intro w
  have h80 := sp.range_any b b hb hb r hr
  clear hr
  have hz := sp.blk_new w none4
  go_enter Tryd.func93, Tryd.ntmps93
  go_wp2_with (go_at_call 99; refine (h80 _).mono ?_; rintro e w1 ⟨rfl, b1⟩; have k := hz.later b1; obtain ⟨c0, c1, c2, c3, f0, f1, f2, f3⟩ := sp8 k)
  refine sp.ret25 Tryd.results93 w.heap.size r rfl (sp.set4 k r) rfl ?_
  exact ⟨rfl, below_over (sp.chain (below_alloc _ _) b1) (touch_set4 _ _ _) (Nat.le_refl _)⟩

def DotIs (r : Q4) : Prop := ∀ w, Calls Tryd.prog 35 #[] w fun e w' => e = .returned (.agg #[.int .u64 r.a, .int .u64 r.b, .int .u64 r.c, .int .u64 r.d]) ∧ Below w.heap.size w w'
theorem dot_any (r : Q4) (hr : r = dotSet) : DotIs r := by
  intro w
  have h78 := sp.of_any ⟨#[10]⟩ (by decide) (ofl [10]) rfl
  have h77 := sp.not_any (ofl [10]) r (fits_ofl _) hr
  clear hr
  generalize ofl [10] = n at *
  have hz := sp.blk_new w none4
  go_enter Tryd.func35, Tryd.ntmps35
  go_wp2_with (first | (go_at_call 53; refine (h78 _).mono ?_; rintro e w1 ⟨rfl, b1⟩; have k1 := hz.later b1) | (go_at_call 40; refine (h77 _).mono ?_; rintro e w2 ⟨rfl, b2⟩; have k := k1.later b2; obtain ⟨c0, c1, c2, c3, f0, f1, f2, f3⟩ := sp8 k))
  refine sp.ret25 Tryd.results35 w.heap.size r rfl (sp.set4 k r) rfl ?_
  exact ⟨rfl, below_over (sp.chain (sp.chain (below_alloc _ _) b1) b2) (touch_set4 _ _ _) (Nat.le_refl _)⟩

/-- a set and whether it is one: what a letter is written for -/
def KofIs (c : Nat) (q : Q4) (r : Bool) : Prop := ∀ w, Calls Tryd.prog 98 #[.int .u8 c] w fun e w' => e = .returned (.tuple #[.agg #[.int .u64 q.a, .int .u64 q.b, .int .u64 q.c, .int .u64 q.d], .bool r]) ∧ Below w.heap.size w w'
theorem ret25b {fn : Func} {p t : Tmp} (h : fn.results = #[.cell p 25, .tmp t]) {a : Act} {W : World} {R : Ending → World → Prop} (g : Nat) (q : Q4) (hp : a.tmps.getD p undef = .pointer (some ⟨g, 0, none⟩)) (hb : sp.Blk W g q) (hd : a.defers = [])
    (hR : R (.returned (.tuple #[.agg #[.int .u64 q.a, .int .u64 q.b, .int .u64 q.c, .int .u64 q.d], a.tmps.getD t undef])) W) : bodyPost Tryd.prog fn R .ret a W := by
  refine bodyPost_ret ?_ hd hR
  rw [results_cell_tmp h, hp]
  simp only [asAddr, Sem.run_pure, Result.andThen_ok]
  rw [run_loadVar_row W g 25 25 _ (0, 0) _ hb Tryd.underlying25 rfl (by kernel_rfl)]
  rfl

set_option maxHeartbeats 2000000 in
set_option maxRecDepth 100000 in
theorem kd (X1 X2 X3 D L A W B : Q4) (h78a : sp.OfIs ⟨#[48, 49, 50, 51, 52, 53, 54, 55, 56, 57]⟩ D) (h80a : ∀ w, Calls Tryd.prog 99 #[.int .u8 65, .int .u8 90] w fun e w' => e = .returned (.agg #[.int .u64 X1.a, .int .u64 X1.b, .int .u64 X1.c, .int .u64 X1.d]) ∧ Below w.heap.size w w') (h80b : ∀ w, Calls Tryd.prog 99 #[.int .u8 97, .int .u8 122] w fun e w' => e = .returned (.agg #[.int .u64 X2.a, .int .u64 X2.b, .int .u64 X2.c, .int .u64 X2.d]) ∧ Below w.heap.size w w') (h76a : sp.JoinIs X1 X2 L) (h76b : sp.JoinIs D L A) (h72 : ∀ w, Calls Tryd.prog 93 #[.int .u8 95] w fun e w' => e = .returned (.agg #[.int .u64 X3.a, .int .u64 X3.b, .int .u64 X3.c, .int .u64 X3.d]) ∧ Below w.heap.size w w') (h76c : sp.JoinIs A X3 W) (h78b : sp.OfIs ⟨#[9, 10, 11, 12, 13, 32]⟩ B) : KofIs 100 D true := by
  intro w
  unfold sp.OfIs at h78a h78b
  unfold sp.JoinIs at h76a h76b h76c
  have hz := sp.blk_new w none4
  go_enter Tryd.func98, Tryd.ntmps98
  go_wp2_with (first
    | (go_at_call 53; (with_reducible refine (h78a _).mono ?_); rintro e w1 ⟨rfl, b1⟩; have z1 := hz.later b1)
    | (go_at_call 99; (with_reducible refine (h80a _).mono ?_); rintro e w2 ⟨rfl, b2⟩; have d2 := (sp.blk_new w1 D).later b2; have z2 := (z1.later (below_alloc w1 _)).later b2)
    | (go_at_call 99; (with_reducible refine (h80b _).mono ?_); rintro e w3 ⟨rfl, b3⟩; have d3 := d2.later b3; have z3 := z2.later b3)
    | (go_at_call 97; (with_reducible refine (h76a _).mono ?_); rintro e w4 ⟨rfl, b4⟩; have d4 := (d3.later b4).later (below_alloc w4 (.cells #[.int .u64 L.a, .int .u64 L.b, .int .u64 L.c, .int .u64 L.d] 25)); have z4 := (z3.later b4).later (below_alloc w4 (.cells #[.int .u64 L.a, .int .u64 L.b, .int .u64 L.c, .int .u64 L.d] 25)); obtain ⟨x0, x1, x2, x3, _, _, _, _⟩ := sp8 d4)
    | (go_at_call 97; (with_reducible refine (h76b _).mono ?_); rintro e w5 ⟨rfl, b5⟩; have d5 := d4.later b5; have z5 := z4.later b5)
    | (go_at_call 93; (with_reducible refine (h72 _).mono ?_); rintro e w6 ⟨rfl, b6⟩; have d6 := d5.later b6; have z6 := z5.later b6)
    | (go_at_call 97; (with_reducible refine (h76c _).mono ?_); rintro e w7 ⟨rfl, b7⟩; have d7 := d6.later b7; have z7 := z6.later b7)
    | (go_at_call 53; (with_reducible refine (h78b _).mono ?_); rintro e w8 ⟨rfl, b8⟩; have d9 := ((d7.later (below_alloc w7 _)).later b8).later (below_alloc w8 (.cells #[.int .u64 B.a, .int .u64 B.b, .int .u64 B.c, .int .u64 B.d] 25)); have k9 := ((sp.blk_new w7 W).later b8).later (below_alloc w8 (.cells #[.int .u64 B.a, .int .u64 B.b, .int .u64 B.c, .int .u64 B.d] 25)); have z9 := ((z7.later (below_alloc w7 _)).later b8).later (below_alloc w8 (.cells #[.int .u64 B.a, .int .u64 B.b, .int .u64 B.c, .int .u64 B.d] 25)); obtain ⟨y0, y1, y2, y3, _, _, _, _⟩ := sp8 d9; obtain ⟨u0, u1, u2, u3, _, _, _, _⟩ := sp8 k9; obtain ⟨c0, c1, c2, c3, f0, f1, f2, f3⟩ := sp8 z9))
  refine ret25b Tryd.results98 w.heap.size D rfl (sp.set4 z9 D) rfl ?_
  exact ⟨rfl, below_over (sp.chain (sp.chain (sp.chain (sp.chain (sp.chain (sp.chain (sp.chain (sp.chain (sp.chain (sp.chain (sp.chain (below_alloc _ _) b1) (below_alloc _ _)) b2) b3) b4) (below_alloc _ _)) b5) b6) b7) (below_alloc _ _)) (sp.chain b8 (below_alloc _ _))) (touch_set4 _ _ _) (Nat.le_refl _)⟩

set_option maxHeartbeats 2000000 in
set_option maxRecDepth 100000 in
theorem kw (X1 X2 X3 D L A W B : Q4) (h78a : sp.OfIs ⟨#[48, 49, 50, 51, 52, 53, 54, 55, 56, 57]⟩ D) (h80a : ∀ w, Calls Tryd.prog 99 #[.int .u8 65, .int .u8 90] w fun e w' => e = .returned (.agg #[.int .u64 X1.a, .int .u64 X1.b, .int .u64 X1.c, .int .u64 X1.d]) ∧ Below w.heap.size w w') (h80b : ∀ w, Calls Tryd.prog 99 #[.int .u8 97, .int .u8 122] w fun e w' => e = .returned (.agg #[.int .u64 X2.a, .int .u64 X2.b, .int .u64 X2.c, .int .u64 X2.d]) ∧ Below w.heap.size w w') (h76a : sp.JoinIs X1 X2 L) (h76b : sp.JoinIs D L A) (h72 : ∀ w, Calls Tryd.prog 93 #[.int .u8 95] w fun e w' => e = .returned (.agg #[.int .u64 X3.a, .int .u64 X3.b, .int .u64 X3.c, .int .u64 X3.d]) ∧ Below w.heap.size w w') (h76c : sp.JoinIs A X3 W) (h78b : sp.OfIs ⟨#[9, 10, 11, 12, 13, 32]⟩ B) : KofIs 119 W true := by
  intro w
  unfold sp.OfIs at h78a h78b
  unfold sp.JoinIs at h76a h76b h76c
  have hz := sp.blk_new w none4
  go_enter Tryd.func98, Tryd.ntmps98
  go_wp2_with (first
    | (go_at_call 53; (with_reducible refine (h78a _).mono ?_); rintro e w1 ⟨rfl, b1⟩; have z1 := hz.later b1)
    | (go_at_call 99; (with_reducible refine (h80a _).mono ?_); rintro e w2 ⟨rfl, b2⟩; have d2 := (sp.blk_new w1 D).later b2; have z2 := (z1.later (below_alloc w1 _)).later b2)
    | (go_at_call 99; (with_reducible refine (h80b _).mono ?_); rintro e w3 ⟨rfl, b3⟩; have d3 := d2.later b3; have z3 := z2.later b3)
    | (go_at_call 97; (with_reducible refine (h76a _).mono ?_); rintro e w4 ⟨rfl, b4⟩; have d4 := (d3.later b4).later (below_alloc w4 (.cells #[.int .u64 L.a, .int .u64 L.b, .int .u64 L.c, .int .u64 L.d] 25)); have z4 := (z3.later b4).later (below_alloc w4 (.cells #[.int .u64 L.a, .int .u64 L.b, .int .u64 L.c, .int .u64 L.d] 25)); obtain ⟨x0, x1, x2, x3, _, _, _, _⟩ := sp8 d4)
    | (go_at_call 97; (with_reducible refine (h76b _).mono ?_); rintro e w5 ⟨rfl, b5⟩; have d5 := d4.later b5; have z5 := z4.later b5)
    | (go_at_call 93; (with_reducible refine (h72 _).mono ?_); rintro e w6 ⟨rfl, b6⟩; have d6 := d5.later b6; have z6 := z5.later b6)
    | (go_at_call 97; (with_reducible refine (h76c _).mono ?_); rintro e w7 ⟨rfl, b7⟩; have d7 := d6.later b7; have z7 := z6.later b7)
    | (go_at_call 53; (with_reducible refine (h78b _).mono ?_); rintro e w8 ⟨rfl, b8⟩; have d9 := ((d7.later (below_alloc w7 _)).later b8).later (below_alloc w8 (.cells #[.int .u64 B.a, .int .u64 B.b, .int .u64 B.c, .int .u64 B.d] 25)); have k9 := ((sp.blk_new w7 W).later b8).later (below_alloc w8 (.cells #[.int .u64 B.a, .int .u64 B.b, .int .u64 B.c, .int .u64 B.d] 25)); have z9 := ((z7.later (below_alloc w7 _)).later b8).later (below_alloc w8 (.cells #[.int .u64 B.a, .int .u64 B.b, .int .u64 B.c, .int .u64 B.d] 25)); obtain ⟨y0, y1, y2, y3, _, _, _, _⟩ := sp8 d9; obtain ⟨u0, u1, u2, u3, _, _, _, _⟩ := sp8 k9; obtain ⟨c0, c1, c2, c3, f0, f1, f2, f3⟩ := sp8 z9))
  refine ret25b Tryd.results98 w.heap.size W rfl (sp.set4 z9 W) rfl ?_
  exact ⟨rfl, below_over (sp.chain (sp.chain (sp.chain (sp.chain (sp.chain (sp.chain (sp.chain (sp.chain (sp.chain (sp.chain (sp.chain (below_alloc _ _) b1) (below_alloc _ _)) b2) b3) b4) (below_alloc _ _)) b5) b6) b7) (below_alloc _ _)) (sp.chain b8 (below_alloc _ _))) (touch_set4 _ _ _) (Nat.le_refl _)⟩

set_option maxHeartbeats 2000000 in
set_option maxRecDepth 100000 in
theorem ks (X1 X2 X3 D L A W B : Q4) (h78a : sp.OfIs ⟨#[48, 49, 50, 51, 52, 53, 54, 55, 56, 57]⟩ D) (h80a : ∀ w, Calls Tryd.prog 99 #[.int .u8 65, .int .u8 90] w fun e w' => e = .returned (.agg #[.int .u64 X1.a, .int .u64 X1.b, .int .u64 X1.c, .int .u64 X1.d]) ∧ Below w.heap.size w w') (h80b : ∀ w, Calls Tryd.prog 99 #[.int .u8 97, .int .u8 122] w fun e w' => e = .returned (.agg #[.int .u64 X2.a, .int .u64 X2.b, .int .u64 X2.c, .int .u64 X2.d]) ∧ Below w.heap.size w w') (h76a : sp.JoinIs X1 X2 L) (h76b : sp.JoinIs D L A) (h72 : ∀ w, Calls Tryd.prog 93 #[.int .u8 95] w fun e w' => e = .returned (.agg #[.int .u64 X3.a, .int .u64 X3.b, .int .u64 X3.c, .int .u64 X3.d]) ∧ Below w.heap.size w w') (h76c : sp.JoinIs A X3 W) (h78b : sp.OfIs ⟨#[9, 10, 11, 12, 13, 32]⟩ B) : KofIs 115 B true := by
  intro w
  unfold sp.OfIs at h78a h78b
  unfold sp.JoinIs at h76a h76b h76c
  have hz := sp.blk_new w none4
  go_enter Tryd.func98, Tryd.ntmps98
  go_wp2_with (first
    | (go_at_call 53; (with_reducible refine (h78a _).mono ?_); rintro e w1 ⟨rfl, b1⟩; have z1 := hz.later b1)
    | (go_at_call 99; (with_reducible refine (h80a _).mono ?_); rintro e w2 ⟨rfl, b2⟩; have d2 := (sp.blk_new w1 D).later b2; have z2 := (z1.later (below_alloc w1 _)).later b2)
    | (go_at_call 99; (with_reducible refine (h80b _).mono ?_); rintro e w3 ⟨rfl, b3⟩; have d3 := d2.later b3; have z3 := z2.later b3)
    | (go_at_call 97; (with_reducible refine (h76a _).mono ?_); rintro e w4 ⟨rfl, b4⟩; have d4 := (d3.later b4).later (below_alloc w4 (.cells #[.int .u64 L.a, .int .u64 L.b, .int .u64 L.c, .int .u64 L.d] 25)); have z4 := (z3.later b4).later (below_alloc w4 (.cells #[.int .u64 L.a, .int .u64 L.b, .int .u64 L.c, .int .u64 L.d] 25)); obtain ⟨x0, x1, x2, x3, _, _, _, _⟩ := sp8 d4)
    | (go_at_call 97; (with_reducible refine (h76b _).mono ?_); rintro e w5 ⟨rfl, b5⟩; have d5 := d4.later b5; have z5 := z4.later b5)
    | (go_at_call 93; (with_reducible refine (h72 _).mono ?_); rintro e w6 ⟨rfl, b6⟩; have d6 := d5.later b6; have z6 := z5.later b6)
    | (go_at_call 97; (with_reducible refine (h76c _).mono ?_); rintro e w7 ⟨rfl, b7⟩; have d7 := d6.later b7; have z7 := z6.later b7)
    | (go_at_call 53; (with_reducible refine (h78b _).mono ?_); rintro e w8 ⟨rfl, b8⟩; have d9 := ((d7.later (below_alloc w7 _)).later b8).later (below_alloc w8 (.cells #[.int .u64 B.a, .int .u64 B.b, .int .u64 B.c, .int .u64 B.d] 25)); have k9 := ((sp.blk_new w7 W).later b8).later (below_alloc w8 (.cells #[.int .u64 B.a, .int .u64 B.b, .int .u64 B.c, .int .u64 B.d] 25)); have z9 := ((z7.later (below_alloc w7 _)).later b8).later (below_alloc w8 (.cells #[.int .u64 B.a, .int .u64 B.b, .int .u64 B.c, .int .u64 B.d] 25)); obtain ⟨y0, y1, y2, y3, _, _, _, _⟩ := sp8 d9; obtain ⟨u0, u1, u2, u3, _, _, _, _⟩ := sp8 k9; obtain ⟨c0, c1, c2, c3, f0, f1, f2, f3⟩ := sp8 z9))
  refine ret25b Tryd.results98 w.heap.size B rfl (sp.set4 z9 B) rfl ?_
  exact ⟨rfl, below_over (sp.chain (sp.chain (sp.chain (sp.chain (sp.chain (sp.chain (sp.chain (sp.chain (sp.chain (sp.chain (sp.chain (below_alloc _ _) b1) (below_alloc _ _)) b2) b3) b4) (below_alloc _ _)) b5) b6) b7) (below_alloc _ _)) (sp.chain b8 (below_alloc _ _))) (touch_set4 _ _ _) (Nat.le_refl _)⟩

set_option maxHeartbeats 2000000 in
set_option maxRecDepth 100000 in
theorem kD (X1 X2 X3 D L A W B : Q4) (h78a : sp.OfIs ⟨#[48, 49, 50, 51, 52, 53, 54, 55, 56, 57]⟩ D) (h80a : ∀ w, Calls Tryd.prog 99 #[.int .u8 65, .int .u8 90] w fun e w' => e = .returned (.agg #[.int .u64 X1.a, .int .u64 X1.b, .int .u64 X1.c, .int .u64 X1.d]) ∧ Below w.heap.size w w') (h80b : ∀ w, Calls Tryd.prog 99 #[.int .u8 97, .int .u8 122] w fun e w' => e = .returned (.agg #[.int .u64 X2.a, .int .u64 X2.b, .int .u64 X2.c, .int .u64 X2.d]) ∧ Below w.heap.size w w') (h76a : sp.JoinIs X1 X2 L) (h76b : sp.JoinIs D L A) (h72 : ∀ w, Calls Tryd.prog 93 #[.int .u8 95] w fun e w' => e = .returned (.agg #[.int .u64 X3.a, .int .u64 X3.b, .int .u64 X3.c, .int .u64 X3.d]) ∧ Below w.heap.size w w') (h76c : sp.JoinIs A X3 W) (h78b : sp.OfIs ⟨#[9, 10, 11, 12, 13, 32]⟩ B) (V : Q4) (h77 : sp.NotIs D V) : KofIs 68 V true := by
  intro w
  unfold sp.OfIs at h78a h78b
  unfold sp.JoinIs at h76a h76b h76c
  unfold sp.NotIs at h77
  have hz := sp.blk_new w none4
  go_enter Tryd.func98, Tryd.ntmps98
  go_wp2_with (first
    | (go_at_call 53; (with_reducible refine (h78a _).mono ?_); rintro e w1 ⟨rfl, b1⟩; have z1 := hz.later b1)
    | (go_at_call 99; (with_reducible refine (h80a _).mono ?_); rintro e w2 ⟨rfl, b2⟩; have d2 := (sp.blk_new w1 D).later b2; have z2 := (z1.later (below_alloc w1 _)).later b2)
    | (go_at_call 99; (with_reducible refine (h80b _).mono ?_); rintro e w3 ⟨rfl, b3⟩; have d3 := d2.later b3; have z3 := z2.later b3)
    | (go_at_call 97; (with_reducible refine (h76a _).mono ?_); rintro e w4 ⟨rfl, b4⟩; have d4 := (d3.later b4).later (below_alloc w4 (.cells #[.int .u64 L.a, .int .u64 L.b, .int .u64 L.c, .int .u64 L.d] 25)); have z4 := (z3.later b4).later (below_alloc w4 (.cells #[.int .u64 L.a, .int .u64 L.b, .int .u64 L.c, .int .u64 L.d] 25)); obtain ⟨x0, x1, x2, x3, _, _, _, _⟩ := sp8 d4)
    | (go_at_call 97; (with_reducible refine (h76b _).mono ?_); rintro e w5 ⟨rfl, b5⟩; have d5 := d4.later b5; have z5 := z4.later b5)
    | (go_at_call 93; (with_reducible refine (h72 _).mono ?_); rintro e w6 ⟨rfl, b6⟩; have d6 := d5.later b6; have z6 := z5.later b6)
    | (go_at_call 97; (with_reducible refine (h76c _).mono ?_); rintro e w7 ⟨rfl, b7⟩; have d7 := d6.later b7; have z7 := z6.later b7)
    | (go_at_call 53; (with_reducible refine (h78b _).mono ?_); rintro e w8 ⟨rfl, b8⟩; have d9 := ((d7.later (below_alloc w7 _)).later b8).later (below_alloc w8 (.cells #[.int .u64 B.a, .int .u64 B.b, .int .u64 B.c, .int .u64 B.d] 25)); have k9 := ((sp.blk_new w7 W).later b8).later (below_alloc w8 (.cells #[.int .u64 B.a, .int .u64 B.b, .int .u64 B.c, .int .u64 B.d] 25)); have z9 := ((z7.later (below_alloc w7 _)).later b8).later (below_alloc w8 (.cells #[.int .u64 B.a, .int .u64 B.b, .int .u64 B.c, .int .u64 B.d] 25)); obtain ⟨y0, y1, y2, y3, _, _, _, _⟩ := sp8 d9; obtain ⟨u0, u1, u2, u3, _, _, _, _⟩ := sp8 k9; obtain ⟨c0, c1, c2, c3, f0, f1, f2, f3⟩ := sp8 z9)
    | (go_at_call 40; (with_reducible refine (h77 _).mono ?_); rintro e w9 ⟨rfl, b9⟩; have z10 := z9.later b9; obtain ⟨m0, m1, m2, m3, n0, n1, n2, n3⟩ := sp8 z10))
  refine ret25b Tryd.results98 w.heap.size V rfl (sp.set4 z10 V) rfl ?_
  exact ⟨rfl, below_over (sp.chain (sp.chain (sp.chain (sp.chain (sp.chain (sp.chain (sp.chain (sp.chain (sp.chain (sp.chain (sp.chain (sp.chain (below_alloc _ _) b1) (below_alloc _ _)) b2) b3) b4) (below_alloc _ _)) b5) b6) b7) (below_alloc _ _)) (sp.chain b8 (below_alloc _ _))) b9) (touch_set4 _ _ _) (Nat.le_refl _)⟩

set_option maxHeartbeats 2000000 in
set_option maxRecDepth 100000 in
theorem kW (X1 X2 X3 D L A W B : Q4) (h78a : sp.OfIs ⟨#[48, 49, 50, 51, 52, 53, 54, 55, 56, 57]⟩ D) (h80a : ∀ w, Calls Tryd.prog 99 #[.int .u8 65, .int .u8 90] w fun e w' => e = .returned (.agg #[.int .u64 X1.a, .int .u64 X1.b, .int .u64 X1.c, .int .u64 X1.d]) ∧ Below w.heap.size w w') (h80b : ∀ w, Calls Tryd.prog 99 #[.int .u8 97, .int .u8 122] w fun e w' => e = .returned (.agg #[.int .u64 X2.a, .int .u64 X2.b, .int .u64 X2.c, .int .u64 X2.d]) ∧ Below w.heap.size w w') (h76a : sp.JoinIs X1 X2 L) (h76b : sp.JoinIs D L A) (h72 : ∀ w, Calls Tryd.prog 93 #[.int .u8 95] w fun e w' => e = .returned (.agg #[.int .u64 X3.a, .int .u64 X3.b, .int .u64 X3.c, .int .u64 X3.d]) ∧ Below w.heap.size w w') (h76c : sp.JoinIs A X3 W) (h78b : sp.OfIs ⟨#[9, 10, 11, 12, 13, 32]⟩ B) (V : Q4) (h77 : sp.NotIs W V) : KofIs 87 V true := by
  intro w
  unfold sp.OfIs at h78a h78b
  unfold sp.JoinIs at h76a h76b h76c
  unfold sp.NotIs at h77
  have hz := sp.blk_new w none4
  go_enter Tryd.func98, Tryd.ntmps98
  go_wp2_with (first
    | (go_at_call 53; (with_reducible refine (h78a _).mono ?_); rintro e w1 ⟨rfl, b1⟩; have z1 := hz.later b1)
    | (go_at_call 99; (with_reducible refine (h80a _).mono ?_); rintro e w2 ⟨rfl, b2⟩; have d2 := (sp.blk_new w1 D).later b2; have z2 := (z1.later (below_alloc w1 _)).later b2)
    | (go_at_call 99; (with_reducible refine (h80b _).mono ?_); rintro e w3 ⟨rfl, b3⟩; have d3 := d2.later b3; have z3 := z2.later b3)
    | (go_at_call 97; (with_reducible refine (h76a _).mono ?_); rintro e w4 ⟨rfl, b4⟩; have d4 := (d3.later b4).later (below_alloc w4 (.cells #[.int .u64 L.a, .int .u64 L.b, .int .u64 L.c, .int .u64 L.d] 25)); have z4 := (z3.later b4).later (below_alloc w4 (.cells #[.int .u64 L.a, .int .u64 L.b, .int .u64 L.c, .int .u64 L.d] 25)); obtain ⟨x0, x1, x2, x3, _, _, _, _⟩ := sp8 d4)
    | (go_at_call 97; (with_reducible refine (h76b _).mono ?_); rintro e w5 ⟨rfl, b5⟩; have d5 := d4.later b5; have z5 := z4.later b5)
    | (go_at_call 93; (with_reducible refine (h72 _).mono ?_); rintro e w6 ⟨rfl, b6⟩; have d6 := d5.later b6; have z6 := z5.later b6)
    | (go_at_call 97; (with_reducible refine (h76c _).mono ?_); rintro e w7 ⟨rfl, b7⟩; have d7 := d6.later b7; have z7 := z6.later b7)
    | (go_at_call 53; (with_reducible refine (h78b _).mono ?_); rintro e w8 ⟨rfl, b8⟩; have d9 := ((d7.later (below_alloc w7 _)).later b8).later (below_alloc w8 (.cells #[.int .u64 B.a, .int .u64 B.b, .int .u64 B.c, .int .u64 B.d] 25)); have k9 := ((sp.blk_new w7 W).later b8).later (below_alloc w8 (.cells #[.int .u64 B.a, .int .u64 B.b, .int .u64 B.c, .int .u64 B.d] 25)); have z9 := ((z7.later (below_alloc w7 _)).later b8).later (below_alloc w8 (.cells #[.int .u64 B.a, .int .u64 B.b, .int .u64 B.c, .int .u64 B.d] 25)); obtain ⟨y0, y1, y2, y3, _, _, _, _⟩ := sp8 d9; obtain ⟨u0, u1, u2, u3, _, _, _, _⟩ := sp8 k9; obtain ⟨c0, c1, c2, c3, f0, f1, f2, f3⟩ := sp8 z9)
    | (go_at_call 40; (with_reducible refine (h77 _).mono ?_); rintro e w9 ⟨rfl, b9⟩; have z10 := z9.later b9; obtain ⟨m0, m1, m2, m3, n0, n1, n2, n3⟩ := sp8 z10))
  refine ret25b Tryd.results98 w.heap.size V rfl (sp.set4 z10 V) rfl ?_
  exact ⟨rfl, below_over (sp.chain (sp.chain (sp.chain (sp.chain (sp.chain (sp.chain (sp.chain (sp.chain (sp.chain (sp.chain (sp.chain (sp.chain (below_alloc _ _) b1) (below_alloc _ _)) b2) b3) b4) (below_alloc _ _)) b5) b6) b7) (below_alloc _ _)) (sp.chain b8 (below_alloc _ _))) b9) (touch_set4 _ _ _) (Nat.le_refl _)⟩

set_option maxHeartbeats 2000000 in
set_option maxRecDepth 100000 in
theorem kS (X1 X2 X3 D L A W B : Q4) (h78a : sp.OfIs ⟨#[48, 49, 50, 51, 52, 53, 54, 55, 56, 57]⟩ D) (h80a : ∀ w, Calls Tryd.prog 99 #[.int .u8 65, .int .u8 90] w fun e w' => e = .returned (.agg #[.int .u64 X1.a, .int .u64 X1.b, .int .u64 X1.c, .int .u64 X1.d]) ∧ Below w.heap.size w w') (h80b : ∀ w, Calls Tryd.prog 99 #[.int .u8 97, .int .u8 122] w fun e w' => e = .returned (.agg #[.int .u64 X2.a, .int .u64 X2.b, .int .u64 X2.c, .int .u64 X2.d]) ∧ Below w.heap.size w w') (h76a : sp.JoinIs X1 X2 L) (h76b : sp.JoinIs D L A) (h72 : ∀ w, Calls Tryd.prog 93 #[.int .u8 95] w fun e w' => e = .returned (.agg #[.int .u64 X3.a, .int .u64 X3.b, .int .u64 X3.c, .int .u64 X3.d]) ∧ Below w.heap.size w w') (h76c : sp.JoinIs A X3 W) (h78b : sp.OfIs ⟨#[9, 10, 11, 12, 13, 32]⟩ B) (V : Q4) (h77 : sp.NotIs B V) : KofIs 83 V true := by
  intro w
  unfold sp.OfIs at h78a h78b
  unfold sp.JoinIs at h76a h76b h76c
  unfold sp.NotIs at h77
  have hz := sp.blk_new w none4
  go_enter Tryd.func98, Tryd.ntmps98
  go_wp2_with (first
    | (go_at_call 53; (with_reducible refine (h78a _).mono ?_); rintro e w1 ⟨rfl, b1⟩; have z1 := hz.later b1)
    | (go_at_call 99; (with_reducible refine (h80a _).mono ?_); rintro e w2 ⟨rfl, b2⟩; have d2 := (sp.blk_new w1 D).later b2; have z2 := (z1.later (below_alloc w1 _)).later b2)
    | (go_at_call 99; (with_reducible refine (h80b _).mono ?_); rintro e w3 ⟨rfl, b3⟩; have d3 := d2.later b3; have z3 := z2.later b3)
    | (go_at_call 97; (with_reducible refine (h76a _).mono ?_); rintro e w4 ⟨rfl, b4⟩; have d4 := (d3.later b4).later (below_alloc w4 (.cells #[.int .u64 L.a, .int .u64 L.b, .int .u64 L.c, .int .u64 L.d] 25)); have z4 := (z3.later b4).later (below_alloc w4 (.cells #[.int .u64 L.a, .int .u64 L.b, .int .u64 L.c, .int .u64 L.d] 25)); obtain ⟨x0, x1, x2, x3, _, _, _, _⟩ := sp8 d4)
    | (go_at_call 97; (with_reducible refine (h76b _).mono ?_); rintro e w5 ⟨rfl, b5⟩; have d5 := d4.later b5; have z5 := z4.later b5)
    | (go_at_call 93; (with_reducible refine (h72 _).mono ?_); rintro e w6 ⟨rfl, b6⟩; have d6 := d5.later b6; have z6 := z5.later b6)
    | (go_at_call 97; (with_reducible refine (h76c _).mono ?_); rintro e w7 ⟨rfl, b7⟩; have d7 := d6.later b7; have z7 := z6.later b7)
    | (go_at_call 53; (with_reducible refine (h78b _).mono ?_); rintro e w8 ⟨rfl, b8⟩; have d9 := ((d7.later (below_alloc w7 _)).later b8).later (below_alloc w8 (.cells #[.int .u64 B.a, .int .u64 B.b, .int .u64 B.c, .int .u64 B.d] 25)); have k9 := ((sp.blk_new w7 W).later b8).later (below_alloc w8 (.cells #[.int .u64 B.a, .int .u64 B.b, .int .u64 B.c, .int .u64 B.d] 25)); have z9 := ((z7.later (below_alloc w7 _)).later b8).later (below_alloc w8 (.cells #[.int .u64 B.a, .int .u64 B.b, .int .u64 B.c, .int .u64 B.d] 25)); obtain ⟨y0, y1, y2, y3, _, _, _, _⟩ := sp8 d9; obtain ⟨u0, u1, u2, u3, _, _, _, _⟩ := sp8 k9; obtain ⟨c0, c1, c2, c3, f0, f1, f2, f3⟩ := sp8 z9)
    | (go_at_call 40; (with_reducible refine (h77 _).mono ?_); rintro e w9 ⟨rfl, b9⟩; have z10 := z9.later b9; obtain ⟨m0, m1, m2, m3, n0, n1, n2, n3⟩ := sp8 z10))
  refine ret25b Tryd.results98 w.heap.size V rfl (sp.set4 z10 V) rfl ?_
  exact ⟨rfl, below_over (sp.chain (sp.chain (sp.chain (sp.chain (sp.chain (sp.chain (sp.chain (sp.chain (sp.chain (sp.chain (sp.chain (sp.chain (below_alloc _ _) b1) (below_alloc _ _)) b2) b3) b4) (below_alloc _ _)) b5) b6) b7) (below_alloc _ _)) (sp.chain b8 (below_alloc _ _))) b9) (touch_set4 _ _ _) (Nat.le_refl _)⟩

set_option maxHeartbeats 2000000 in
set_option maxRecDepth 100000 in
theorem kno (c : Nat) (X1 X2 X3 D L A W B : Q4) (h78a : sp.OfIs ⟨#[48, 49, 50, 51, 52, 53, 54, 55, 56, 57]⟩ D) (h80a : ∀ w, Calls Tryd.prog 99 #[.int .u8 65, .int .u8 90] w fun e w' => e = .returned (.agg #[.int .u64 X1.a, .int .u64 X1.b, .int .u64 X1.c, .int .u64 X1.d]) ∧ Below w.heap.size w w') (h80b : ∀ w, Calls Tryd.prog 99 #[.int .u8 97, .int .u8 122] w fun e w' => e = .returned (.agg #[.int .u64 X2.a, .int .u64 X2.b, .int .u64 X2.c, .int .u64 X2.d]) ∧ Below w.heap.size w w') (h76a : sp.JoinIs X1 X2 L) (h76b : sp.JoinIs D L A) (h72 : ∀ w, Calls Tryd.prog 93 #[.int .u8 95] w fun e w' => e = .returned (.agg #[.int .u64 X3.a, .int .u64 X3.b, .int .u64 X3.c, .int .u64 X3.d]) ∧ Below w.heap.size w w') (h76c : sp.JoinIs A X3 W) (h78b : sp.OfIs ⟨#[9, 10, 11, 12, 13, 32]⟩ B) (n1 : ((c : Int) == 100) = false) (n2 : ((c : Int) == 119) = false) (n3 : ((c : Int) == 115) = false) (n4 : ((c : Int) == 68) = false) (n5 : ((c : Int) == 87) = false) (n6 : ((c : Int) == 83) = false) : KofIs c none4 false := by
  intro w
  unfold sp.OfIs at h78a h78b
  unfold sp.JoinIs at h76a h76b h76c
  have hz := sp.blk_new w none4
  go_enter Tryd.func98, Tryd.ntmps98
  go_wp2_with (first
    | (go_at_call 53; (with_reducible refine (h78a _).mono ?_); rintro e w1 ⟨rfl, b1⟩; have z1 := hz.later b1)
    | (go_at_call 99; (with_reducible refine (h80a _).mono ?_); rintro e w2 ⟨rfl, b2⟩; have d2 := (sp.blk_new w1 D).later b2; have z2 := (z1.later (below_alloc w1 _)).later b2)
    | (go_at_call 99; (with_reducible refine (h80b _).mono ?_); rintro e w3 ⟨rfl, b3⟩; have d3 := d2.later b3; have z3 := z2.later b3)
    | (go_at_call 97; (with_reducible refine (h76a _).mono ?_); rintro e w4 ⟨rfl, b4⟩; have d4 := (d3.later b4).later (below_alloc w4 (.cells #[.int .u64 L.a, .int .u64 L.b, .int .u64 L.c, .int .u64 L.d] 25)); have z4 := (z3.later b4).later (below_alloc w4 (.cells #[.int .u64 L.a, .int .u64 L.b, .int .u64 L.c, .int .u64 L.d] 25)); obtain ⟨x0, x1, x2, x3, _, _, _, _⟩ := sp8 d4)
    | (go_at_call 97; (with_reducible refine (h76b _).mono ?_); rintro e w5 ⟨rfl, b5⟩; have d5 := d4.later b5; have z5 := z4.later b5)
    | (go_at_call 93; (with_reducible refine (h72 _).mono ?_); rintro e w6 ⟨rfl, b6⟩; have d6 := d5.later b6; have z6 := z5.later b6)
    | (go_at_call 97; (with_reducible refine (h76c _).mono ?_); rintro e w7 ⟨rfl, b7⟩; have d7 := d6.later b7; have z7 := z6.later b7)
    | (go_at_call 53; (with_reducible refine (h78b _).mono ?_); rintro e w8 ⟨rfl, b8⟩; have d9 := ((d7.later (below_alloc w7 _)).later b8).later (below_alloc w8 (.cells #[.int .u64 B.a, .int .u64 B.b, .int .u64 B.c, .int .u64 B.d] 25)); have k9 := ((sp.blk_new w7 W).later b8).later (below_alloc w8 (.cells #[.int .u64 B.a, .int .u64 B.b, .int .u64 B.c, .int .u64 B.d] 25)); have z9 := ((z7.later (below_alloc w7 _)).later b8).later (below_alloc w8 (.cells #[.int .u64 B.a, .int .u64 B.b, .int .u64 B.c, .int .u64 B.d] 25)); obtain ⟨y0, y1, y2, y3, _, _, _, _⟩ := sp8 d9; obtain ⟨u0, u1, u2, u3, _, _, _, _⟩ := sp8 k9; obtain ⟨c0, c1, c2, c3, f0, f1, f2, f3⟩ := sp8 z9))
  refine ret25b Tryd.results98 w.heap.size none4 rfl (sp.set4 z9 none4) rfl ?_
  exact ⟨rfl, below_over (sp.chain (sp.chain (sp.chain (sp.chain (sp.chain (sp.chain (sp.chain (sp.chain (sp.chain (sp.chain (sp.chain (below_alloc _ _) b1) (below_alloc _ _)) b2) b3) b4) (below_alloc _ _)) b5) b6) b7) (below_alloc _ _)) (sp.chain b8 (below_alloc _ _))) (touch_set4 _ _ none4) (Nat.le_refl _)⟩

/-- what a letter is written for: its set, or none -/
theorem kindOf_any (c : Nat) : KofIs c ((kindOf c).getD none4) (kindOf c).isSome := by
  have h78a := sp.of_any ⟨#[48, 49, 50, 51, 52, 53, 54, 55, 56, 57]⟩ (by decide) digitSet rfl
  have h80a := sp.range_any 65 90 (by decide) (by decide) _ rfl
  have h80b := sp.range_any 97 122 (by decide) (by decide) _ rfl
  have h76a := sp.join_any (rng 65 90) (rng 97 122) letterSet (fits_rng _ _) (fits_rng _ _) rfl
  have h76b := sp.join_any digitSet letterSet _ fits_digit fits_letter rfl
  have h72 := lone_any 95 (by decide) _ rfl
  have h76c := sp.join_any (jn digitSet letterSet) (rng 95 95) wordSet (fits_jn fits_digit fits_letter) (fits_rng _ _) rfl
  have h78b := sp.of_any ⟨#[9, 10, 11, 12, 13, 32]⟩ (by decide) blankSet rfl
  unfold kindOf
  by_cases e1 : c = 100
  · subst e1; exact kd _ _ _ _ _ _ _ _ h78a h80a h80b h76a h76b h72 h76c h78b
  rw [if_neg e1]
  by_cases e2 : c = 119
  · subst e2; exact kw _ _ _ _ _ _ _ _ h78a h80a h80b h76a h76b h72 h76c h78b
  rw [if_neg e2]
  by_cases e3 : c = 115
  · subst e3; exact ks _ _ _ _ _ _ _ _ h78a h80a h80b h76a h76b h72 h76c h78b
  rw [if_neg e3]
  by_cases e4 : c = 68
  · subst e4; exact kD _ _ _ _ _ _ _ _ h78a h80a h80b h76a h76b h72 h76c h78b _ (sp.not_any _ _ fits_digit rfl)
  rw [if_neg e4]
  by_cases e5 : c = 87
  · subst e5; exact kW _ _ _ _ _ _ _ _ h78a h80a h80b h76a h76b h72 h76c h78b _ (sp.not_any _ _ fits_word rfl)
  rw [if_neg e5]
  by_cases e6 : c = 83
  · subst e6; exact kS _ _ _ _ _ _ _ _ h78a h80a h80b h76a h76b h72 h76c h78b _ (sp.not_any _ _ fits_blank rfl)
  rw [if_neg e6]
  exact kno c _ _ _ _ _ _ _ _ h78a h80a h80b h76a h76b h72 h76c h78b (by rw [beq_eq_false_iff_ne]; omega) (by rw [beq_eq_false_iff_ne]; omega) (by rw [beq_eq_false_iff_ne]; omega) (by rw [beq_eq_false_iff_ne]; omega) (by rw [beq_eq_false_iff_ne]; omega) (by rw [beq_eq_false_iff_ne]; omega)
end Go.Proofs.YtfclidcfhadohaaDoor.st
