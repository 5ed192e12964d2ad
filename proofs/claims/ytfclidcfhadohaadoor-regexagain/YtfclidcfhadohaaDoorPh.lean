/-
  Contracts over this program: a set's text (regex.dot, regex.setText).
-/
import Derived.Test.YtfclidcfhadohaaDoorPf
import Derived.Test.YtfclidcfhadohaaDoorRef
import Derived.Test.YtfclidcfhadohaaDoorNd0
namespace Go.Proofs.YtfclidcfhadohaaDoor.rp
open Go.Proofs.YtfclidcfhadohaaDoor.st
open Go.Proofs.YtfclidcfhadohaaDoor.sp (chain Blk Blk.later set4 ret25 blk_new)
open Go.ChangeShapes Go.WideShapes Go.ChangeAt Go.RowKit
set_option linter.unusedVariables false

theorem fits_dot : Fits dotQ := fits_nt _
def DotIs (D : Q4) : Prop := ∀ w, Calls Tryd.prog 35 #[] w fun e w' => e = .returned (.agg #[.int .u64 D.a, .int .u64 D.b, .int .u64 D.c, .int .u64 D.d]) ∧ Below w.heap.size w w'
set_option maxHeartbeats 1000000 in
set_option maxRecDepth 100000 in
theorem dot_any (D : Q4) (hD : D = dotQ) : DotIs D := by
  intro w
  have h1 := sp.of_any ⟨#[10]⟩ (by decide) _ rfl
  have e : ofl (codes ⟨#[10]⟩) = ofl [10] := rfl
  rw [e] at h1
  have h2 := sp.not_any (ofl [10]) D (fits_ofl _) (by rw [hD]; rfl)
  generalize ofl [10] = T at *
  have hb : Blk (w.alloc (.cells #[.int .u64 0, .int .u64 0, .int .u64 0, .int .u64 0] 25)) w.heap.size none4 := heap_alloc_new w _
  have hB := below_alloc w (.cells #[.int .u64 0, .int .u64 0, .int .u64 0, .int .u64 0] 25)
  clear hD
  go_enter Tryd.func35, Tryd.ntmps35
  go_wp2_with (first | (go_at_call 53; refine (h1 _).mono ?_; rintro e w1 ⟨rfl, b1⟩; have k1 := hb.later b1) | (go_at_call 40; refine (h2 _).mono ?_; rintro e w2 ⟨rfl, b2⟩; have k2 := k1.later b2; have g0 := k2.c0; have g1 := k2.c1; have g2 := k2.c2; have g3 := k2.c3; have f0 := k2.fz 0; have f1 := k2.fz 1; have f2 := k2.fz 2; have f3 := k2.fz 3))
  refine ret25 Tryd.results35 w.heap.size D rfl (set4 k2 D) rfl ?_
  exact ⟨rfl, sp.Below.set4 (chain (chain hB b1) b2) (Nat.le_refl _) D⟩

theorem eqd (q D : Q4) (W : World) : (Op.equalIn 9999 23 (.agg #[.int .u64 q.a, .int .u64 q.b, .int .u64 q.c, .int .u64 q.d]) (.agg #[.int .u64 D.a, .int .u64 D.b, .int .u64 D.c, .int .u64 D.d])).run Tryd.prog W = .ok (eq4 q D) W := by
  rw [eq23]
  have h : ∀ x y : Nat, ((x : Int) == (y : Int)) = decide (x = y) := fun x y => by
    by_cases h : x = y
    · subst h; simp
    · rw [decide_eq_false h, beq_eq_false_iff_ne]; omega
  unfold eq4
  rw [h, h, h, h]
  simp only [Bool.and_assoc]

def SetTextIs (f : FuncId) (q : Q4) (r : L8) : Prop := ∀ w, Calls Tryd.prog f #[.agg #[.int .u64 q.a, .int .u64 q.b, .int .u64 q.c, .int .u64 q.d]] w fun e w' => e = .returned (.string (bs r)) ∧ Below w.heap.size w w'
theorem getD_zero (l : List Nat) (h : 0 < l.length) : l.getD 0 0 = l[0] := by
  cases l with
  | nil => simp at h
  | cons a l => rfl
set_option maxHeartbeats 2000000 in
set_option maxRecDepth 100000 in
theorem set_dot (q : Q4) (hq : Fits q) (hd : eq4 q dotQ = true) : SetTextIs 22 q (setT q) := by
  intro w
  have hr : setT q = [46] := by unfold setT; rw [if_neg (by have := (eq4_iff q dotQ).1 hd; rw [this, dot_cnt]; decide), if_pos hd]
  rw [hr]
  clear hr
  have hdot := dot_any dotQ rfl
  have heq := eqd q dotQ
  have hcnt := sp.count_any q _ hq rfl
  unfold DotIs at hdot
  unfold sp.CountIs at hcnt
  obtain ⟨w0, hw0⟩ : ∃ w0, w0 = w.alloc (.cells #[.int .u64 q.a, .int .u64 q.b, .int .u64 q.c, .int .u64 q.d] 25) := ⟨_, rfl⟩
  have hB0 : Below w.heap.size w w0 := by rw [hw0]; exact below_alloc _ _
  have ba : Blk w0 w.heap.size q := by rw [hw0]; exact blk_new w q
  generalize eq4 q dotQ = dd at *
  generalize dotQ = D at *
  generalize cnt q = n at *
  clear hcnt
  go_enter Tryd.func22, Tryd.ntmps22
  go_wp2
  rw [← hw0]
  clear hw0
  have a0 := ba.c0
  have a1 := ba.c1
  have a2 := ba.c2
  have a3 := ba.c3
  go_region_with (go_at_call 35; (with_reducible refine (hdot _).mono ?_); rintro e w1 ⟨rfl, b1⟩; have k1 : Blk w1 w.heap.size q := Blk.later (w := w0.drew) ba b1; have y0 := k1.c0; have y1 := k1.c1; have y2 := k1.c2; have y3 := k1.c3; have B1 : Below w.heap.size w w1 := (Below.drew hB0).trans (b1.mono hB0.size))
  all_goals go_wp2_with (first | (go_at_call 36; refine (hcnt _).mono ?_; rintro e w2 ⟨rfl, b2⟩; have k2 := k1.later b2; have x0 := k2.c0; have x1 := k2.c1; have x2 := k2.c2; have x3 := k2.c3; have B2 := chain B1 b2))
  all_goals go_ret
  all_goals exact ⟨rfl, B1⟩
set_option maxHeartbeats 2000000 in
set_option maxRecDepth 100000 in
theorem set_none (q : Q4) (hq : Fits q) (hd : eq4 q dotQ = false) (hn : cnt q = 0) : SetTextIs 22 q (setT q) := by
  intro w
  have hr : setT q = nothingL := by unfold setT; rw [if_neg (by omega), if_neg (by rw [hd]; decide), if_pos hn]
  rw [hr]
  clear hr
  have hres : bs nothingL = ⟨#[91, 94, 92, 120, 48, 48, 45, 92, 120, 102, 102, 93]⟩ := rfl
  rw [hres]
  have hdot := dot_any dotQ rfl
  have heq := eqd q dotQ
  have hcnt := sp.count_any q _ hq rfl
  unfold DotIs at hdot
  unfold sp.CountIs at hcnt
  obtain ⟨w0, hw0⟩ : ∃ w0, w0 = w.alloc (.cells #[.int .u64 q.a, .int .u64 q.b, .int .u64 q.c, .int .u64 q.d] 25) := ⟨_, rfl⟩
  have hB0 : Below w.heap.size w w0 := by rw [hw0]; exact below_alloc _ _
  have ba : Blk w0 w.heap.size q := by rw [hw0]; exact blk_new w q
  generalize eq4 q dotQ = dd at *
  generalize dotQ = D at *
  generalize cnt q = n at *
  subst hn
  go_enter Tryd.func22, Tryd.ntmps22
  go_wp2
  rw [← hw0]
  clear hw0
  have a0 := ba.c0
  have a1 := ba.c1
  have a2 := ba.c2
  have a3 := ba.c3
  go_region_with (go_at_call 35; (with_reducible refine (hdot _).mono ?_); rintro e w1 ⟨rfl, b1⟩; have k1 : Blk w1 w.heap.size q := Blk.later (w := w0.drew) ba b1; have y0 := k1.c0; have y1 := k1.c1; have y2 := k1.c2; have y3 := k1.c3; have B1 : Below w.heap.size w w1 := (Below.drew hB0).trans (b1.mono hB0.size))
  all_goals go_wp2_with (first | (go_at_call 36; refine (hcnt _).mono ?_; rintro e w2 ⟨rfl, b2⟩; have k2 := k1.later b2; have x0 := k2.c0; have x1 := k2.c1; have x2 := k2.c2; have x3 := k2.c3; have B2 := chain B1 b2))
  all_goals go_ret
  all_goals exact ⟨rfl, B2⟩
set_option maxHeartbeats 2000000 in
set_option maxRecDepth 100000 in
theorem set_every (q : Q4) (hq : Fits q) (hd : eq4 q dotQ = false) (hn : cnt q = 256) : SetTextIs 22 q (setT q) := by
  intro w
  have hr : setT q = everyL := by unfold setT; rw [if_neg (by omega), if_neg (by rw [hd]; decide), if_neg (by omega), if_pos hn]
  rw [hr]
  clear hr
  have hres : bs everyL = ⟨#[91, 92, 120, 48, 48, 45, 92, 120, 102, 102, 93]⟩ := rfl
  rw [hres]
  have hdot := dot_any dotQ rfl
  have heq := eqd q dotQ
  have hcnt := sp.count_any q _ hq rfl
  unfold DotIs at hdot
  unfold sp.CountIs at hcnt
  obtain ⟨w0, hw0⟩ : ∃ w0, w0 = w.alloc (.cells #[.int .u64 q.a, .int .u64 q.b, .int .u64 q.c, .int .u64 q.d] 25) := ⟨_, rfl⟩
  have hB0 : Below w.heap.size w w0 := by rw [hw0]; exact below_alloc _ _
  have ba : Blk w0 w.heap.size q := by rw [hw0]; exact blk_new w q
  generalize eq4 q dotQ = dd at *
  generalize dotQ = D at *
  generalize cnt q = n at *
  subst hn
  go_enter Tryd.func22, Tryd.ntmps22
  go_wp2
  rw [← hw0]
  clear hw0
  have a0 := ba.c0
  have a1 := ba.c1
  have a2 := ba.c2
  have a3 := ba.c3
  go_region_with (go_at_call 35; (with_reducible refine (hdot _).mono ?_); rintro e w1 ⟨rfl, b1⟩; have k1 : Blk w1 w.heap.size q := Blk.later (w := w0.drew) ba b1; have y0 := k1.c0; have y1 := k1.c1; have y2 := k1.c2; have y3 := k1.c3; have B1 : Below w.heap.size w w1 := (Below.drew hB0).trans (b1.mono hB0.size))
  all_goals go_wp2_with (first | (go_at_call 36; refine (hcnt _).mono ?_; rintro e w2 ⟨rfl, b2⟩; have k2 := k1.later b2; have x0 := k2.c0; have x1 := k2.c1; have x2 := k2.c2; have x3 := k2.c3; have B2 := chain B1 b2))
  all_goals go_ret
  all_goals exact ⟨rfl, B2⟩
set_option maxHeartbeats 2000000 in
set_option maxRecDepth 100000 in
theorem set_one (q : Q4) (hq : Fits q) (hd : eq4 q dotQ = false) (hn : cnt q = 1) : SetTextIs 22 q (setT q) := by
  intro w
  have hr : setT q = wr ((mem q).getD 0 0) false := by unfold setT; rw [if_pos hn]
  rw [hr]
  clear hr
  have hdot := dot_any dotQ rfl
  have heq := eqd q dotQ
  have hcnt := sp.count_any q _ hq rfl
  have hby := sp.bytes_any q hq _ rfl
  rw [tx_text] at hby
  have hlen : (mem q).length = 1 := hn
  have hts := tx_size (mem q)
  rw [hlen] at hts
  have ht0 : 0 < (tx (mem q)).size := by omega
  have hat := tx_at (mem q) (rise_mem q) 0 (by omega) ht0
  have hx := getD_zero (mem q) (by omega)
  rw [← hx] at hat
  have hx256 : (mem q).getD 0 0 < 256 := by rw [hx]; exact mem_lt (List.getElem_mem _)
  have hb0 := byte_any ((mem q).getD 0 0) false hx256 _ rfl
  have hb : ∀ w, Calls Tryd.prog 37 #[.int .u8 ((mem q).getD 0 0 : Nat), .string ⟨#[92, 40, 41, 91, 93, 123, 125, 46, 42, 43, 63, 124, 94, 36]⟩] w fun e w' => e = .returned (.string (bs (wr ((mem q).getD 0 0) false))) ∧ Below w.heap.size w w' := hb0
  clear hb0 hx
  unfold sp.BytesIs at hby
  unfold DotIs at hdot
  unfold sp.CountIs at hcnt
  obtain ⟨w0, hw0⟩ : ∃ w0, w0 = w.alloc (.cells #[.int .u64 q.a, .int .u64 q.b, .int .u64 q.c, .int .u64 q.d] 25) := ⟨_, rfl⟩
  have hB0 : Below w.heap.size w w0 := by rw [hw0]; exact below_alloc _ _
  have ba : Blk w0 w.heap.size q := by rw [hw0]; exact blk_new w q
  generalize eq4 q dotQ = dd at *
  generalize dotQ = D at *
  generalize cnt q = n at *
  subst hn
  generalize bs (wr ((mem q).getD 0 0) false) = tr at *
  generalize (mem q).getD 0 0 = x at *
  generalize tx (mem q) = tt at *
  go_enter Tryd.func22, Tryd.ntmps22
  go_wp2
  rw [← hw0]
  clear hw0
  have a0 := ba.c0
  have a1 := ba.c1
  have a2 := ba.c2
  have a3 := ba.c3
  go_region_with (go_at_call 35; (with_reducible refine (hdot _).mono ?_); rintro e w1 ⟨rfl, b1⟩; have k1 : Blk w1 w.heap.size q := Blk.later (w := w0.drew) ba b1; have y0 := k1.c0; have y1 := k1.c1; have y2 := k1.c2; have y3 := k1.c3; have B1 : Below w.heap.size w w1 := (Below.drew hB0).trans (b1.mono hB0.size))
  all_goals go_wp2_with (first | (go_at_call 36; refine (hcnt _).mono ?_; rintro e w2 ⟨rfl, b2⟩; have k2 := k1.later b2; have x0 := k2.c0; have x1 := k2.c1; have x2 := k2.c2; have x3 := k2.c3; have B2 := chain B1 b2) | (go_at_call 38; refine (hby _).mono ?_; rintro e w3 ⟨rfl, b3⟩; have B3 := chain B2 b3) | (go_at_call 37; refine (hb _).mono ?_; rintro e w4 ⟨rfl, b4⟩; have B4 := chain B3 b4))
  all_goals go_ret
  all_goals exact ⟨rfl, B4⟩
set_option maxHeartbeats 2000000 in
set_option maxRecDepth 100000 in
theorem set_many (q : Q4) (hq : Fits q) (hd : eq4 q dotQ = false) (hn : 128 < cnt q) (hn2 : cnt q ≠ 256) : SetTextIs 22 q (setT q) := by
  intro w
  have hr : setT q = [91, 94] ++ parts (mem (nt q)) ++ [93] := by unfold setT; rw [if_neg (by omega), if_neg (by rw [hd]; decide), if_neg (by omega), if_neg hn2, if_pos hn]; rfl
  rw [hr]
  clear hr
  have hdot := dot_any dotQ rfl
  have heq := eqd q dotQ
  have hcnt := sp.count_any q _ hq rfl
  have hno := sp.not_any q (nt q) hq rfl
  have hby := sp.bytes_any (nt q) (fits_nt q) _ rfl
  rw [tx_text] at hby
  have hpt := parts_any (mem (nt q)) (rise_mem _) (mem_len _) _ rfl
  have hpl : (parts (mem (nt q))).length ≤ 1024 := by have := prt_len (mem (nt q)).length (mem (nt q)); have := mem_len (nt q); unfold parts; omega
  have hsz := bs_size (parts (mem (nt q)))
  have EE : Hid ((⟨#[91, 94]⟩ : ByteArray) ++ bs (parts (mem (nt q))) ++ ⟨#[93]⟩ = bs ([91, 94] ++ parts (mem (nt q)) ++ [93])) := by
    show _ = _
    rw [← bs_append, ← bs_append]; rfl
  have hz1 : ¬ 9223372036854775807 < 2 + (parts (mem (nt q))).length := by omega
  have hz2 : ¬ 9223372036854775807 < 2 + (parts (mem (nt q))).length + 1 := by omega
  have c1 : ((cnt q : Int) == 0) = false := by simp; omega
  have c2 : ((cnt q : Int) == 1) = false := by simp; omega
  have c3 : ((cnt q : Int) == 256) = false := by simp; omega
  have c4 : decide ((128 : Int) < (cnt q : Int)) = true := decide_eq_true (by omega)
  unfold sp.BytesIs at hby
  unfold sp.NotIs at hno
  unfold PartsIs at hpt
  unfold DotIs at hdot
  unfold sp.CountIs at hcnt
  obtain ⟨w0, hw0⟩ : ∃ w0, w0 = w.alloc (.cells #[.int .u64 q.a, .int .u64 q.b, .int .u64 q.c, .int .u64 q.d] 25) := ⟨_, rfl⟩
  have hB0 : Below w.heap.size w w0 := by rw [hw0]; exact below_alloc _ _
  have ba : Blk w0 w.heap.size q := by rw [hw0]; exact blk_new w q
  generalize eq4 q dotQ = dd at *
  generalize dotQ = D at *
  generalize cnt q = n at *
  rw [← EE.out]
  clear EE hn hn2
  generalize parts (mem (nt q)) = pl at *
  generalize bs pl = tp at *
  generalize tx (mem (nt q)) = tt at *
  generalize nt q = nq at *
  go_enter Tryd.func22, Tryd.ntmps22
  go_wp2
  rw [← hw0]
  clear hw0
  have a0 := ba.c0
  have a1 := ba.c1
  have a2 := ba.c2
  have a3 := ba.c3
  go_region_with (go_at_call 35; (with_reducible refine (hdot _).mono ?_); rintro e w1 ⟨rfl, b1⟩; have k1 : Blk w1 w.heap.size q := Blk.later (w := w0.drew) ba b1; have y0 := k1.c0; have y1 := k1.c1; have y2 := k1.c2; have y3 := k1.c3; have B1 : Below w.heap.size w w1 := (Below.drew hB0).trans (b1.mono hB0.size))
  all_goals go_wp2_with (first | (go_at_call 36; refine (hcnt _).mono ?_; rintro e w2 ⟨rfl, b2⟩; have k2 := k1.later b2; have x0 := k2.c0; have x1 := k2.c1; have x2 := k2.c2; have x3 := k2.c3; have B2 := chain B1 b2) | (go_at_call 40; refine (hno _).mono ?_; rintro e w5 ⟨rfl, b5⟩; have B5 := chain B2 b5) | (go_at_call 38; refine (hby _).mono ?_; rintro e w3 ⟨rfl, b3⟩; have B3 := chain B5 b3) | (go_at_call 39; refine (hpt _).mono ?_; rintro e w6 ⟨rfl, b6⟩; have B6 := chain B3 b6))
  all_goals go_ret
  all_goals exact ⟨rfl, B6⟩
set_option maxHeartbeats 2000000 in
set_option maxRecDepth 100000 in
theorem set_few (q : Q4) (hq : Fits q) (hd : eq4 q dotQ = false) (hn : ¬ 128 < cnt q) (hn0 : cnt q ≠ 0) (hn1 : cnt q ≠ 1) : SetTextIs 22 q (setT q) := by
  intro w
  have hr : setT q = [91] ++ parts (mem q) ++ [93] := by unfold setT; rw [if_neg hn1, if_neg (by rw [hd]; decide), if_neg hn0, if_neg (by omega), if_neg hn]; rfl
  rw [hr]
  clear hr
  have hdot := dot_any dotQ rfl
  have heq := eqd q dotQ
  have hcnt := sp.count_any q _ hq rfl
  have hby := sp.bytes_any q hq _ rfl
  rw [tx_text] at hby
  have hpt := parts_any (mem q) (rise_mem _) (mem_len _) _ rfl
  have hpl : (parts (mem q)).length ≤ 1024 := by have := prt_len (mem q).length (mem q); have := mem_len q; unfold parts; omega
  have hsz := bs_size (parts (mem q))
  have EE : Hid ((⟨#[91]⟩ : ByteArray) ++ bs (parts (mem q)) ++ ⟨#[93]⟩ = bs ([91] ++ parts (mem q) ++ [93])) := by
    show _ = _
    rw [← bs_append, ← bs_append]; rfl
  have hz1 : ¬ 9223372036854775807 < 1 + (parts (mem q)).length := by omega
  have hz2 : ¬ 9223372036854775807 < 1 + (parts (mem q)).length + 1 := by omega
  have c1 : ((cnt q : Int) == 0) = false := by simp; omega
  have c2 : ((cnt q : Int) == 1) = false := by simp; omega
  have c3 : ((cnt q : Int) == 256) = false := by simp; omega
  have c4 : decide ((128 : Int) < (cnt q : Int)) = false := decide_eq_false (by omega)
  unfold sp.BytesIs at hby
  unfold PartsIs at hpt
  unfold DotIs at hdot
  unfold sp.CountIs at hcnt
  obtain ⟨w0, hw0⟩ : ∃ w0, w0 = w.alloc (.cells #[.int .u64 q.a, .int .u64 q.b, .int .u64 q.c, .int .u64 q.d] 25) := ⟨_, rfl⟩
  have hB0 : Below w.heap.size w w0 := by rw [hw0]; exact below_alloc _ _
  have ba : Blk w0 w.heap.size q := by rw [hw0]; exact blk_new w q
  generalize eq4 q dotQ = dd at *
  generalize dotQ = D at *
  generalize cnt q = n at *
  rw [← EE.out]
  clear EE hn hn0 hn1
  generalize parts (mem q) = pl at *
  generalize bs pl = tp at *
  generalize tx (mem q) = tt at *
  go_enter Tryd.func22, Tryd.ntmps22
  go_wp2
  rw [← hw0]
  clear hw0
  have a0 := ba.c0
  have a1 := ba.c1
  have a2 := ba.c2
  have a3 := ba.c3
  go_region_with (go_at_call 35; (with_reducible refine (hdot _).mono ?_); rintro e w1 ⟨rfl, b1⟩; have k1 : Blk w1 w.heap.size q := Blk.later (w := w0.drew) ba b1; have y0 := k1.c0; have y1 := k1.c1; have y2 := k1.c2; have y3 := k1.c3; have B1 : Below w.heap.size w w1 := (Below.drew hB0).trans (b1.mono hB0.size))
  all_goals go_wp2_with (first | (go_at_call 36; refine (hcnt _).mono ?_; rintro e w2 ⟨rfl, b2⟩; have k2 := k1.later b2; have x0 := k2.c0; have x1 := k2.c1; have x2 := k2.c2; have x3 := k2.c3; have B2 := chain B1 b2) | (go_at_call 38; refine (hby _).mono ?_; rintro e w3 ⟨rfl, b3⟩; have B3 := chain B2 b3) | (go_at_call 39; refine (hpt _).mono ?_; rintro e w6 ⟨rfl, b6⟩; have B6 := chain B3 b6))
  all_goals go_ret
  all_goals exact ⟨rfl, B6⟩
theorem settext_any (q : Q4) (hq : Fits q) (r : L8) (hr : r = setT q) : SetTextIs 22 q r := by
  subst hr
  cases hd : eq4 q dotQ
  · by_cases h0 : cnt q = 0
    · exact set_none q hq hd h0
    · by_cases h1 : cnt q = 1
      · exact set_one q hq hd h1
      · by_cases h2 : cnt q = 256
        · exact set_every q hq hd h2
        · by_cases h3 : 128 < cnt q
          · exact set_many q hq hd h3 h2
          · exact set_few q hq hd h3 h0 h1
  · exact set_dot q hq hd
end Go.Proofs.YtfclidcfhadohaaDoor.rp
