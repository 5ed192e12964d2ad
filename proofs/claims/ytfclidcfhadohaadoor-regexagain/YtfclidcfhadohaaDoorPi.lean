/-
  Contracts over this program: the document's text of a set (fretsawref06.setText).
-/
import Derived.Test.YtfclidcfhadohaaDoorPg
import Derived.Test.YtfclidcfhadohaaDoorPh
namespace Go.Proofs.YtfclidcfhadohaaDoor.rp
open Go.Proofs.YtfclidcfhadohaaDoor.st
open Go.Proofs.YtfclidcfhadohaaDoor.sp (chain Blk Blk.later set4 ret25 blk_new)
open Go.ChangeShapes Go.WideShapes Go.ChangeAt Go.RowKit
set_option linter.unusedVariables false

set_option maxHeartbeats 2000000 in
set_option maxRecDepth 100000 in
theorem rset_dot (q : Q4) (hq : Fits q) (hd : eq4 q dotQ = true) : SetTextIs 29 q (setT q) := by
  intro w
  have hr : setT q = [46] := by unfold setT; rw [if_neg (by have := (eq4_iff q dotQ).1 hd; rw [this, dot_cnt]; decide), if_pos hd]
  rw [hr]
  clear hr
  have hof := sp.rof_any ⟨#[10]⟩ (by decide) _ rfl
  have eo : ofl (codes ⟨#[10]⟩) = ofl [10] := rfl
  rw [eo] at hof
  have hnd := sp.rnot_any (ofl [10]) dotQ (fits_ofl _) rfl
  have heq := eqd q dotQ
  have hby := sp.rbytes_any q hq _ rfl
  rw [tx_text] at hby
  have hts := tx_size (mem q)
  rw [show (mem q).length = cnt q from rfl] at hts
  have hn : cnt q ≠ 1 := by have := (eq4_iff q dotQ).1 hd; rw [this, dot_cnt]; decide
  have c1 : ((cnt q : Int) == 1) = false := by simp; omega
  unfold sp.ROfIs at hof
  unfold sp.RNotIs at hnd
  unfold sp.RBytesIs at hby
  have hB0 : Below w.heap.size w (w.alloc (.cells #[.int .u64 q.a, .int .u64 q.b, .int .u64 q.c, .int .u64 q.d] 25)) := below_alloc _ _
  have ba : Blk (w.alloc (.cells #[.int .u64 q.a, .int .u64 q.b, .int .u64 q.c, .int .u64 q.d] 25)) w.heap.size q := blk_new w q
  generalize eq4 q dotQ = dd at *
  generalize dotQ = D at *
  generalize ofl [10] = T at *
  generalize cnt q = n at *
  clear hn
  generalize tx (mem q) = tt at *
  go_enter Tryd.func29, Tryd.ntmps29
  go_wp2_with (first | (go_at_call 42; (with_reducible refine (hby _).mono ?_); rintro e w1 ⟨rfl, b1⟩; have k1 := ba.later b1; have y0 := k1.c0; have y1 := k1.c1; have y2 := k1.c2; have y3 := k1.c3; have B1 := chain hB0 b1))
  go_region_with (first | (go_at_call 45; refine (hof _).mono ?_; rintro e w2 ⟨rfl, b2⟩; have k2 : Blk w2 w.heap.size q := Blk.later (w := w1.drew) k1 b2; have z0 := k2.c0; have z1 := k2.c1; have z2 := k2.c2; have z3 := k2.c3; have B2 : Below w.heap.size w w2 := (Below.drew B1).trans (b2.mono B1.size)) | (go_at_call 44; (with_reducible refine (hnd _).mono ?_); rintro e w3 ⟨rfl, b3⟩; have k3 : Blk w3 w.heap.size q := Blk.later k2 b3; have v0 := k3.c0; have v1 := k3.c1; have v2 := k3.c2; have v3 := k3.c3; have B3 := chain B2 b3))
  all_goals go_wp2_with (fail)
  all_goals go_ret
  all_goals exact ⟨rfl, B3⟩
set_option maxHeartbeats 2000000 in
set_option maxRecDepth 100000 in
theorem rset_none (q : Q4) (hq : Fits q) (hd : eq4 q dotQ = false) (hn : cnt q = 0) : SetTextIs 29 q (setT q) := by
  intro w
  have hr : setT q = nothingL := by unfold setT; rw [if_neg (by omega), if_neg (by rw [hd]; decide), if_pos hn]
  rw [hr]
  clear hr
  have hres : bs nothingL = ⟨#[91, 94, 92, 120, 48, 48, 45, 92, 120, 102, 102, 93]⟩ := rfl
  rw [hres]
  have hof := sp.rof_any ⟨#[10]⟩ (by decide) _ rfl
  have eo : ofl (codes ⟨#[10]⟩) = ofl [10] := rfl
  rw [eo] at hof
  have hnd := sp.rnot_any (ofl [10]) dotQ (fits_ofl _) rfl
  have heq := eqd q dotQ
  have hby := sp.rbytes_any q hq _ rfl
  rw [tx_text] at hby
  have hts := tx_size (mem q)
  rw [show (mem q).length = cnt q from rfl] at hts
  unfold sp.ROfIs at hof
  unfold sp.RNotIs at hnd
  unfold sp.RBytesIs at hby
  have hB0 : Below w.heap.size w (w.alloc (.cells #[.int .u64 q.a, .int .u64 q.b, .int .u64 q.c, .int .u64 q.d] 25)) := below_alloc _ _
  have ba : Blk (w.alloc (.cells #[.int .u64 q.a, .int .u64 q.b, .int .u64 q.c, .int .u64 q.d] 25)) w.heap.size q := blk_new w q
  generalize eq4 q dotQ = dd at *
  generalize dotQ = D at *
  generalize ofl [10] = T at *
  generalize cnt q = n at *
  subst hn
  generalize tx (mem q) = tt at *
  go_enter Tryd.func29, Tryd.ntmps29
  go_wp2_with (first | (go_at_call 42; (with_reducible refine (hby _).mono ?_); rintro e w1 ⟨rfl, b1⟩; have k1 := ba.later b1; have y0 := k1.c0; have y1 := k1.c1; have y2 := k1.c2; have y3 := k1.c3; have B1 := chain hB0 b1))
  go_region_with (first | (go_at_call 45; refine (hof _).mono ?_; rintro e w2 ⟨rfl, b2⟩; have k2 : Blk w2 w.heap.size q := Blk.later (w := w1.drew) k1 b2; have z0 := k2.c0; have z1 := k2.c1; have z2 := k2.c2; have z3 := k2.c3; have B2 : Below w.heap.size w w2 := (Below.drew B1).trans (b2.mono B1.size)) | (go_at_call 44; (with_reducible refine (hnd _).mono ?_); rintro e w3 ⟨rfl, b3⟩; have k3 : Blk w3 w.heap.size q := Blk.later k2 b3; have v0 := k3.c0; have v1 := k3.c1; have v2 := k3.c2; have v3 := k3.c3; have B3 := chain B2 b3))
  all_goals go_wp2_with (fail)
  all_goals go_ret
  all_goals exact ⟨rfl, B3⟩
set_option maxHeartbeats 2000000 in
set_option maxRecDepth 100000 in
theorem rset_every (q : Q4) (hq : Fits q) (hd : eq4 q dotQ = false) (hn : cnt q = 256) : SetTextIs 29 q (setT q) := by
  intro w
  have hr : setT q = everyL := by unfold setT; rw [if_neg (by omega), if_neg (by rw [hd]; decide), if_neg (by omega), if_pos hn]
  rw [hr]
  clear hr
  have hres : bs everyL = ⟨#[91, 92, 120, 48, 48, 45, 92, 120, 102, 102, 93]⟩ := rfl
  rw [hres]
  have hof := sp.rof_any ⟨#[10]⟩ (by decide) _ rfl
  have eo : ofl (codes ⟨#[10]⟩) = ofl [10] := rfl
  rw [eo] at hof
  have hnd := sp.rnot_any (ofl [10]) dotQ (fits_ofl _) rfl
  have heq := eqd q dotQ
  have hby := sp.rbytes_any q hq _ rfl
  rw [tx_text] at hby
  have hts := tx_size (mem q)
  rw [show (mem q).length = cnt q from rfl] at hts
  unfold sp.ROfIs at hof
  unfold sp.RNotIs at hnd
  unfold sp.RBytesIs at hby
  have hB0 : Below w.heap.size w (w.alloc (.cells #[.int .u64 q.a, .int .u64 q.b, .int .u64 q.c, .int .u64 q.d] 25)) := below_alloc _ _
  have ba : Blk (w.alloc (.cells #[.int .u64 q.a, .int .u64 q.b, .int .u64 q.c, .int .u64 q.d] 25)) w.heap.size q := blk_new w q
  generalize eq4 q dotQ = dd at *
  generalize dotQ = D at *
  generalize ofl [10] = T at *
  generalize cnt q = n at *
  subst hn
  generalize tx (mem q) = tt at *
  go_enter Tryd.func29, Tryd.ntmps29
  go_wp2_with (first | (go_at_call 42; (with_reducible refine (hby _).mono ?_); rintro e w1 ⟨rfl, b1⟩; have k1 := ba.later b1; have y0 := k1.c0; have y1 := k1.c1; have y2 := k1.c2; have y3 := k1.c3; have B1 := chain hB0 b1))
  go_region_with (first | (go_at_call 45; refine (hof _).mono ?_; rintro e w2 ⟨rfl, b2⟩; have k2 : Blk w2 w.heap.size q := Blk.later (w := w1.drew) k1 b2; have z0 := k2.c0; have z1 := k2.c1; have z2 := k2.c2; have z3 := k2.c3; have B2 : Below w.heap.size w w2 := (Below.drew B1).trans (b2.mono B1.size)) | (go_at_call 44; (with_reducible refine (hnd _).mono ?_); rintro e w3 ⟨rfl, b3⟩; have k3 : Blk w3 w.heap.size q := Blk.later k2 b3; have v0 := k3.c0; have v1 := k3.c1; have v2 := k3.c2; have v3 := k3.c3; have B3 := chain B2 b3))
  all_goals go_wp2_with (fail)
  all_goals go_ret
  all_goals exact ⟨rfl, B3⟩
set_option maxHeartbeats 2000000 in
set_option maxRecDepth 100000 in
theorem rset_one (q : Q4) (hq : Fits q) (hn : cnt q = 1) : SetTextIs 29 q (setT q) := by
  intro w
  have hr : setT q = wr ((mem q).getD 0 0) false := by unfold setT; rw [if_pos hn]
  rw [hr]
  clear hr
  have hof := sp.rof_any ⟨#[10]⟩ (by decide) _ rfl
  have eo : ofl (codes ⟨#[10]⟩) = ofl [10] := rfl
  rw [eo] at hof
  have hnd := sp.rnot_any (ofl [10]) dotQ (fits_ofl _) rfl
  have heq := eqd q dotQ
  have hby := sp.rbytes_any q hq _ rfl
  rw [tx_text] at hby
  have hts := tx_size (mem q)
  rw [show (mem q).length = cnt q from rfl] at hts
  have hlen : (mem q).length = 1 := hn
  have ht0 : 0 < (tx (mem q)).size := by omega
  have hat := tx_at (mem q) (rise_mem q) 0 (by omega) ht0
  have hx := getD_zero (mem q) (by omega)
  rw [← hx] at hat
  have hx256 : (mem q).getD 0 0 < 256 := by rw [hx]; exact mem_lt (List.getElem_mem _)
  have hb := written_any ((mem q).getD 0 0) false hx256 _ rfl
  clear hx
  unfold WrittenIs at hb
  unfold sp.ROfIs at hof
  unfold sp.RNotIs at hnd
  unfold sp.RBytesIs at hby
  have hB0 : Below w.heap.size w (w.alloc (.cells #[.int .u64 q.a, .int .u64 q.b, .int .u64 q.c, .int .u64 q.d] 25)) := below_alloc _ _
  have ba : Blk (w.alloc (.cells #[.int .u64 q.a, .int .u64 q.b, .int .u64 q.c, .int .u64 q.d] 25)) w.heap.size q := blk_new w q
  generalize eq4 q dotQ = dd at *
  generalize dotQ = D at *
  generalize ofl [10] = T at *
  generalize cnt q = n at *
  subst hn
  generalize bs (wr ((mem q).getD 0 0) false) = tr at *
  generalize (mem q).getD 0 0 = x at *
  generalize tx (mem q) = tt at *
  go_enter Tryd.func29, Tryd.ntmps29
  go_wp2_with (first | (go_at_call 42; (with_reducible refine (hby _).mono ?_); rintro e w1 ⟨rfl, b1⟩; have k1 := ba.later b1; have y0 := k1.c0; have y1 := k1.c1; have y2 := k1.c2; have y3 := k1.c3; have B1 := chain hB0 b1) | (go_at_call 43; refine (hb _).mono ?_; rintro e w4 ⟨rfl, b4⟩; have B4 := chain B1 b4))
  all_goals go_ret
  all_goals exact ⟨rfl, B4⟩
set_option maxHeartbeats 2000000 in
set_option maxRecDepth 100000 in
theorem rset_many (q : Q4) (hq : Fits q) (hd : eq4 q dotQ = false) (hn : 128 < cnt q) (hn2 : cnt q ≠ 256) : SetTextIs 29 q (setT q) := by
  intro w
  have hr : setT q = [91, 94] ++ parts (mem (nt q)) ++ [93] := by unfold setT; rw [if_neg (by omega), if_neg (by rw [hd]; decide), if_neg (by omega), if_neg hn2, if_pos hn]; rfl
  rw [hr]
  clear hr
  have hof := sp.rof_any ⟨#[10]⟩ (by decide) _ rfl
  have eo : ofl (codes ⟨#[10]⟩) = ofl [10] := rfl
  rw [eo] at hof
  have hnd := sp.rnot_any (ofl [10]) dotQ (fits_ofl _) rfl
  have heq := eqd q dotQ
  have hby := sp.rbytes_any q hq _ rfl
  rw [tx_text] at hby
  have hts := tx_size (mem q)
  rw [show (mem q).length = cnt q from rfl] at hts
  have hno := sp.rnot_any q (nt q) hq rfl
  have hby2 := sp.rbytes_any (nt q) (fits_nt q) _ rfl
  rw [tx_text] at hby2
  have hpt := rparts_any (mem (nt q)) (rise_mem _) (mem_len _) _ rfl
  have hpl : (parts (mem (nt q))).length ≤ 1024 := by have := prt_len (mem (nt q)).length (mem (nt q)); have := mem_len (nt q); unfold parts; omega
  have hsz := bs_size (parts (mem (nt q)))
  have EE : Hid ((⟨#[91, 94]⟩ : ByteArray) ++ bs (parts (mem (nt q))) ++ ⟨#[93]⟩ = bs ([91, 94] ++ parts (mem (nt q)) ++ [93])) := by
    show _ = _
    rw [← bs_append, ← bs_append]; rfl
  have hz1 : ¬ 9223372036854775807 < 2 + (parts (mem (nt q))).length := by omega
  have hz2 : ¬ 9223372036854775807 < 2 + (parts (mem (nt q))).length + 1 := by omega
  have c1 : ((cnt q : Int) == 0) = false := by simp; omega
  have c2 : ((cnt q : Int) == 1) = false := by simp; omega
  have c3 : ((cnt q : Int) == 256) = false := by simp; omega
  have c4 : decide ((128 : Int) < (cnt q : Int)) = true := decide_eq_true (by omega)
  unfold sp.RBytesIs at hby2
  unfold sp.RNotIs at hno
  unfold RPartsIs at hpt
  unfold sp.ROfIs at hof
  unfold sp.RNotIs at hnd
  unfold sp.RBytesIs at hby
  have hB0 : Below w.heap.size w (w.alloc (.cells #[.int .u64 q.a, .int .u64 q.b, .int .u64 q.c, .int .u64 q.d] 25)) := below_alloc _ _
  have ba : Blk (w.alloc (.cells #[.int .u64 q.a, .int .u64 q.b, .int .u64 q.c, .int .u64 q.d] 25)) w.heap.size q := blk_new w q
  generalize eq4 q dotQ = dd at *
  generalize dotQ = D at *
  generalize ofl [10] = T at *
  generalize cnt q = n at *
  rw [← EE.out]
  clear EE hn hn2
  generalize parts (mem (nt q)) = pl at *
  generalize bs pl = tp at *
  generalize tx (mem (nt q)) = tt2 at *
  generalize tx (mem q) = tt at *
  generalize nt q = nq at *
  go_enter Tryd.func29, Tryd.ntmps29
  go_wp2_with (first | (go_at_call 42; (with_reducible refine (hby _).mono ?_); rintro e w1 ⟨rfl, b1⟩; have k1 := ba.later b1; have y0 := k1.c0; have y1 := k1.c1; have y2 := k1.c2; have y3 := k1.c3; have B1 := chain hB0 b1))
  go_region_with (first | (go_at_call 45; refine (hof _).mono ?_; rintro e w2 ⟨rfl, b2⟩; have k2 : Blk w2 w.heap.size q := Blk.later (w := w1.drew) k1 b2; have z0 := k2.c0; have z1 := k2.c1; have z2 := k2.c2; have z3 := k2.c3; have B2 : Below w.heap.size w w2 := (Below.drew B1).trans (b2.mono B1.size)) | (go_at_call 44; (with_reducible refine (hnd _).mono ?_); rintro e w3 ⟨rfl, b3⟩; have k3 : Blk w3 w.heap.size q := Blk.later k2 b3; have v0 := k3.c0; have v1 := k3.c1; have v2 := k3.c2; have v3 := k3.c3; have B3 := chain B2 b3))
  all_goals go_wp2_with (first | (go_at_call 44; (with_reducible refine (hno _).mono ?_); rintro e w5 ⟨rfl, b5⟩; have B5 := chain B3 b5) | (go_at_call 42; (with_reducible refine (hby2 _).mono ?_); rintro e w6 ⟨rfl, b6⟩; have B6 := chain B5 b6) | (go_at_call 46; refine (hpt _).mono ?_; rintro e w7 ⟨rfl, b7⟩; have B7 := chain B6 b7))
  all_goals go_ret
  all_goals exact ⟨rfl, B7⟩
set_option maxHeartbeats 2000000 in
set_option maxRecDepth 100000 in
theorem rset_few (q : Q4) (hq : Fits q) (hd : eq4 q dotQ = false) (hn : ¬ 128 < cnt q) (hn0 : cnt q ≠ 0) (hn1 : cnt q ≠ 1) : SetTextIs 29 q (setT q) := by
  intro w
  have hr : setT q = [91] ++ parts (mem q) ++ [93] := by unfold setT; rw [if_neg hn1, if_neg (by rw [hd]; decide), if_neg hn0, if_neg (by omega), if_neg hn]; rfl
  rw [hr]
  clear hr
  have hof := sp.rof_any ⟨#[10]⟩ (by decide) _ rfl
  have eo : ofl (codes ⟨#[10]⟩) = ofl [10] := rfl
  rw [eo] at hof
  have hnd := sp.rnot_any (ofl [10]) dotQ (fits_ofl _) rfl
  have heq := eqd q dotQ
  have hby := sp.rbytes_any q hq _ rfl
  rw [tx_text] at hby
  have hts := tx_size (mem q)
  rw [show (mem q).length = cnt q from rfl] at hts
  have hpt := rparts_any (mem q) (rise_mem _) (mem_len _) _ rfl
  have hpl : (parts (mem q)).length ≤ 1024 := by have := prt_len (mem q).length (mem q); have := mem_len q; unfold parts; omega
  have hsz := bs_size (parts (mem q))
  have EE : Hid ((⟨#[91]⟩ : ByteArray) ++ bs (parts (mem q)) ++ ⟨#[93]⟩ = bs ([91] ++ parts (mem q) ++ [93])) := by
    show _ = _
    rw [← bs_append, ← bs_append]; rfl
  have hz1 : ¬ 9223372036854775807 < 1 + (parts (mem q)).length := by omega
  have hz2 : ¬ 9223372036854775807 < 1 + (parts (mem q)).length + 1 := by omega
  have c1 : ((cnt q : Int) == 0) = false := by simp; omega
  have c2 : ((cnt q : Int) == 1) = false := by simp; omega
  have c3 : ((cnt q : Int) == 256) = false := by simp; omega
  have c4 : decide ((128 : Int) < (cnt q : Int)) = false := decide_eq_false (by omega)
  unfold RPartsIs at hpt
  unfold sp.ROfIs at hof
  unfold sp.RNotIs at hnd
  unfold sp.RBytesIs at hby
  have hB0 : Below w.heap.size w (w.alloc (.cells #[.int .u64 q.a, .int .u64 q.b, .int .u64 q.c, .int .u64 q.d] 25)) := below_alloc _ _
  have ba : Blk (w.alloc (.cells #[.int .u64 q.a, .int .u64 q.b, .int .u64 q.c, .int .u64 q.d] 25)) w.heap.size q := blk_new w q
  generalize eq4 q dotQ = dd at *
  generalize dotQ = D at *
  generalize ofl [10] = T at *
  generalize cnt q = n at *
  rw [← EE.out]
  clear EE hn hn0 hn1
  generalize parts (mem q) = pl at *
  generalize bs pl = tp at *
  generalize tx (mem q) = tt at *
  go_enter Tryd.func29, Tryd.ntmps29
  go_wp2_with (first | (go_at_call 42; (with_reducible refine (hby _).mono ?_); rintro e w1 ⟨rfl, b1⟩; have k1 := ba.later b1; have y0 := k1.c0; have y1 := k1.c1; have y2 := k1.c2; have y3 := k1.c3; have B1 := chain hB0 b1))
  go_region_with (first | (go_at_call 45; refine (hof _).mono ?_; rintro e w2 ⟨rfl, b2⟩; have k2 : Blk w2 w.heap.size q := Blk.later (w := w1.drew) k1 b2; have z0 := k2.c0; have z1 := k2.c1; have z2 := k2.c2; have z3 := k2.c3; have B2 : Below w.heap.size w w2 := (Below.drew B1).trans (b2.mono B1.size)) | (go_at_call 44; (with_reducible refine (hnd _).mono ?_); rintro e w3 ⟨rfl, b3⟩; have k3 : Blk w3 w.heap.size q := Blk.later k2 b3; have v0 := k3.c0; have v1 := k3.c1; have v2 := k3.c2; have v3 := k3.c3; have B3 := chain B2 b3))
  all_goals go_wp2_with (first | (go_at_call 46; refine (hpt _).mono ?_; rintro e w7 ⟨rfl, b7⟩; have B7 := chain B3 b7))
  all_goals go_ret
  all_goals exact ⟨rfl, B7⟩
theorem rsettext_any (q : Q4) (hq : Fits q) (r : L8) (hr : r = setT q) : SetTextIs 29 q r := by
  subst hr
  cases hd : eq4 q dotQ
  · by_cases h0 : cnt q = 0
    · exact rset_none q hq hd h0
    · by_cases h1 : cnt q = 1
      · exact rset_one q hq h1
      · by_cases h2 : cnt q = 256
        · exact rset_every q hq hd h2
        · by_cases h3 : 128 < cnt q
          · exact rset_many q hq hd h3 h2
          · exact rset_few q hq hd h3 h0 h1
  · exact rset_dot q hq hd
end Go.Proofs.YtfclidcfhadohaaDoor.rp
