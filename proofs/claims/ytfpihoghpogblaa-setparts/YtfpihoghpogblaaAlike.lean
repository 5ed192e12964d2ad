/-
  Contracts over this program: whether all sets have both bytes or neither (the document's alike), and the text of bits that tells which sets a byte is in (set.within).
-/
import Derived.Test.YtfpihoghpogblaaBytes
import Derived.Test.YtfpihoghpogblaaArg
import Derived.Test.YtfpihoghpogblaaCls
import Derived.Lib.QuietBelow
import Derived.BigQuiet
import Derived.Deep.OwnRows
namespace Go.Proofs.Ytfpihoghpogblaa.st
open Go.Sort Go.ChangeShapes Go.WideShapes Go.ChangeAt Go.RowKit
set_option linter.unusedVariables false

theorem blk_cells (W : World) (q : Q4) (o : Obj) (ho : o = .cells #[.int .u64 q.a, .int .u64 q.b, .int .u64 q.c, .int .u64 q.d] 25) : Blk (W.alloc o) W.heap.size q := by
  rw [ho]
  exact blk_new W q

/-- alike so far -/
def alikeTo (l : List Q4) (b c i : Nat) : Prop := ∀ j, j < i → has (nth l j) b = has (nth l j) c
theorem alikeTo_all (l : List Q4) (b c : Nat) : alikeTo l b c l.length ↔ sig l b = sig l c := by
  rw [sig_eq]
  constructor
  · intro h q hq
    obtain ⟨j, hj, rfl⟩ := List.getElem_of_mem hq
    have := h j hj
    unfold nth at this
    rw [List.getD_eq_getElem?_getD, List.getElem?_eq_getElem hj] at this
    exact this
  · intro h j hj
    exact h _ (nth_mem l j hj)

def AlikeIs (l : List Q4) (b c : Nat) (r : Bool) : Prop := ∀ v w, Sets w v l → Calls Try.prog 30 #[v, .int .u8 b, .int .u8 c] w fun e w' => e = .returned (.bool r) ∧ Below w.heap.size w w'

set_option maxHeartbeats 1000000 in
set_option maxRecDepth 100000 in
theorem alike_any (l : List Q4) (hf : ∀ q ∈ l, Fits q) (b c : Nat) (hb : b < 256) (hc : c < 256) (r : Bool) (hr : r = like l b c) : AlikeIs l b c r := by
  intro v w hv
  have HR : Hid (r = like l b c) := hr
  clear hr
  rcases hv with ⟨rfl, a, cap, rfl⟩ | ⟨g, off, cap, rfl, hl, hm, hlt, hcell⟩
  · have h0 : r = true := by rw [HR.out]; rfl
    subst h0
    go_enter Try.func30, Try.ntmps30
    go_wp2
    go_loopw [11] (fun x wr => x = .int .i64 0 ∧ wr = w) (fun _ _ => 0)
    case atStart => exact ⟨rfl, rfl⟩
    case round =>
      obtain ⟨rfl, rfl⟩ := hrel
      go_wp2
      go_ret
      exact ⟨rfl, Below.refl _ _⟩
  · go_enter Try.func30, Try.ntmps30
    go_wp2
    go_loopw [11] (fun x wr => ∃ i : Nat, x = .int .i64 i ∧ i ≤ l.length ∧ Below w.heap.size w wr ∧ Hid (alikeTo l b c i)) (fun x _ => l.length - (intOf x).toNat)
    case atStart => exact ⟨0, rfl, by omega, Below.refl _ _, by intro j hj; omega⟩
    case round =>
      obtain ⟨i, rfl, hi, hB, HA⟩ := hrel
      by_cases hend : i < l.length
      · obtain ⟨c0, c1, c2, c3⟩ := hcell i hend
        rw [← hB.cell (p := ⟨g, off + i * 4, none⟩) hlt] at c0
        rw [← hB.cell (p := ⟨g, off + i * 4 + 1, none⟩) hlt] at c1
        rw [← hB.cell (p := ⟨g, off + i * 4 + 2, none⟩) hlt] at c2
        rw [← hB.cell (p := ⟨g, off + i * 4 + 3, none⟩) hlt] at c3
        have hfx := hf _ (nth_mem l i hend)
        have HS : Hid (has (nth l i) b = has (nth l i) c → alikeTo l b c (i + 1)) := by
          intro h j hj
          by_cases e : j = i
          · subst e; exact h
          · exact HA.out j (by omega)
        have HD : Hid (has (nth l i) b ≠ has (nth l i) c → r = false) := by
          intro h
          rw [HR.out]
          unfold like
          simp only [decide_eq_false_iff_not]
          intro e
          exact h ((alikeTo_all l b c).2 e i hend)
        have h1 := rhas_any (nth l i) hfx b hb _ rfl
        have h2 := rhas_any (nth l i) hfx c hc _ rfl
        have hB2 : Below w.heap.size w (wr.alloc (.cells #[.int .u64 (nth l i).a, .int .u64 (nth l i).b, .int .u64 (nth l i).c, .int .u64 (nth l i).d] 25)) := hB.alloc hB.size _
        have hk := blk_new wr (nth l i)
        generalize nth l i = x at *
        obtain ⟨w0, hw0⟩ : ∃ w0, w0 = wr.alloc (.cells #[.int .u64 x.a, .int .u64 x.b, .int .u64 x.c, .int .u64 x.d] 25) := ⟨_, rfl⟩
        rw [← hw0] at hB2 hk
        have k0 := cell_regrown hk.c0
        have k1 := cell_regrown hk.c1
        have k2 := cell_regrown hk.c2
        have k3 := cell_regrown hk.c3
        have g1 : ∀ d os, Calls Try.prog 16 #[.agg #[.int .u64 x.a, .int .u64 x.b, .int .u64 x.c, .int .u64 x.d], .int .u8 b] (grow (redrawn w0 d) os) fun e w'' => e = .returned (.bool (has x b)) ∧ ∃ p : Regrown, w'' = grow (redrawn w0 p.d) p.os := fun d os => Calls.regrown_of (h1 _)
        have g2 : ∀ d os, Calls Try.prog 16 #[.agg #[.int .u64 x.a, .int .u64 x.b, .int .u64 x.c, .int .u64 x.d], .int .u8 c] (grow (redrawn w0 d) os) fun e w'' => e = .returned (.bool (has x c)) ∧ ∃ p : Regrown, w'' = grow (redrawn w0 p.d) p.os := fun d os => Calls.regrown_of (h2 _)
        generalize has x b = y1 at *
        generalize has x c = y2 at *
        clear HA hcell h1 h2
        go_wp2
        rw [← hw0]
        clear hw0
        refine wp_region_quiet_below (by kernel_rfl) (by kernel_rfl) ?_
        repeat (go_big_quiet_step (first | (with_reducible exact g1 _ _) | (with_reducible exact g2 _ _)))
        refine wpQuiet_nil ?_
        intro _ hw'
        obtain ⟨⟨dq, osq⟩, hw''⟩ := hw'
        subst hw''
        have hB3 := hB2.trans ((below_regrown w0 dq osq).mono hB2.size)
        clear g1 g2 k0 k1 k2 k3
        generalize grow (redrawn w0 dq) osq = w1 at *
        by_cases hy : y1 = y2
        · have HN : Hid _ := HS.out hy
          have heq : (y1 == y2) = true := by simp [hy]
          simp only [heq, Bool.not_true]
          clear HS HD hy heq
          go_wp2
          go_roundw
          case rel => exact ⟨i + 1, by go_num, by omega, hB3, HN⟩
          case measure => simp [intOf]; omega
        · have HN := HD.out hy
          have hne : (y1 == y2) = false := by simp [hy]
          subst HN
          simp only [hne, Bool.not_false]
          clear HS HD HR hy hne
          go_wp2
          go_ret
          exact ⟨rfl, hB3⟩
      · have HE : Hid (r = true) := by
          show _ = _
          rw [HR.out]
          unfold like
          simp only [decide_eq_true_eq]
          exact (alikeTo_all l b c).1 (by have e : i = l.length := by omega
                                          rw [← e]; exact HA.out)
        clear HA HR
        go_wp2
        go_ret
        exact ⟨by rw [HE.out]; rfl, hB⟩

/-- a row of bytes that the call has made -/
def Row (w : World) (g : Nat) (xs : List Nat) : Prop := w.heap[g]? = some (.cells (xs.map fun n : Nat => Value.int .u8 (n : Int)).toArray 5 (0, 0))
theorem Row.lt {w : World} {g : Nat} {xs : List Nat} (h : Row w g xs) : g < w.heap.size := (Array.getElem?_eq_some_iff.1 h).1
theorem Row.later {w w' : World} {g : Nat} {xs : List Nat} (h : Row w g xs) (b : Below w.heap.size w w') : Row w' g xs := by unfold Row; rw [b.block g h.lt]; exact h
theorem Row.cell {w : World} {g : Nat} {xs : List Nat} (h : Row w g xs) (i : Nat) (hi : i < xs.length) : w.cell? ⟨g, i, none⟩ = some (.int .u8 (xs.getD i 0 : Nat)) := by
  rw [Lib.cell_of_heap h, List.getD_eq_getElem?_getD, List.getElem?_eq_getElem hi]
  simp [hi]
theorem Row.fz {w : World} {g : Nat} {xs : List Nat} (h : Row w g xs) (i : Nat) : w.frozen? ⟨g, i, none⟩ = false := Lib.frozen_of_heap h i
theorem Row.put {w : World} {g : Nat} {xs : List Nat} (h : Row w g xs) (i v : Nat) : Row (w.setCell ⟨g, i, none⟩ (.int .u8 v)) g (xs.set i v) := by
  unfold Row
  rw [set_heap w g _ _ i _ h]
  congr 2
  simp
theorem Row.text {w : World} {g : Nat} {xs : List Nat} (h : Row w g xs) (hx : ∀ x ∈ xs, x < 256) : Sem.run Try.prog (convert 46 9 (.slice (some ⟨g, 0, none⟩) xs.length xs.length)) w = .ok (.string ⟨(xs.map UInt8.ofNat).toArray⟩) w := by
  have h2 := run_convert_bytes_back (P := Try.prog) w 46 9 5 ⟨g, 0, none⟩ xs.length (xs.map UInt8.ofNat) Try.underlying46 Try.underlying5 Try.underlying9 (fun j hj => by
    have hj2 : j < xs.length := by simpa using hj
    have hplain : (⟨g, 0, none⟩ : Addr).add j = ⟨g, j, none⟩ := by unfold Addr.add; simp; omega
    rw [hplain, h.cell j hj2, List.getD_eq_getElem?_getD, List.getElem?_eq_getElem hj2]
    have := hx _ (List.getElem_mem hj2)
    simp [Nat.mod_eq_of_lt this])
  rw [List.length_map] at h2
  exact h2

theorem bit8_or (x m : Nat) (hx : x < 256) (hm : m < 8) : bits .or .u8 (x : Int) (2 ^ m % 256) = ((x ||| 2 ^ m : Nat) : Int) := by
  have hp : (2 : Nat) ^ m < 256 := Nat.lt_of_lt_of_le (Nat.pow_lt_pow_right (by omega) hm) (by decide)
  have h1 : (2 : Int) ^ m % 256 = ((2 ^ m : Nat) : Int) := by
    have e : ((2 : Int) ^ m) = ((2 ^ m : Nat) : Int) := by simp
    rw [e]
    generalize 2 ^ m = y at *
    omega
  rw [h1]
  exact u8_or_nat _ _ hx hp

theorem sig_at (l : List Q4) (b i : Nat) (h : i < l.length) : (sig l b).getD i false = has (nth l i) b := by
  unfold sig nth
  rw [List.getD_eq_getElem?_getD, List.getD_eq_getElem?_getD, List.getElem?_map, List.getElem?_eq_getElem h]
  rfl
theorem pack_in {l : List Q4} {b i : Nat} (hi : i < l.length) (h : has (nth l i) b = true) : packTo (sig l b) (i + 1) = (packTo (sig l b) i).set (i / 8) ((packTo (sig l b) i).getD (i / 8) 0 ||| 2 ^ (i % 8)) := by
  rw [packTo, sig_at l b i hi, h]
  rfl
theorem pack_out {l : List Q4} {b i : Nat} (hi : i < l.length) (h : has (nth l i) b = false) : packTo (sig l b) (i + 1) = packTo (sig l b) i := by
  rw [packTo, sig_at l b i hi, h]
  rfl

def WithinIs (l : List Q4) (b : Nat) (t : ByteArray) : Prop := ∀ v w, Sets w v l → Calls Try.prog 29 #[v, .int .u8 b] w fun e w' => e = .returned (.string t) ∧ Below w.heap.size w w'

theorem make46 (n : Nat) (hn : n ≤ 1000000) (W : World) : (Instr.makeSlice 46 (.int .i64 (n : Int)) (.int .i64 (n : Int))).run Try.prog W = .ok (.slice (some ⟨W.heap.size, 0, none⟩) n n) (W.alloc (.cells (madeCells #[.int .u8 0] n) 5)) :=
  run_make_row' (P := Try.prog) 46 5 (.int .u8 0) 1 Try.underlying46 info5 rfl .i64 .i64 n (by omega) (by omega) W
theorem made_row (W : World) (n : Nat) : Row (W.alloc (.cells (madeCells #[.int .u8 0] n) 5)) W.heap.size (List.replicate n 0) := by
  unfold Row
  rw [heap_alloc_new]
  congr 2
  apply Array.toList_inj.1
  rw [toList_madeCells_one]
  simp

set_option maxHeartbeats 1000000 in
set_option maxRecDepth 100000 in
theorem within_any (l : List Q4) (hf : ∀ q ∈ l, Fits q) (hlen : l.length ≤ 1000000) (b : Nat) (hb : b < 256) (t : ByteArray) (ht : t = ⟨(key l b).toArray⟩) : WithinIs l b t := by
  intro v w hv
  have HT : Hid (t = ⟨(key l b).toArray⟩) := ht
  clear ht
  rcases hv with ⟨rfl, a, cap, rfl⟩ | ⟨g, off, cap, rfl, hl, hm, hlt, hcell⟩
  · have hmk := make46 0 (by omega)
    have hr := made_row w 0
    have htx := hr.text (by simp)
    have hk : key [] b = [] := by simp [key, packTo, sig]
    have HE : Hid (t = ⟨#[]⟩) := by show _ = _; rw [HT.out, hk]
    have hrep : (List.replicate 0 0 : List Nat).length = 0 := rfl
    obtain ⟨w0, hw0⟩ : ∃ w0, w0 = w.alloc (.cells (madeCells #[.int .u8 0] 0) 5) := ⟨_, rfl⟩
    have hB : Below w.heap.size w w0 := by rw [hw0]; exact (Below.refl _ _).alloc (Nat.le_refl _) _
    have hmk2 : (Instr.makeSlice 46 (.int .i64 0) (.int .i64 0)).run Try.prog w = .ok (.slice (some ⟨w.heap.size, 0, none⟩) 0 0) w0 := by rw [hw0]; exact hmk w
    rw [← hw0] at htx
    have htx2 : Sem.run Try.prog (convert 46 9 (.slice (some ⟨w.heap.size, 0, none⟩) 0 0)) w0 = .ok (.string ⟨#[]⟩) w0 := htx
    clear hmk hr htx HT hk hw0
    go_enter Try.func29, Try.ntmps29
    go_wp2
    go_loopw [16] (fun x wr => x = .int .i64 0 ∧ wr = w0) (fun _ _ => 0)
    case atStart => exact ⟨rfl, rfl⟩
    case round =>
      obtain ⟨rfl, rfl⟩ := hrel
      go_wp2
      go_ret
      exact ⟨by rw [HE.out]; rfl, hB⟩
  · obtain ⟨n, hn⟩ : ∃ n, n = (l.length + 7) / 8 := ⟨_, rfl⟩
    have HE1 : Hid (((l.length : Int) + 8 - 1) / 8 = (n : Int)) := by show _ = _; omega
    have hr0 := made_row w n
    obtain ⟨i0, hi0, hz0, hz1, hz2⟩ := info_parts info5
    have hB0 : Below w.heap.size w (w.alloc (.cells (madeCells #[.int .u8 0] n) 5)) := (Below.refl _ _).alloc (Nat.le_refl _) _
    have hn2 : n ≤ 1000000 := by omega
    have HNN : Hid (n = (l.length + 7) / 8) := hn
    clear hn
    go_enter Try.func29, Try.ntmps29
    go_wp2_with (refine wpList_make_row _ rfl (.tmp 12) (.tmp 12) 46 rfl 5 i0 (.int .u8 0) Try.underlying46 hi0 hz0 hz1 rfl .i64 .i64 n (congrArg (Value.int .i64) HE1.out) (congrArg (Value.int .i64) HE1.out) (by rw [hz2]; omega) (by omega) ?_)
    clear HE1 hi0 hz0 hz1 hz2
    go_loopw [16] (fun x wr => ∃ i : Nat, x = .int .i64 i ∧ i ≤ l.length ∧ Row wr w.heap.size (packTo (sig l b) i) ∧ Below w.heap.size w wr) (fun x _ => l.length - (intOf x).toNat)
    case atStart => exact ⟨0, rfl, by omega, by rw [packTo, sig_length, ← HNN.out]; exact hr0, hB0⟩
    case round =>
      obtain ⟨i, rfl, hi, hR, hB⟩ := hrel
      have hpl := packTo_length (sig l b) i
      rw [sig_length, ← HNN.out] at hpl
      by_cases hend : i < l.length
      · obtain ⟨c0, c1, c2, c3⟩ := hcell i hend
        rw [← hB.cell (p := ⟨g, off + i * 4, none⟩) hlt] at c0
        rw [← hB.cell (p := ⟨g, off + i * 4 + 1, none⟩) hlt] at c1
        rw [← hB.cell (p := ⟨g, off + i * 4 + 2, none⟩) hlt] at c2
        rw [← hB.cell (p := ⟨g, off + i * 4 + 3, none⟩) hlt] at c3
        have hfx := hf _ (nth_mem l i hend)
        have hB2 : Below w.heap.size w (wr.alloc (.cells #[.int .u64 (nth l i).a, .int .u64 (nth l i).b, .int .u64 (nth l i).c, .int .u64 (nth l i).d] 25)) := hB.alloc hB.size _
        have hR2 : Row (wr.alloc (.cells #[.int .u64 (nth l i).a, .int .u64 (nth l i).b, .int .u64 (nth l i).c, .int .u64 (nth l i).d] 25)) w.heap.size (packTo (sig l b) i) := hR.later ((Below.refl _ _).alloc (Nat.le_refl _) _)
        by_cases hh : has (nth l i) b = true
        · have hp := has_any (nth l i) hfx b hb true hh.symm
          obtain ⟨k, hk⟩ : ∃ k, k = i / 8 := ⟨_, rfl⟩
          obtain ⟨m, hm8⟩ : ∃ m, m = i % 8 := ⟨_, rfl⟩
          have e2 : ((i : Int) / 8) = (k : Int) := by omega
          have e3 : ((i : Int) % 8) = (m : Int) := by omega
          obtain ⟨y, hy⟩ : ∃ y, y = (packTo (sig l b) i).getD k 0 := ⟨_, rfl⟩
          have hy2 : y < 256 := by rw [hy]; exact getD_lt_256 _ (packTo_lt _ _) _
          have e4 := bit8_or y m hy2 (by omega)
          have hkn : k < n := by have := HNN.out; omega
          have HP : Hid (packTo (sig l b) (i + 1) = (packTo (sig l b) i).set k (y ||| 2 ^ m)) := by show _ = _; rw [pack_in hend hh, hy, hk, hm8]
          have HC : Hid (∀ W, Row W w.heap.size (packTo (sig l b) i) → W.cell? ⟨w.heap.size, k, none⟩ = some (.int .u8 (y : Nat))) := fun W hW => by rw [hW.cell k (by omega), hy]
          generalize nth l i = x at *
          clear hcell hh hk hm8 hy hpl
          go_wp2_with (go_at_call 15; refine (hp _).mono ?_; rintro e w1 ⟨rfl, b1⟩; have hR3 := hR2.later b1; have hB3 := chain hB2 b1; have kc := HC.out _ hR3; have kf := hR3.fz k)
          go_region
          all_goals go_wp2
          all_goals exact ⟨⟨i + 1, by go_num, by omega, by rw [HP.out]; exact hR3.put k _, (hB3.setCell (p := ⟨w.heap.size, k, none⟩) (Nat.le_refl _) _).drew⟩, by simp [intOf]; omega⟩
        · have hfl : has (nth l i) b = false := by simpa using hh
          have hp := has_any (nth l i) hfx b hb false hfl.symm
          have HP : Hid (packTo (sig l b) (i + 1) = packTo (sig l b) i) := pack_out hend hfl
          generalize nth l i = x at *
          clear hcell hh hfl
          go_wp2_with (go_at_call 15; refine (hp _).mono ?_; rintro e w1 ⟨rfl, b1⟩; have hR3 := hR2.later b1; have hB3 := chain hB2 b1)
          go_roundw
          case rel => exact ⟨i + 1, by go_num, by omega, by rw [HP.out]; exact hR3, hB3⟩
          case measure => simp [intOf]; omega
      · have he : i = l.length := by omega
        have htx := hR.text (packTo_lt _ _)
        rw [hpl] at htx
        have HE : Hid (t = ⟨((packTo (sig l b) i).map UInt8.ofNat).toArray⟩) := by show _ = _; rw [HT.out, he]; rfl
        clear HT hcell
        go_wp2
        go_ret
        exact ⟨by rw [HE.out, he]; rfl, hB⟩
end Go.Proofs.Ytfpihoghpogblaa.st
