/-
  Contracts over this program: the reader's block, and its small steps (strings.IndexByte; regex.reader's wrong, sees, step, oneOf, noneOf, skips).
-/
import Derived.Test.YtfclidcfhadohaaDoorPs
import Derived.Test.YtfclidcfhadohaaDoorMem
import Derived.Test.YtfclidcfhadohaaDoorFit
import Derived.Lib.Bytealg
import Derived.Deep.QuietTactic
import Derived.Deep.RegionHeld3
import Derived.Lib.QuietBelow
import Derived.BigQuiet
namespace Go.Proofs.YtfclidcfhadohaaDoor.st
open Go.ChangeShapes Go.WideShapes Go.ChangeAt Go.RowKit
set_option linter.unusedVariables false

/-- the reader's block -/
def Rd (w : World) (g : Nat) (u : ByteArray) (p op : Nat) : Prop := w.heap[g]? = some (.cells #[.string u, .int .i64 p, .int .i64 op] 75 (0, 0))
theorem Rd.lt {w : World} {g p op : Nat} {u : ByteArray} (h : Rd w g u p op) : g < w.heap.size := (Array.getElem?_eq_some_iff.1 h).1
theorem Rd.c0 {w : World} {g p op : Nat} {u : ByteArray} (h : Rd w g u p op) : w.cell? ⟨g, 0, none⟩ = some (.string u) := by rw [Lib.cell_of_heap h]; rfl
theorem Rd.c1 {w : World} {g p op : Nat} {u : ByteArray} (h : Rd w g u p op) : w.cell? ⟨g, 1, none⟩ = some (.int .i64 p) := by rw [Lib.cell_of_heap h]; rfl
theorem Rd.c2 {w : World} {g p op : Nat} {u : ByteArray} (h : Rd w g u p op) : w.cell? ⟨g, 2, none⟩ = some (.int .i64 op) := by rw [Lib.cell_of_heap h]; rfl
theorem Rd.fz {w : World} {g p op : Nat} {u : ByteArray} (h : Rd w g u p op) (k : Nat) : w.frozen? ⟨g, k, none⟩ = false := Lib.frozen_of_heap h k
theorem Rd.later {w w' : World} {g p op : Nat} {u : ByteArray} (h : Rd w g u p op) (b : Below w.heap.size w w') : Rd w' g u p op := by unfold Rd; rw [b.block g h.lt]; exact h
theorem Rd.drew {w : World} {g p op : Nat} {u : ByteArray} (h : Rd w g u p op) : Rd w.drew g u p op := h
theorem Rd.set1 {w : World} {g p op : Nat} {u : ByteArray} (h : Rd w g u p op) (q : Nat) : Rd (w.setCell ⟨g, 1, none⟩ (.int .i64 q)) g u q op := set_heap1 w g _ _ 1 _ h
theorem Rd.set2 {w : World} {g p op : Nat} {u : ByteArray} (h : Rd w g u p op) (q : Nat) : Rd (w.setCell ⟨g, 2, none⟩ (.int .i64 q)) g u p q := set_heap1 w g _ _ 2 _ h

/-! ### A byte among others -/
theorem run67 (s : ByteArray) (c : Int) (W : World) : (callFunc 76 #[.string s, .int .u8 c]).run Tryd.prog W = .ok (.value (.int .i64 (Lib.indexByte s.data.toList c.toNat.toUInt8))) W := by
  rw [run_callFunc_extern (e := Extern.BytealgIndexByte.indexByte) Tryd.func76 (by kernel_rfl) (by kernel_rfl) (by kernel_rfl) (by kernel_rfl), Lib.run_indexByteString]
  rfl
def IndexIs (s : ByteArray) (c : Nat) (r : Int) : Prop := ∀ w, Calls Tryd.prog 55 #[.string s, .int .u8 c] w fun e w' => e = .returned (.int .i64 r) ∧ w' = w
theorem index_any (s : ByteArray) (c : Nat) (r : Int) (hr : r = Lib.indexByte s.data.toList c.toUInt8) : IndexIs s c r := by
  intro w
  have h67 := run67 s c
  have e : ((c : Int)).toNat = c := by omega
  rw [e, ← hr] at h67
  clear e hr
  go_enter Tryd.func55, Tryd.ntmps55
  go_wp2
  go_ret
  exact ⟨rfl, rfl⟩
theorem index_mem (l : List UInt8) (c : UInt8) : decide (0 ≤ Lib.indexByte l c) = decide (c ∈ l) := by
  induction l with
  | nil => simp [Lib.indexByte]
  | cons b l ih =>
    unfold Lib.indexByte
    by_cases hb : b = c
    · subst hb; simp
    · have h1 : (b == c) = false := by simpa using hb
      have h3 : decide (c ∈ b :: l) = decide (c ∈ l) := by
        rw [decide_eq_decide]; simp; intro e; exact absurd e.symm hb
      rw [h1, h3, ← ih]
      simp only [Bool.false_eq_true, if_false]
      have hge := Lib.indexByte_ge l c
      by_cases h2 : (Lib.indexByte l c == -1) = true
      · have : Lib.indexByte l c = -1 := by simpa using h2
        rw [if_pos h2, this]
      · rw [if_neg h2]
        have : Lib.indexByte l c ≠ -1 := by simpa using h2
        rw [decide_eq_decide]; omega
theorem index_codes (s : ByteArray) (b : UInt8) : decide (0 ≤ Lib.indexByte s.data.toList (b.toNat).toUInt8) = decide (b.toNat ∈ codes s) := by
  have e : (b.toNat).toUInt8 = b := by simp
  rw [e, index_mem, decide_eq_decide]
  unfold codes
  rw [List.mem_map]
  constructor
  · exact fun h => ⟨b, h, rfl⟩
  · rintro ⟨x, hx, hxb⟩
    rw [UInt8.toNat_inj] at hxb
    rw [← hxb]; exact hx

def SeesIs (u : ByteArray) (p : Nat) (s : ByteArray) (r : Bool) : Prop := ∀ g op w, Rd w g u p op → Calls Tryd.prog 74 #[.pointer (some ⟨g, 0, none⟩), .string s] w fun e w' => e = .returned (.bool r) ∧ Below w.heap.size w w'
set_option maxHeartbeats 1000000 in
set_option maxRecDepth 100000 in
theorem sees_in (u : ByteArray) (p : Nat) (s : ByteArray) (hu : u.size ≤ 9223372036854775807) (hin : p < u.size) (r : Bool) (hr : r = sees (codes s) (suf u p)) : SeesIs u p s r := by
  intro g op w h
  have c0 := h.c0
  have c1 := h.c1
  rw [suf_in u p hin] at hr
  have hix := index_any s u[p].toNat _ rfl
  have HR : Hid (r = decide (0 ≤ Lib.indexByte s.data.toList (u[p].toNat).toUInt8)) := by show _ = _; rw [index_codes, hr]; rfl
  generalize Lib.indexByte s.data.toList (u[p].toNat).toUInt8 = z at *
  have hlt : decide (p < u.size) = true := by simpa using hin
  clear hr
  go_enter Tryd.func74, Tryd.ntmps74
  go_wp2_with (fail)
  go_region_held3 (fun W => W.cell? ⟨g, 0, none⟩ = some (.string u) ∧ W.cell? ⟨g, 1, none⟩ = some (.int .i64 p)) (first | assumption | exact ⟨c0, c1⟩) (first | (go_at_call 55; refine (hix _).mono ?_; rintro e w1 ⟨rfl, rfl⟩))
  go_wp2_with (fail)
  go_ret
  exact ⟨by rw [HR.out]; rfl, (Below.refl _ _).drew⟩
set_option maxHeartbeats 2000000 in
set_option maxRecDepth 100000 in
theorem sees_out (u : ByteArray) (p : Nat) (s : ByteArray) (hu : u.size ≤ 9223372036854775807) (hp : p ≤ u.size) (hin : ¬ p < u.size) : SeesIs u p s false := by
  intro g op w h
  have c0 := h.c0
  have c1 := h.c1
  have e : p = u.size := by omega
  subst e
  have k0 := cell_regrown c0
  have k1 := cell_regrown c1
  clear hin hp
  go_enter Tryd.func74, Tryd.ntmps74
  go_wp2_with (fail)
  refine wp_region_quiet_below (by kernel_rfl) (by kernel_rfl) ?_
  repeat (go_big_quiet_step (fail))
  refine wpQuiet_nil ?_
  intro _ hw'
  obtain ⟨⟨dq, osq⟩, hw''⟩ := hw'
  subst hw''
  go_wp2
  go_ret
  exact ⟨rfl, below_regrown w dq osq⟩
end Go.Proofs.YtfclidcfhadohaaDoor.st
