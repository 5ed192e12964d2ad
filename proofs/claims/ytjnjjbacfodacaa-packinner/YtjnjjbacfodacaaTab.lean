/-
  Contracts over this program: the table of 256 steps, and the steps over a text by it (sum.table, sum.On, sum.Of).
-/
import Derived.Test.YtjnjjbacfodacaaRows
import Derived.Test.YtjnjjbacfodacaaCrc
import Derived.Great.Walk
import Derived.Deep.WholeRow
import Derived.WalkKit
import Derived.ProofKit
import Derived.OpenShut
namespace Go.Proofs.Ytjnjjbacfodacaa.crc
open Go.ChangeShapes Go.WideShapes Go.ChangeAt Go.RowKit Go.Great
set_option linter.unusedVariables false

def zs : List Int := (List.range 256).map fun i => (nts 8 i : Int)
def cells : Array Value := (zs.map (Value.int .u32)).toArray
def zeros : Array Value := Array.replicate 256 (.int .u32 0)

def TableIs : Prop := ∀ w, Calls Try.prog 53 #[] w fun e w' => e = .returned (.agg cells) ∧ w' = w.alloc (.cells cells 76)

set_option maxRecDepth 100000 in
theorem table_is : TableIs := by
  intro w
  refine calls_of_wp Try.func53 rfl ?_
  refine wp_anyFrame 2 (by kernel_rfl) rfl fun a0 hs0 hd0 => ?_
  apply wp_seq_k; intro K0 hK0
  apply wp_region_lit
  refine wpList_allocTo rfl (some 0) rfl (.pointer (some ⟨w.heap.size, 0, none⟩)) (.cells zeros 76) (by kernel_rfl) ?_
  apply wpList_nil
  refine hK0 _ _ ?_
  apply wp_seq_k; intro K1 hK1
  apply wp_region_lit
  refine wpList_buildFlatArrTo rfl 76 34 256 _ rfl .u32 zs (some 1) rfl (by kernel_rfl) (by kernel_rfl) (by kernel_rfl) (by kernel_rfl) ?_
  refine wpList_store_rowTo rfl 76 _ _ rfl rfl w.heap.size cells ?_ (Act.eval_put_same _ 1 _ (by simp only [Act.size_put, hs0]; omega)) 76 zeros ?_ (by kernel_rfl) (by kernel_rfl) (by kernel_rfl) ?_
  · rw [Act.eval_put_ne _ _ _ _ (by decide)]
    exact Act.eval_put_same _ 0 _ (by simp only [hs0]; omega)
  · exact heap_alloc_last w _
  apply wpList_nil
  refine hK1 _ _ ?_
  rw [World.setRow_alloc_new]
  apply wp_ret
  refine bodyPost_ret (v := .agg cells) (results_cell_row Try.results53 _ _ w.heap.size 76 cells (0, 0) (.array 256 34) ?_ (heap_alloc_last w _) (by kernel_rfl) rfl (by kernel_rfl)) (by simp only [Act.defers_put', hd0]) ⟨rfl, rfl⟩
  have h1 : Act.eval ((a0.put (some 0) (.pointer (some ⟨w.heap.size, 0, none⟩))).put (some 1) (.agg cells)) (.tmp 0) = .pointer (some ⟨w.heap.size, 0, none⟩) := by
    rw [Act.eval_put_ne _ _ _ _ (by decide)]
    exact Act.eval_put_same _ 0 _ (by simp only [hs0]; omega)
  exact h1

theorem cells_at (j : Nat) (h : j < 256) : cells[j]? = some (.int .u32 (nts 8 j)) := by
  unfold cells zs
  rw [List.getElem?_toArray, List.getElem?_map, List.getElem?_map, List.getElem?_range h]
  rfl
theorem zero76 : ∀ w, (zeroValue 76).run Try.prog w = .ok (.agg zeros) w :=
  (zero_of_info (P := Try.prog) (t := 76) (v := .agg zeros) (n := 256) (by kernel_rfl)).1
theorem store76 (w : World) : (storeCells ⟨w.heap.size + 1, 0, none⟩ cells.toList).run Try.prog ((w.alloc (.cells cells 76)).alloc (.cells zeros 76)) = .ok () ((w.alloc (.cells cells 76)).alloc (.cells cells 76)) := by
  have h := run_storeCells_new (P := Try.prog) (w.alloc (.cells cells 76)) 76 zeros cells (by kernel_rfl) (by kernel_rfl) (by kernel_rfl)
  rw [World.size_alloc] at h
  exact h
theorem cells_size : cells.size = 256 := by kernel_rfl
theorem cell_two (w : World) (j : Nat) (h : j < 256) : ((w.alloc (.cells cells 76)).alloc (.cells cells 76)).cell? ⟨w.heap.size + 1, j, none⟩ = some (.int .u32 (nts 8 j)) := by
  rw [World.cell?_alloc2_new, cells_at j h]

theorem xor_byte {a b : Nat} (ha : a < 256) (hb : b < 256) : a ^^^ b < 256 := Nat.xor_lt_two_pow (n := 8) ha hb

/-- one step by the table, as the walk writes it -/
theorem tab_step (r b : Nat) (hr : r < 4294967296) (hb : b < 256) :
    ∃ x y n : Nat, bits .xor .u8 ((r : Int) % 256) (b : Int) = (x : Int) ∧ x < 256 ∧ nts 8 x = y ∧ y < 4294967296 ∧ bits .xor .u32 ((r : Int) / 256) (y : Int) = (n : Int) ∧ n < 4294967296 ∧ n = nts 8 (r ^^^ b) := by
  have hy := nts_lt 8 (show r % 256 ^^^ b < 4294967296 from Nat.lt_trans (xor_byte (Nat.mod_lt _ (by omega)) hb) (by omega))
  have hn : r / 256 ^^^ nts 8 (r % 256 ^^^ b) = nts 8 (r ^^^ b) := (nts_byte r b).symm
  refine ⟨r % 256 ^^^ b, _, _, ?_, xor_byte (Nat.mod_lt _ (by omega)) hb, rfl, hy, ?_, nts_lt 8 (xor_lt hr (show b < 4294967296 by omega)), rfl⟩
  · have := u8_xor_nat (r % 256) b (Nat.mod_lt _ (by omega)) hb
    simpa using this
  · have := u32_xor_nat (r / 256) (nts 8 (r % 256 ^^^ b)) (by omega) hy
    rw [hn] at this
    simpa using this

/-- turning all bits, as the walk writes it -/
theorem turn_all (r : Nat) (h : r < 4294967296) : bits .xor .u32 IntKind.u32.max (r : Int) = ((4294967295 - r : Nat) : Int) := by
  have := u32_xor_nat 4294967295 r (by omega) h
  rw [not_is r h] at this
  exact this

theorem take_more (s : ByteArray) (i : Nat) (h : i < s.size) (r : Nat) : reg r (s.data.toList.take (i + 1)) = nts 8 (reg r (s.data.toList.take i) ^^^ s[i].toNat) := by
  have hl : i < s.data.toList.length := by simpa using h
  rw [List.take_succ_eq_append_getElem hl, reg_append, reg_cons, reg_nil]
  rfl

def OnIs (c : Nat) (s : ByteArray) (n : Nat) : Prop := ∀ w, Calls Try.prog 47 #[.int .u32 c, .string s] w fun e w' => e = .returned (.int .u32 n) ∧ Below w.heap.size w w'

set_option maxRecDepth 100000 in
set_option maxHeartbeats 1000000 in
theorem on_any (c : Nat) (s : ByteArray) (hc : c < 4294967296) (hs : s.size ≤ 1125899906842624) : OnIs c s (4294967295 - reg (4294967295 - c) s.data.toList) := by
  intro w
  have ht := table_is
  have hz := zero76
  have hst := store76
  have hcs := cells_size
  have hT := turn_all c hc
  obtain ⟨r0, hr0⟩ : ∃ r0, r0 = 4294967295 - c := ⟨_, rfl⟩
  rw [← hr0] at hT
  have hr : r0 < 4294967296 := by omega
  have H0 : Hid (r0 = 4294967295 - c) := hr0
  clear hr0
  go_enter Try.func47, Try.ntmps47
  go_wp2_with (first | (go_at_call 53; refine (ht _).mono ?_; rintro e w1 ⟨rfl, rfl⟩))
  have hb : Below w.heap.size w ((w.alloc (.cells cells 76)).alloc (.cells cells 76)) := ((Below.refl _ _).alloc (Nat.le_refl _) _).alloc (by simp) _
  have hcell := cell_two w
  clear hz hst hcs hT ht
  go_loop [6, 13] (fun u v => ∃ (r i : Nat), u = .int .u32 r ∧ v = .int .i64 i ∧ i ≤ s.size ∧ r < 4294967296 ∧ Hid (r = reg r0 (s.data.toList.take i))) (fun _ v => s.size - (intOf v).toNat)
  case atStart => exact ⟨r0, 0, rfl, rfl, by omega, hr, by show _ = _; rw [List.take_zero, reg_nil]⟩
  case round =>
    obtain ⟨r, i, rfl, rfl, hi, hrl, HR⟩ := hrel
    by_cases h : s.size ≤ i
    · have HE : Hid (r = reg (4294967295 - c) s.data.toList) := by
        show _ = _
        rw [HR.out, H0.out, List.take_of_length_le (by simpa using h)]
      have hT := turn_all r hrl
      clear HR H0
      go_wp2
      go_ret
      exact ⟨by rw [← HE.out]; rfl, hb⟩
    · have hin : i < s.size := by omega
      obtain ⟨x, y, n, e1, hx, e2, hy, e3, hn, e4⟩ := tab_step r s[i].toNat hrl s[i].toNat_lt
      have hc1 := hcell x hx
      rw [e2] at hc1
      have HN : Hid (n = reg r0 (s.data.toList.take (i + 1))) := by
        show _ = _
        rw [take_more s i hin, ← HR.out, e4]
      clear HR e2 e4 hcell
      go_wp2
      go_round
      case rel => exact ⟨n, i + 1, rfl, by go_num, by omega, hn, HN⟩
      case measure => simp [intOf]; omega

def OfIs (s : ByteArray) (n : Nat) : Prop := ∀ w, Calls Try.prog 38 #[.string s] w fun e w' => e = .returned (.int .u32 n) ∧ Below w.heap.size w w'
theorem of_any (s : ByteArray) (hs : s.size ≤ 1125899906842624) : OfIs s (4294967295 - reg 4294967295 s.data.toList) := by
  intro w
  have h := on_any 0 s (by omega) hs
  go_enter Try.func38, Try.ntmps38
  go_wp2_with (go_at_call 47; refine (h _).mono ?_; rintro e w1 ⟨rfl, b1⟩)
  go_ret
  exact ⟨rfl, b1⟩
end Go.Proofs.Ytjnjjbacfodacaa.crc
