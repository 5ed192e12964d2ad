/-
  Contracts over this program: a number's digits behind a row of bytes (wire.digits), and a number as it is written (wire.Put).
-/
import Derived.Test.YtdekkjnlmlkbdaaDoorNum
import Derived.Test.YtdekkjnlmlkbdaaDoorRows
import Derived.WalkKit
import Derived.ProofKit
import Derived.OpenShut
import Derived.Laws.BytesArg
import Derived.Lib.BufSteps
namespace Go.Proofs.YtdekkjnlmlkbdaaDoor.num
open Go.ChangeShapes Go.WideShapes Go.ChangeAt Go.RowKit
set_option linter.unusedVariables false

theorem info5 : (Tryd.prog.info? 5).map (fun i => (i.zero, i.size, i.bytes)) = some (some (.int .u8 0), 1, 1) := by kernel_rfl

theorem digs_length (n : Nat) (h : n < 18446744073709551616) : (digs n).length ≤ 10 := by
  have := rd_digs n [] h
  exact (rd_ok this).2.2.1

theorem cells_one {n : Nat} (h : n < 256) : Lib.byteCells [UInt8.ofNat n] = [.int .u8 (n : Int)] := by
  simp [Lib.byteCells, Nat.mod_eq_of_lt h]

theorem conv_own {B : Nat} {v : Value} {acc : List UInt8} {w : World} (h : w.ownsRowF B 5 1 v acc.length (Lib.byteCells acc)) :
    Sem.run Tryd.prog (convert 48 9 v) w = .ok (.string ⟨acc.toArray⟩) w := by
  rcases h.2 with ⟨rfl, h0⟩ | ⟨g, cap, cur, fz, rfl, _, hg, _, hcap, _, hcs, htk⟩
  · have : acc = [] := List.length_eq_zero_iff.1 h0
    subst this
    exact run_convert_bytes_nil w 48 5 Tryd.underlying48 Tryd.underlying5 0 0 9 Tryd.underlying9
  · refine run_convert_bytes_back w 48 9 5 ⟨g, 0, none⟩ cap acc Tryd.underlying48 Tryd.underlying5 Tryd.underlying9 fun j hj => ?_
    have hplain : (⟨g, 0, none⟩ : Addr).add j = ⟨g, j, none⟩ := by unfold Addr.add; simp; omega
    have hj2 : j < cur.toList.length := by simp; omega
    have e : cur.toList[j]? = some (.int .u8 (acc[j].toNat : Int)) := by
      have h1 : (cur.toList.take (acc.length * 1))[j]? = (Lib.byteCells acc)[j]? := by rw [htk]
      rw [List.getElem?_take_of_lt (by omega)] at h1
      rw [h1]
      simp [Lib.byteCells, hj]
    rw [hplain]
    rw [Array.getElem?_toList] at e
    simp [World.cell?, hg, e]

/-- what is written behind what is there -/
def DigitsIs (W0 : World) (B : Nat) (acc : List UInt8) (n : Nat) : Prop := ∀ v w, Lib.OwnBuf B 5 v acc.length (Lib.byteCells acc) W0 w → Calls Tryd.prog 40 #[v, .int .u64 n] w fun e w' => ∃ v', e = .returned v' ∧ Lib.OwnBuf B 5 v' (acc ++ digs n).length (Lib.byteCells (acc ++ digs n)) W0 w'

set_option maxHeartbeats 1000000 in
set_option maxRecDepth 100000 in
theorem digits_any (W0 : World) (B : Nat) (acc : List UInt8) (n : Nat) (hn : n < 18446744073709551616) (hl : acc.length ≤ 70368744177664) : DigitsIs W0 B acc n := by
  intro v w hb
  obtain ⟨i0, hi, hz0, hz1, hz2⟩ := info_parts info5
  go_enter Tryd.func40, Tryd.ntmps40
  go_wp2
  go_loopw [0, 1] (fun u x wr => ∃ (a : List UInt8) (m : Nat), x = .int .u64 m ∧ m < 18446744073709551616 ∧ Lib.OwnBuf B 5 u a.length (Lib.byteCells a) W0 wr ∧ Hid (a ++ digs m = acc ++ digs n)) (fun _ x _ => (intOf x).toNat)
  case atStart => exact ⟨acc, n, rfl, hn, hb, rfl⟩
  case round =>
    obtain ⟨a, m, rfl, hm, hbuf, HA⟩ := hrel
    have hal : a.length ≤ 70368744177674 := by
      have h1 := congrArg List.length HA.out
      rw [List.length_append, List.length_append] at h1
      have h2 := digs_length n hn
      omega
    by_cases h : m < 128
    · have HE : Hid (a.length + 1 = (acc ++ digs n).length ∧ Lib.byteCells a ++ [.int .u8 (m : Int)] = Lib.byteCells (acc ++ digs n)) := by
        show _ ∧ _
        rw [← HA.out, digs_small h, Lib.byteCells_append, cells_one (by omega)]
        simp
      go_wp2_with (at_builtin; refine Lib.wpList_append_byte rfl _ _ 48 rfl B 5 i0 Tryd.underlying48 hi hz0 hz1 hz2 _ _ _ rfl W0 _ _ (by exact hbuf) rfl (by omega) ?_; intro v' w' hb')
      go_ret
      exact ⟨v', rfl, by rw [← HE.out.1, ← HE.out.2]; exact hb'⟩
    · have HE : Hid ((a ++ [UInt8.ofNat (m % 128 + 128)]) ++ digs (m / 128) = acc ++ digs n) := by
        show _ = _
        rw [← HA.out, digs_great h, List.append_assoc]
        rfl
      have HC : Hid (Lib.byteCells (a ++ [UInt8.ofNat (m % 128 + 128)]) = Lib.byteCells a ++ [.int .u8 ((m : Int) % 128 + 128)]) := by
        show _ = _
        rw [Lib.byteCells_append, cells_one (by omega)]
        congr 3
      go_wp2_with (at_builtin; refine Lib.wpList_append_byte rfl _ _ 48 rfl B 5 i0 Tryd.underlying48 hi hz0 hz1 hz2 _ _ _ rfl W0 _ _ (by exact hbuf) rfl (by omega) ?_; intro v' w' hb')
      go_roundw
      case rel => exact ⟨a ++ [UInt8.ofNat (m % 128 + 128)], m / 128, by go_num, by omega, by rw [HC.out, List.length_append]; exact hb', HE⟩
      case measure => simp [intOf]; omega

def PutIs (n : Nat) (t : ByteArray) : Prop := ∀ w, Calls Tryd.prog 28 #[.int .u64 n] w fun e w' => e = .returned (.string t) ∧ Below w.heap.size w w'

theorem own_nil (w : World) : Lib.OwnBuf w.heap.size 5 (.slice none 0 0) ([] : List UInt8).length (Lib.byteCells []) w w :=
  ⟨⟨rfl, .inl ⟨rfl, rfl⟩⟩, Below.refl _ _, Nat.le_refl _⟩

theorem put_any (n : Nat) (hn : n < 18446744073709551616) : PutIs n ⟨(digs n).toArray⟩ := by
  intro w
  have hd := digits_any w w.heap.size [] n hn (by simp) _ w (own_nil w)
  rw [List.nil_append] at hd
  go_enter Tryd.func28, Tryd.ntmps28
  go_wp2_with (go_at_call 40; refine hd.mono ?_; rintro e w1 ⟨v', rfl, hb⟩; have hcv := conv_own hb.1)
  go_ret
  exact ⟨rfl, hb.2.1⟩

theorem put_is (n : Nat) (hn : n < 18446744073709551616) (t : ByteArray) (ht : t.data.toList = digs n) : PutIs n t := by
  have e : (⟨(digs n).toArray⟩ : ByteArray) = t := by
    cases t; congr 1; exact Array.toList_inj.1 (by rw [ht])
  rw [← e]; exact put_any n hn
end Go.Proofs.YtdekkjnlmlkbdaaDoor.num
