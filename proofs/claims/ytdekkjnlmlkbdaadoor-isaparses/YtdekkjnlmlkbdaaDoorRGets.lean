/-
  Contracts over this program: the document's way to write a number (fretsawref02.Put) and to read one (fretsawref02.Get).
-/
import Derived.Test.YtdekkjnlmlkbdaaDoorGets
import Derived.Deep.RegionHeld3
import Derived.BigQuiet
namespace Go.Proofs.YtdekkjnlmlkbdaaDoor.num
open Go.ChangeShapes Go.WideShapes Go.ChangeAt Go.RowKit
set_option linter.unusedVariables false

theorem alloc_last (w : World) (o : Obj) : (w.alloc o).heap[w.heap.size]? = some o := by
  show (w.heap.push o)[w.heap.size]? = _
  simp
theorem own_new (w : World) : Lib.OwnBuf w.heap.size 5 (.slice (some ⟨w.heap.size, 0, none⟩) 0 0) ([] : List UInt8).length (Lib.byteCells []) w (w.alloc (.cells #[] 5)) :=
  ⟨⟨rfl, .inr ⟨w.heap.size, 0, #[], (0, 0), rfl, Nat.le_refl _, alloc_last w _, Nat.zero_le _, Nat.le_refl _, Nat.zero_le _, rfl, rfl⟩⟩, (Below.refl _ w).alloc (Nat.le_refl _) _, ((Below.refl _ w).alloc (Nat.le_refl _) _).size⟩

def RPutIs (n : Nat) (t : ByteArray) : Prop := ∀ w, Calls Tryd.prog 30 #[.int .u64 n] w fun e w' => e = .returned (.string t) ∧ Below w.heap.size w w'

set_option maxHeartbeats 1000000 in
set_option maxRecDepth 100000 in
theorem rput_any (n : Nat) (hn : n < 18446744073709551616) : RPutIs n ⟨(digs n).toArray⟩ := by
  intro w
  obtain ⟨i0, hi, hz0, hz1, hz2⟩ := info_parts info5
  go_enter Tryd.func30, Tryd.ntmps30
  go_wp2
  go_loopw [0, 3] (fun x u wr => ∃ (a : List UInt8) (m : Nat), x = .int .u64 m ∧ m < 18446744073709551616 ∧ Lib.OwnBuf w.heap.size 5 u a.length (Lib.byteCells a) w wr ∧ Hid (a ++ digs m = digs n)) (fun x _ _ => (intOf x).toNat)
  case atStart => exact ⟨[], n, rfl, hn, own_new w, rfl⟩
  case round =>
    obtain ⟨a, m, rfl, hm, hbuf, HA⟩ := hrel
    have hal : a.length ≤ 10 := by
      have h1 := congrArg List.length HA.out
      rw [List.length_append] at h1
      have h2 := digs_length n hn
      omega
    by_cases h : m < 128
    · have hq : ((m : Int) / 128 == 0) = true := by rw [beq_iff_eq]; omega
      have HE : Hid (a ++ [UInt8.ofNat m] = digs n ∧ Lib.byteCells a ++ [.int .u8 ((m : Int) % 128)] = Lib.byteCells (a ++ [UInt8.ofNat m]) ∧ a.length + 1 = (a ++ [UInt8.ofNat m]).length) := by
        refine ⟨?_, ?_, by simp⟩
        · rw [← HA.out, digs_small h]
        · rw [Lib.byteCells_append, cells_one (by omega), show (m : Int) % 128 = m from by omega]
      go_wp2_with (at_builtin; refine Lib.wpList_append_byte rfl _ _ 48 rfl w.heap.size 5 i0 Tryd.underlying48 hi hz0 hz1 hz2 _ _ _ rfl w _ _ (by exact hbuf) rfl (by omega) ?_; intro v' w' hb'; rw [HE.out.2.1, HE.out.2.2] at hb'; have hcv := conv_own hb'.1)
      go_ret
      exact ⟨by rw [← HE.out.1]; rfl, hb'.2.1⟩
    · have hq : ((m : Int) / 128 == 0) = false := by rw [beq_eq_false_iff_ne]; omega
      have HE : Hid ((a ++ [UInt8.ofNat (m % 128 + 128)]) ++ digs (m / 128) = digs n) := by
        show _ = _
        rw [← HA.out, digs_great h, List.append_assoc]
        rfl
      have HC : Hid (Lib.byteCells (a ++ [UInt8.ofNat (m % 128 + 128)]) = Lib.byteCells a ++ [.int .u8 ((m : Int) % 128 + 128)]) := by
        show _ = _
        rw [Lib.byteCells_append, cells_one (by omega)]
        congr 3
      go_wp2_with (at_builtin; refine Lib.wpList_append_byte rfl _ _ 48 rfl w.heap.size 5 i0 Tryd.underlying48 hi hz0 hz1 hz2 _ _ _ rfl w _ _ (by exact hbuf) rfl (by omega) ?_; intro v' w' hb')
      go_roundw
      case rel => exact ⟨a ++ [UInt8.ofNat (m % 128 + 128)], m / 128, by go_num, by omega, by rw [HC.out, List.length_append]; exact hb', HE⟩
      case measure => simp [intOf]; omega

theorem bytes_ext {s t : ByteArray} (h : s.data.toList = t.data.toList) : s = t := by
  cases s; cases t; congr 1; exact Array.toList_inj.1 h
theorem rput_is (n : Nat) (hn : n < 18446744073709551616) (t : ByteArray) (ht : t.data.toList = digs n) : RPutIs n t := by
  have e : (⟨(digs n).toArray⟩ : ByteArray) = t := bytes_ext (by rw [ht])
  rw [← e]; exact rput_any n hn

def RGetIs (s : ByteArray) (i : Int) (n to e : Nat) : Prop := ∀ w, Calls Tryd.prog 36 #[.string s, .int .i64 i] w fun r w' => r = .returned (.tuple #[.int .u64 n, .int .i64 to, .int .i64 e]) ∧ Below w.heap.size w w'

theorem rget_out (s : ByteArray) (i : Int) (h : i < 0 ∨ (s.size : Int) < i) : RGetIs s i 0 0 1 := by
  intro w
  by_cases h1 : i < 0
  · go_enter Tryd.func36, Tryd.ntmps36
    go_wp2
    go_ret3
    exact ⟨rfl, Below.refl _ _⟩
  · have h2 : (s.size : Int) < i := by omega
    go_enter Tryd.func36, Tryd.ntmps36
    go_wp2
    go_ret3
    exact ⟨rfl, Below.refl _ _⟩

theorem cut_list (s : ByteArray) (i j : Nat) : (s.extract i j).data.toList = (s.data.toList.take j).drop i := by
  simp [ByteArray.data_extract, List.drop_take]
theorem cut_take (s : ByteArray) (i k : Nat) : (s.extract i (i + k)).data.toList = (s.data.toList.drop i).take k := by
  rw [cut_list, List.drop_take, Nat.add_sub_cancel_left]
theorem bytes_list (s : ByteArray) : s.toList = s.data.toList := ByteArray.toList_eq s

/-- one digit more, from the last one down -/
theorem val_drop (c : List UInt8) (r : Nat) (h : r < c.length) : val (c.drop r) = nth c r % 128 + 128 * val (c.drop (r + 1)) := by
  rw [List.drop_eq_getElem_cons h, val]
  congr 2
  unfold nth
  rw [List.getD_eq_getElem?_getD, List.getElem?_eq_getElem h]
  rfl

theorem step_back (m x d : Nat) (hm : m = x % 18446744073709551616) (hd : d < 256) : IntKind.u64.wrap (IntKind.u64.wrap ((m : Int) * 128) + (d : Int) % 128) = (((d % 128 + 128 * x) % 18446744073709551616 : Nat) : Int) := by
  rw [IntKind.wrap_u64, IntKind.wrap_u64]
  omega

set_option maxHeartbeats 2000000 in
set_option maxRecDepth 100000 in
theorem rget_in (s : ByteArray) (p : Nat) (hs : s.size ≤ 140737488351232) (hp : p ≤ s.size) (n to e : Nat) (h : gets s.data.toList p = (n, to, e)) : RGetIs s p n to e := by
  intro w
  have HR : Hid (gets s.data.toList p = (n, to, e)) := h
  clear h
  go_enter Tryd.func36, Tryd.ntmps36
  go_wp2
  go_loop [7] (fun v => ∃ q : Nat, v = .int .i64 q ∧ p ≤ q ∧ q ≤ p + 10 ∧ q ≤ s.size ∧ Hid (∀ j, j < q - p → 128 ≤ nth (s.data.toList.drop p) j)) (fun v => p + 10 - (intOf v).toNat)
  case atStart => exact ⟨p, rfl, by omega, by omega, by omega, fun j hj => by omega⟩
  case round =>
    obtain ⟨q, rfl, hpq, hq10, hqs, HF⟩ := hrel
    by_cases h10 : p + 10 ≤ q
    · have hd : ((q : Int) - (p : Int) == 10) = true := by rw [beq_iff_eq]; omega
      have HE : Hid ((0, 0, 21) = (n, to, e)) := by
        show _ = _
        rw [← HR.out]
        have := high_ge _ (q - p) (by rw [drop_length]; omega) HF.out
        exact (gets_err (rd_form rfl (by omega)) (by omega)).symm
      clear HR HF
      by_cases hend : q = s.size
      · have hl : decide ((q : Int) < (s.size : Int)) = false := by simp; omega
        go_wp2
        go_ret3
        have HE := HE.out
        simp only [Prod.mk.injEq] at HE
        obtain ⟨rfl, rfl, rfl⟩ := HE
        exact ⟨rfl, Below.refl _ _⟩
      · have hin : q < s.size := by omega
        have hlt : decide ((q : Int) - (p : Int) < 10) = false := by simp; omega
        by_cases hb : 128 ≤ s[q].toNat
        · go_wp2
          go_ret3
          have HE := HE.out
          simp only [Prod.mk.injEq] at HE
          obtain ⟨rfl, rfl, rfl⟩ := HE
          exact ⟨rfl, Below.refl _ _⟩
        · go_wp2
          go_ret3
          have HE := HE.out
          simp only [Prod.mk.injEq] at HE
          obtain ⟨rfl, rfl, rfl⟩ := HE
          exact ⟨rfl, Below.refl _ _⟩
    · have hd : ((q : Int) - (p : Int) == 10) = false := by rw [beq_eq_false_iff_ne]; omega
      by_cases hend : q = s.size
      · have HE : Hid ((0, 0, 20) = (n, to, e)) := by
          show _ = _
          rw [← HR.out]
          have := high_eq _ (q - p) (by rw [drop_length]; omega) HF.out (by rw [drop_length]; omega)
          exact (gets_err (rd_short this (by omega) (by rw [drop_length]; omega)) (by omega)).symm
        clear HR HF
        have he2 : ((q : Int) == (s.size : Int)) = true := by rw [beq_iff_eq]; omega
        go_wp2
        go_ret3
        have HE := HE.out
        simp only [Prod.mk.injEq] at HE
        obtain ⟨rfl, rfl, rfl⟩ := HE
        exact ⟨rfl, Below.refl _ _⟩
      · have hin : q < s.size := by omega
        have he2 : ((q : Int) == (s.size : Int)) = false := by rw [beq_eq_false_iff_ne]; omega
        have hx : Hid (nth (s.data.toList.drop p) (q - p) = s[q].toNat) := by
          show _ = _
          have := nth_at s p (q - p) (by omega)
          rw [this]
          congr 2
          omega
        have hx1 : s[q].toNat < 256 := s[q].toNat_lt
        by_cases hb : 128 ≤ s[q].toNat
        · have HF2 : Hid (∀ j, j < q + 1 - p → 128 ≤ nth (s.data.toList.drop p) j) := fun j hj => by
            by_cases hj2 : j = q - p
            · subst hj2; rw [hx.out]; exact hb
            · exact HF.out j (by omega)
          have hlt : decide ((q : Int) - (p : Int) < 10) = true := by simp; omega
          clear HF HR
          go_wp2
          go_round
          case rel => exact ⟨q + 1, by go_num, by omega, by omega, by omega, HF2⟩
          case measure => simp [intOf]; omega
        · have hhi : Hid (high (s.data.toList.drop p) = q - p) := high_eq _ (q - p) (by rw [drop_length]; omega) HF.out (fun _ => by rw [hx.out]; omega)
          go_wp2
          go_loop [8, 9] (fun u v => ∃ (r m : Nat) (z : Int), u = .int .u64 m ∧ v = .int .i64 z ∧ z = (p : Int) + r - 1 ∧ r ≤ q - p + 1 ∧ m < 18446744073709551616 ∧ Hid (m = val (((s.data.toList.drop p).take (q - p + 1)).drop r) % 18446744073709551616)) (fun _ v => (intOf v + 1).toNat)
          case atStart =>
            refine ⟨q - p + 1, 0, (q : Int), rfl, rfl, by omega, by omega, by omega, ?_⟩
            show 0 = _
            rw [List.drop_eq_nil_of_le (by simp; omega)]
            rfl
          case round =>
            obtain ⟨r, m, z, rfl, rfl, hz, hr, hm, HM⟩ := hrel
            by_cases hr0 : r = 0
            · subst hr0
              have hzz : z < (p : Int) := by omega
              have HC : Hid (m = val ((s.data.toList.drop p).take (q - p + 1)) % 18446744073709551616) := by have := HM.out; rwa [List.drop_zero] at this
              have hll : q - p < (s.data.toList.drop p).length := by rw [drop_length]; omega
              have HT := round_test (s.data.toList.drop p) (by rw [hhi.out]; exact hll) (by rw [hhi.out]; omega) m (by rw [hhi.out]; exact HC.out)
              rw [hhi.out] at HT
              have hcut := cut_take s p (q - p + 1)
              rw [show p + (q - p + 1) = q + 1 from by omega] at hcut
              have e1 : IntKind.i64.wrap ((q : Int) + 1) = (q : Int) + 1 := by rw [IntKind.wrap_i64]; omega
              have e2 : (0 : Int) ≤ (q : Int) + 1 := by omega
              have e3 : (q : Int) + 1 ≤ (s.size : Int) := by omega
              have e4 : (p : Int) ≤ (q : Int) + 1 := by omega
              have e5 : ((q : Int) + 1).toNat = q + 1 := by omega
              by_cases heq : digs m = (s.data.toList.drop p).take (q - p + 1)
              · have hput := rput_is m hm (s.extract p (q + 1)) (by rw [hcut, heq])
                have HE : Hid ((m, q + 1, 0) = (n, to, e)) := by
                  show _ = _
                  rw [← HR.out]
                  have hv : val ((s.data.toList.drop p).take (q - p + 1)) = m := by rw [← heq, val_digs]
                  rw [gets_ok (rd_good hhi.out (by omega) hll (HT.1 heq)), hv]
                  congr 2
                  omega
                clear HR HM HF HC HT hcut heq hll
                go_wp2
                go_region_held3 (fun _ => True) (trivial) (first | (go_at_call 30; refine (hput _).mono ?_; rintro e w3 ⟨rfl, hpb⟩))
                go_wp2
                go_ret3
                have HE := HE.out
                simp only [Prod.mk.injEq] at HE
                obtain ⟨rfl, rfl, rfl⟩ := HE
                exact ⟨rfl, (Below.refl _ _).drew.trans hpb⟩
              · have hput := rput_any m hm
                have hq : (digs m == (s.extract p (q + 1)).toList) = false := by
                  rw [beq_eq_false_iff_ne, bytes_list, hcut]
                  exact heq
                have HE : Hid ((0, 0, 21) = (n, to, e)) := by
                  show _ = _
                  rw [← HR.out]
                  have hok : okLast (q - p) (nth (s.data.toList.drop p) (q - p)) = false := by
                    rw [← Bool.not_eq_true]
                    exact fun h => heq (HT.2 h)
                  exact (gets_err (rd_bad hhi.out (by omega) hll hok) (by omega)).symm
                clear HR HM HF HC HT hcut heq hll
                go_wp2
                go_region_held3 (fun _ => True) (trivial) (first | (go_at_call 30; refine (hput _).mono ?_; rintro e w3 ⟨rfl, hpb⟩))
                go_wp2
                go_ret3
                have HE := HE.out
                simp only [Prod.mk.injEq] at HE
                obtain ⟨rfl, rfl, rfl⟩ := HE
                exact ⟨rfl, (Below.refl _ _).drew.trans hpb⟩
            · have hrx : p + r - 1 < s.size := by omega
              have E1 : Hid (IntKind.u64.wrap (IntKind.u64.wrap ((m : Int) * 128) + (s[p + r - 1].toNat : Int) % 128) = ((val (((s.data.toList.drop p).take (q - p + 1)).drop (r - 1)) % 18446744073709551616 : Nat) : Int)) := by
                show _ = _
                have hcl : ((s.data.toList.drop p).take (q - p + 1)).length = q - p + 1 := by rw [List.length_take, drop_length]; omega
                have hvd := val_drop ((s.data.toList.drop p).take (q - p + 1)) (r - 1) (by omega)
                rw [show r - 1 + 1 = r from by omega] at hvd
                have hnt : nth ((s.data.toList.drop p).take (q - p + 1)) (r - 1) = s[p + r - 1].toNat := by
                  have h1 : nth ((s.data.toList.drop p).take (q - p + 1)) (r - 1) = nth (s.data.toList.drop p) (r - 1) := by
                    unfold nth
                    rw [List.getD_eq_getElem?_getD, List.getD_eq_getElem?_getD, List.getElem?_take_of_lt (by omega)]
                  rw [h1, nth_at s p (r - 1) (by omega)]
                  congr 2
                  omega
                rw [hvd, hnt]
                exact step_back m _ _ HM.out s[p + r - 1].toNat_lt
              obtain ⟨x, rfl⟩ : ∃ x : Nat, z = x := ⟨p + r - 1, by omega⟩
              have hxs : x < s.size := by omega
              have hpx : p ≤ x := by omega
              clear HM HR HF
              go_wp2
              go_round
              case rel => exact ⟨r - 1, val (((s.data.toList.drop p).take (q - p + 1)).drop (r - 1)) % 18446744073709551616, _, by rw [E1.out], rfl, by omega, by omega, by omega, rfl⟩
              case measure => simp [intOf]; omega
end Go.Proofs.YtdekkjnlmlkbdaaDoor.num
