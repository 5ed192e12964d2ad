/-
  Contracts over this program: whether a list of instructions may be written (isa.right, the document's All); a builder; a number's numeral.
-/
import Derived.Test.YtdekkjnlmlkbdaaDoorHa
import Derived.Test.YtdekkjnlmlkbdaaDoorGd
import Derived.Test.YtdekkjnlmlkbdaaDoorBld
import Derived.Shelf.Lay
import Derived.Shelf.Strconv.Itoa3
import Derived.Lib.AppendIntMem
namespace Go.Proofs
open Go.Shelf
shelf_lay LaysM.n171 Nm 171 at Tryd as YtdekkjnlmlkbdaaDoor.is.lays171
end Go.Proofs
namespace Go.Proofs.YtdekkjnlmlkbdaaDoor.is
open Go.ChangeShapes Go.WideShapes Go.ChangeAt Go.RowKit
set_option linter.unusedVariables false

def Pow (w : World) : Prop := Lib.TabIs Tryd.prog w "internal/strconv.uint64pow10" .u64 Lib.pow10Tab
theorem Pow.later {w w' : World} (h : Pow w) (b : Below w.heap.size w w') : Pow w' := Lib.tabBelow_of_tabIs h w' b
theorem pow_data : (Rows.laid_internal_strconv_uint64pow10 : DataW Unit) = Lib.tabData .u64 Lib.pow10Tab := by kernel_rfl

def ItoaIs (n : Nat) : Prop := ∀ w, Pow w → Calls Tryd.prog 31 #[.int .i64 n] w fun e w' => e = .returned (.string (ba (Lib.decDigits n))) ∧ Below w.heap.size w w'
theorem itoa_any (n : Nat) (h : n ≤ 1073741824) : ItoaIs n := by
  intro w hP
  refine (Any.strconv_Itoa (P := Tryd.prog) lays171 n (by omega) (by omega) w hP).mono ?_
  rintro e w' ⟨rfl, k, os, rfl⟩
  refine ⟨?_, Lib.below_grow _ w (Nat.le_refl _) k os⟩
  unfold ba Lib.itoa
  rw [if_neg (by omega), Int.toNat_natCast]

theorem at_getD (l : List In) (k : Nat) (h : k < l.length) : l.getD k zI = l[k] := by rw [List.getD_eq_getElem?_getD, List.getElem?_eq_getElem h]; rfl
/-- a slice, element by element -/
theorem InsAt.open {w : World} {v : Value} {l : List In} (h : InsAt w v l) : ∃ (o : Option Addr) (n cap : Nat), v = .slice o n cap ∧ l.length = n ∧ n ≤ cap ∧ cap ≤ 9223372036854775807 ∧ ∀ m, m < n → ∃ b off, o = some ⟨b, off, none⟩ ∧ IAt w b (off + m * 5) (l.getD m zI) := by
  obtain ⟨o, cap, e, h1, h2, h3⟩ := h
  refine ⟨o, l.length, cap, e, rfl, h1, h2, fun m hm => ?_⟩
  obtain ⟨b, off, e2, h4⟩ := h3 (by omega)
  exact ⟨b, off, e2, by rw [at_getD l m hm]; exact h4 m hm⟩
theorem allE_long {l : List In} (h : 4096 < l.length) : allE l = 2 := by unfold allE; rw [if_pos h]
theorem allE_bad {l : List In} (h : ¬ 4096 < l.length) (k : Nat) (hk : k < l.length) (hb : okI (l.getD k zI) = false) : allE l = 210 := by
  unfold allE
  rw [if_neg h, if_neg]
  rw [List.all_eq_true]
  intro ha
  rw [at_getD l k hk, ha _ (List.getElem_mem hk)] at hb
  cases hb
theorem allE_ok {l : List In} (h : ¬ 4096 < l.length) (hb : ∀ k, k < l.length → okI (l.getD k zI) = true) : allE l = 0 := by
  unfold allE
  rw [if_neg h, if_pos]
  rw [List.all_eq_true]
  intro i hi
  obtain ⟨k, hk, rfl⟩ := List.mem_iff_getElem.1 hi
  have := hb k hk
  rwa [at_getD l k hk] at this

set_option maxHeartbeats 2000000 in
set_option maxRecDepth 100000 in
theorem rightl_any (l : List In) (v : Value) (w : World) (hT : Tabs w) (hv : InsAt w v l) : Calls Tryd.prog 26 #[v] w fun e w' => e = .returned (.int .i64 (allE l : Nat)) ∧ Below w.heap.size w w' := by
  obtain ⟨o, n, cap, rfl, hn, hc, hm, hel⟩ := hv.open
  by_cases hl : 4096 < n
  · have HE := (show Hid (allE l = 2) from allE_long (by omega))
    clear hel hn
    go_enter Tryd.func26, Tryd.ntmps26
    go_wp2
    go_ret
    exact ⟨by rw [HE.out]; rfl, Below.refl _ _⟩
  · have HB := (show Hid (∀ k, k < n → okI (l.getD k zI) = false → allE l = 210) from fun k hk hb => allE_bad (by omega) k (by omega) hb)
    have HO := (show Hid ((∀ k, k < n → okI (l.getD k zI) = true) → allE l = 0) from fun hb => allE_ok (by omega) (fun k hk => hb k (by omega)))
    clear hn
    go_enter Tryd.func26, Tryd.ntmps26
    go_wp2
    go_loopw [10] (fun y wr => ∃ m : Nat, y = .int .i64 m ∧ m ≤ n ∧ Below w.heap.size w wr ∧ Hid (∀ k, k < m → okI (l.getD k zI) = true)) (fun y _ => n - (intOf y).toNat)
    case atStart => exact ⟨0, rfl, by omega, Below.refl _ _, fun k hk => by omega⟩
    case round =>
      rename_i wr
      obtain ⟨m, rfl, hmn, hB, HK⟩ := hrel
      by_cases hlt : m < n
      · obtain ⟨b, off, rfl, i1⟩ := hel m hlt
        have i1 := i1.later hB
        have HI : Hid (∀ k, k < m + 1 → k < m ∨ k = m) := fun k hk => by omega
        have HB2 := (show Hid (okI (l.getD m zI) = false → allE l = 210) from HB.out m hlt)
        have HK2 : Hid (okI (l.getD m zI) = true → ∀ k, k < m + 1 → okI (l.getD k zI) = true) := fun h k hk => by
          rcases HI.out k hk with h2 | rfl
          · exact HK.out k h2
          · exact h
        have hR := right_any (l.getD m zI)
        unfold RightIs vI at hR
        clear HI HK
        generalize hok : okI (l.getD m zI) = ok at *
        generalize l.getD m zI = x at *
        have a0 := i1.c0
        have a1 := i1.c1
        have a2 := i1.c2
        have a3 := i1.c3
        have a4 := i1.c4
        clear i1 hel hok
        have hb2 : Below wr.heap.size wr (wr.alloc (.cells #[.int .i64 x.op, .int .i64 x.a, .int .i64 x.b, .int .i64 x.c, .int .i64 x.d] 23)) := (Below.refl _ _).alloc (Nat.le_refl _) _
        have hT2 := (hT.later hB).later hb2
        cases ok with
        | false =>
          have HF := (show Hid (allE l = 210) from HB2.out rfl)
          clear HB2 HK2
          go_wp2_with (go_at_call 9; refine (hR _ hT2).mono ?_; rintro e w2 ⟨rfl, hb3⟩)
          go_ret
          exact ⟨by rw [HF.out]; rfl, chain (chain hB hb2) hb3⟩
        | true =>
          have HK3 := (show Hid (∀ k, k < m + 1 → okI (l.getD k zI) = true) from HK2.out rfl)
          clear HK2 HB2
          go_wp2_with (go_at_call 9; refine (hR _ hT2).mono ?_; rintro e w2 ⟨rfl, hb3⟩)
          go_roundw
          case rel => exact ⟨m + 1, by go_num, by omega, chain (chain hB hb2) hb3, HK3⟩
          case measure => simp [intOf]; omega
      · obtain rfl : m = n := by omega
        have HE := (show Hid (allE l = 0) from HO.out HK.out)
        clear HO HB HK hel
        go_wp2
        go_ret
        exact ⟨by rw [HE.out]; rfl, hB⟩

set_option maxHeartbeats 2000000 in
set_option maxRecDepth 100000 in
theorem rall_any (l : List In) (v : Value) (w : World) (hv : InsAt w v l) : Calls Tryd.prog 20 #[v] w fun e w' => e = .returned (.int .i64 (allE l : Nat)) ∧ Below w.heap.size w w' := by
  obtain ⟨o, n, cap, rfl, hn, hc, hm, hel⟩ := hv.open
  by_cases hl : 4096 < n
  · have HE := (show Hid (allE l = 2) from allE_long (by omega))
    clear hel hn
    go_enter Tryd.func20, Tryd.ntmps20
    go_wp2
    go_ret
    exact ⟨by rw [HE.out]; rfl, Below.refl _ _⟩
  · have HB := (show Hid (∀ k, k < n → okI (l.getD k zI) = false → allE l = 210) from fun k hk hb => allE_bad (by omega) k (by omega) hb)
    have HO := (show Hid ((∀ k, k < n → okI (l.getD k zI) = true) → allE l = 0) from fun hb => allE_ok (by omega) (fun k hk => hb k (by omega)))
    clear hn
    go_enter Tryd.func20, Tryd.ntmps20
    go_wp2
    go_loopw [10] (fun y wr => ∃ m : Nat, y = .int .i64 m ∧ m ≤ n ∧ Below w.heap.size w wr ∧ Hid (∀ k, k < m → okI (l.getD k zI) = true)) (fun y _ => n - (intOf y).toNat)
    case atStart => exact ⟨0, rfl, by omega, Below.refl _ _, fun k hk => by omega⟩
    case round =>
      rename_i wr
      obtain ⟨m, rfl, hmn, hB, HK⟩ := hrel
      by_cases hlt : m < n
      · obtain ⟨b, off, rfl, i1⟩ := hel m hlt
        have i1 := i1.later hB
        have HI : Hid (∀ k, k < m + 1 → k < m ∨ k = m) := fun k hk => by omega
        have HB2 := (show Hid (okI (l.getD m zI) = false → allE l = 210) from HB.out m hlt)
        have HK2 : Hid (okI (l.getD m zI) = true → ∀ k, k < m + 1 → okI (l.getD k zI) = true) := fun h k hk => by
          rcases HI.out k hk with h2 | rfl
          · exact HK.out k h2
          · exact h
        have hR := rright_any (l.getD m zI)
        unfold RRightIs vI at hR
        clear HI HK
        generalize hok : okI (l.getD m zI) = ok at *
        generalize l.getD m zI = x at *
        have a0 := i1.c0
        have a1 := i1.c1
        have a2 := i1.c2
        have a3 := i1.c3
        have a4 := i1.c4
        clear i1 hel hok
        have hb2 : Below wr.heap.size wr (wr.alloc (.cells #[.int .i64 x.op, .int .i64 x.a, .int .i64 x.b, .int .i64 x.c, .int .i64 x.d] 23)) := (Below.refl _ _).alloc (Nat.le_refl _) _
        cases ok with
        | false =>
          have HF := (show Hid (allE l = 210) from HB2.out rfl)
          clear HB2 HK2
          go_wp2_with (go_at_call 10; refine (hR _).mono ?_; rintro e w2 ⟨rfl, hb3⟩)
          go_ret
          exact ⟨by rw [HF.out]; rfl, chain (chain hB hb2) hb3⟩
        | true =>
          have HK3 := (show Hid (∀ k, k < m + 1 → okI (l.getD k zI) = true) from HK2.out rfl)
          clear HK2 HB2
          go_wp2_with (go_at_call 10; refine (hR _).mono ?_; rintro e w2 ⟨rfl, hb3⟩)
          go_roundw
          case rel => exact ⟨m + 1, by go_num, by omega, chain (chain hB hb2) hb3, HK3⟩
          case measure => simp [intOf]; omega
      · obtain rfl : m = n := by omega
        have HE := (show Hid (allE l = 0) from HO.out HK.out)
        clear HO HB HK hel
        go_wp2
        go_ret
        exact ⟨by rw [HE.out]; rfl, hB⟩

end Go.Proofs.YtdekkjnlmlkbdaaDoor.is
