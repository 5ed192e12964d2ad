/-
  Over this program: the iterator that hands on pieces (piece.pieces' closure), walked.
-/
import Derived.Test.YtmmlibehihknbaaM15
namespace Go.Proofs.Ytmmlibehihknbaa.pc
open Go.RowKit Go.Shelf
open df (Dfa ends nxt acpt byteAt here Ok right width endsOf DAt DBox Row RowRow iv bv In Owns IntsV)
set_option linter.unusedVariables false
attribute [local go_sem] Oper.semAt_some

set_option maxRecDepth 100000 in
set_option maxHeartbeats 4000000 in
theorem pieces_run {s : ByteArray} {X : Nat → Prop} {n1 B0 ty e n0 gd gs : Nat} {w0 : World} {enc : Pr s → Value} {d : Dfa} {cs : Array Value} {o : Option Addr} {cap : Nat} {ao : Option Addr} {acap : Nat} (hk : Ok d) (hs : s.size ≤ 262144) (hB : B0 < n1) (h0 : n0 ≤ B0) (hX : ∀ j, X j → j < n1 ∧ j ≠ B0) (hgs : X gs) (hgd : X gd)
    (l : Nat) (Bk : World → Prop) (W : World) (hBk : ∀ A C : World, Bk A → Fix A C → Bk C)
    (hY : ∀ pre x W1, Ib n1 B0 ty e n0 w0 enc pre W1 → Bk W1 → pre.length < s.size + 1 → YieldAt Fence.wide 4 Try.prog l (encs2 x) W1 fun e' W' => e' = .returned (.bool true) ∧ Ib n1 B0 ty e n0 w0 enc (pre ++ [x]) W' ∧ Bk W' ∧ Kq n1 B0 W1 W')
    (hsz : n1 ≤ W.heap.size) (hD : DAt X W d cs o cap ao acap) (hbx : DBox W gd cs) (hsx : Boxed W gs 9 (.string s)) (hi : Ib n1 B0 ty e n0 w0 enc [] W) (hb : Bk W) :
    CallsIn Fence.wide 5 Try.prog 75 #[.func (.yield l) #[] #[], .pointer (some ⟨gd, 0, none⟩), .pointer (some ⟨gs, 0, none⟩)] W fun e' W' => (∃ v, e' = .returned v) ∧ ∃ xs : List (Pr s), xs.map (·.1) = all d s 0 ∧ Ib n1 B0 ty e n0 w0 enc xs W' ∧ Bk W' := by
  have hw8 := hD.size
  have hnew := new_any (s := s) hk hD (fun j hj => Nat.lt_of_lt_of_le (hX j hj).1 hsz) hs
  unfold NewIs at hnew
  have hsc := hsx.cell
  have HST := (show Hid (∀ g vg w1, Wk X w1 W.heap.size g vg d s cs o cap ao acap (List.replicate ((s.size + 1) * d.next.length / 64 + 1) 0) (.slice none 0 0) [] → Below W.heap.size W w1 → It X n1 B0 ty e n0 w0 enc Bk W.heap.size g vg gs d cs o cap ao acap 0 (List.replicate ((s.size + 1) * d.next.length / 64 + 1) 0) (.slice none 0 0) [] [] w1) from by
    intro g vg w1 k c
    obtain ⟨v, hv, hr⟩ := hi.row
    have ho := ownAt_of (c.block B0 hv.lt)
    refine ⟨k, sound_none d s _, by simp, hi.keep (c.block B0 hv.lt) (fun j hj => c.block j (hi.own hj).2) (hi.be.trans (c.mono (by omega))) c.size, hBk W w1 hb (fun j ob hj _ => (c.block j (Array.getElem?_eq_some_iff.1 hj).1).trans hj), (c.block gs hsx.lt).trans hsx, by simp, ?_, ?_, fun j hj => by cases hj⟩
    · rw [ho]
      intro e2
      have := (hi.own e2.symm).2
      have := k.bg
      omega
    · rw [ho]
      intro e2
      have := (hi.own e2.symm).2
      have := k.bv
      omega)
  have HBK := (show Hid (∀ A C : World, Bk A → Fix A C → Bk C) from hBk)
  have HK := (show Hid (Ok d) from hk)
  have HX := (show Hid (∀ j, X j → j < n1 ∧ j ≠ B0) from hX)
  have HXS := (show Hid (X gs) from hgs)
  have HY := (show Hid (∀ pre x W1, Ib n1 B0 ty e n0 w0 enc pre W1 → Bk W1 → pre.length < s.size + 1 → YieldAt Fence.wide 4 Try.prog l (encs2 x) W1 fun e' W' => e' = .returned (.bool true) ∧ Ib n1 B0 ty e n0 w0 enc (pre ++ [x]) W' ∧ Bk W' ∧ Kq n1 B0 W1 W') from hY)
  clear hD hi hb hBk hk hX hY hgs hgd hsx
  refine callsIn_of_wp Try.func75 rfl trivial ?_ rfl
  simp only [Try.ntmps75, List.size_toArray, List.length_cons, List.length_nil, Nat.reduceAdd, Nat.reduceSub, Array.replicate_succ, Array.replicate_zero, List.push_toArray, List.append_toArray, List.nil_append, List.cons_append]
  gi_wp2_with (first | (refine df.wpListIn_load_row rfl 36 (.tmp 1) rfl gd rfl 36 cs (0, 0) _ hbx Try.underlying36 rfl (df.info36 cs hw8) ?_) | (refine ⟨trivial, ?_⟩; gi_at_call 76; refine (callsIn_wide.2 hnew).mono ?_; rintro e' w1 ⟨g, vg, rfl, hwk, b1⟩; have HI0 := (show Hid _ from HST.out g vg w1 hwk b1); clear hwk b1))
  clear HST hnew hsc hbx
  gi_loopw [5] (fun z wr => ∃ (t : Nat) (ws : List Nat) (vs : Value) (si : List Int) (pre : List (Pr s)), z = .int .i64 (t : Int) ∧ t ≤ s.size ∧ Hid (It X n1 B0 ty e n0 w0 enc Bk W.heap.size g vg gs d cs o cap ao acap t ws vs si pre wr)) (fun z _ => s.size - (intOf z).toNat)
  case atStart => exact ⟨0, _, _, _, _, rfl, by omega, HI0⟩
  case round =>
    obtain ⟨t, ws, vs, si, pre, rfl, ht, HI⟩ := hrel
    clear HI0
    have hsc := HI.out.sx.cell
    by_cases hend : t < s.size
    · have h38 := long_any HK.out HI.out.wk HI.out.sd t (by omega) hs HI.out.ln
      unfold LongIs at h38
      have hst := stop_eq d s t
      have hgt := stop_gt d s t
      have hle := stop_le d s t hend
      obtain ⟨x, hx⟩ : ∃ x : Pr s, x.1 = (t, stop d s t) := ⟨⟨(t, stop d s t), Nat.le_of_lt hgt, hle⟩, rfl⟩
      have HNX := (show Hid (∀ (w2 W3 : World) (ws2 : List Nat) (vs2 : Value) (si2 : List Int), It X n1 B0 ty e n0 w0 enc Bk W.heap.size g vg gs d cs o cap ao acap t ws2 vs2 si2 pre w2 → Ib n1 B0 ty e n0 w0 enc (pre ++ [x]) W3 → Bk W3 → Kq n1 B0 w2 W3 → It X n1 B0 ty e n0 w0 enc Bk W.heap.size g vg gs d cs o cap ao acap (stop d s t) ws2 vs2 si2 (pre ++ [x]) W3) from fun w2 W3 ws2 vs2 si2 i1 i2 b2 q2 => i1.next hB hsz HX.out HXS.out _ hend hx i2 b2 q2)
      have HWK := (show Hid (∀ (w2 : World) (ws2 : List Nat) (vs2 : Value) (si2 : List Int), Wk X w2 W.heap.size g vg d s cs o cap ao acap ws2 vs2 si2 → Sound d s ws2 → ws2.length = ws.length → Ch X W.heap.size g vg vs vs2 wr w2 → It X n1 B0 ty e n0 w0 enc Bk W.heap.size g vg gs d cs o cap ao acap t ws2 vs2 si2 pre w2) from fun w2 ws2 vs2 si2 a1 a2 a3 a4 => HI.out.walk HBK.out hB hsz h0 HXS.out a1 a2 a3 a4)
      have HPL := (show Hid (pre.length < s.size + 1) from by
        have h1 := congrArg List.length HI.out.al
        have h2 := all_len d s s.size 0 (by omega)
        rw [List.length_append, List.length_map] at h1
        show _ < _
        omega)
      have he : encs2 x = #[.int .i64 (t : Int), .int .i64 ((stop d s t : Nat) : Int)] := by unfold encs2; rw [hx]
      have HYY := (show Hid (∀ w2, Ib n1 B0 ty e n0 w0 enc pre w2 → Bk w2 → YieldAt Fence.wide 4 Try.prog l #[.int .i64 (t : Int), .int .i64 ((stop d s t : Nat) : Int)] w2 fun e' W' => e' = .returned (.bool true) ∧ Ib n1 B0 ty e n0 w0 enc (pre ++ [x]) W' ∧ Bk W' ∧ Kq n1 B0 w2 W') from fun w2 i2 b2 => by rw [← he]; exact HY.out pre x w2 i2 b2 HPL.out)
      clear hx he
      generalize stop d s t = p at *
      generalize lastOr (E d s 0 t) ((t : Int) - 1) = L at *
      clear HI
      rcases Int.lt_trichotomy L ((t : Int) + 1) with hL | hL | hL
      · obtain rfl : p = t + 1 := by omega
        clear hst
        gi_wp2_with (refine ⟨trivial, ?_⟩; gi_at_call 77; refine (callsIn_wide.2 h38).mono ?_; rintro e' w2 ⟨ws2, vs2, si2, rfl, k2, sd2, ln2, c2⟩; have HI2 := (show Hid _ from HWK.out w2 ws2 vs2 si2 k2 sd2 ln2 c2); obtain ⟨fn, tmps, assign, body, hy, hR⟩ := HYY.out w2 HI2.out.iv HI2.out.bk; simp only [Int.natCast_add, Int.cast_ofNat_Int] at hy; clear k2 sd2 ln2 c2)
        refine hR.mono ?_
        rintro e' W3 ⟨rfl, i3, b3, q3⟩
        have HI3 := (show Hid _ from HNX.out w2 W3 ws2 vs2 si2 HI2.out i3 b3 q3)
        clear i3 b3 q3 hR hy
        gi_wp2
        go_roundw
        case rel => exact ⟨t + 1, ws2, vs2, si2, pre ++ [x], by go_num, hle, HI3⟩
        case measure => simp [intOf]; omega
      · obtain rfl : p = t + 1 := by omega
        subst hL
        clear hst
        gi_wp2_with (refine ⟨trivial, ?_⟩; gi_at_call 77; refine (callsIn_wide.2 h38).mono ?_; rintro e' w2 ⟨ws2, vs2, si2, rfl, k2, sd2, ln2, c2⟩; have HI2 := (show Hid _ from HWK.out w2 ws2 vs2 si2 k2 sd2 ln2 c2); obtain ⟨fn, tmps, assign, body, hy, hR⟩ := HYY.out w2 HI2.out.iv HI2.out.bk; simp only [Int.natCast_add, Int.cast_ofNat_Int] at hy; clear k2 sd2 ln2 c2)
        refine hR.mono ?_
        rintro e' W3 ⟨rfl, i3, b3, q3⟩
        have HI3 := (show Hid _ from HNX.out w2 W3 ws2 vs2 si2 HI2.out i3 b3 q3)
        clear i3 b3 q3 hR hy
        gi_wp2
        go_roundw
        case rel => exact ⟨t + 1, ws2, vs2, si2, pre ++ [x], by go_num, hle, HI3⟩
        case measure => simp [intOf]; omega
      · obtain rfl : L = (p : Int) := by omega
        clear hst
        gi_wp2_with (refine ⟨trivial, ?_⟩; gi_at_call 77; refine (callsIn_wide.2 h38).mono ?_; rintro e' w2 ⟨ws2, vs2, si2, rfl, k2, sd2, ln2, c2⟩; have HI2 := (show Hid _ from HWK.out w2 ws2 vs2 si2 k2 sd2 ln2 c2); obtain ⟨fn, tmps, assign, body, hy, hR⟩ := HYY.out w2 HI2.out.iv HI2.out.bk; clear k2 sd2 ln2 c2)
        refine hR.mono ?_
        rintro e' W3 ⟨rfl, i3, b3, q3⟩
        have HI3 := (show Hid _ from HNX.out w2 W3 ws2 vs2 si2 HI2.out i3 b3 q3)
        clear i3 b3 q3 hR hy
        gi_wp2
        go_roundw
        case rel => exact ⟨p, ws2, vs2, si2, pre ++ [x], by go_num, hle, HI3⟩
        case measure => simp [intOf]; omega
    · have HE := (show Hid (pre.map (·.1) = all d s 0) from by have := HI.out.al; rw [all_end d s t (by omega), List.append_nil] at this; exact this)
      gi_wp2
      go_end0
      exact ⟨⟨_, rfl⟩, pre, HE.out, HI.out.iv, HI.out.bk⟩
end Go.Proofs.Ytmmlibehihknbaa.pc
