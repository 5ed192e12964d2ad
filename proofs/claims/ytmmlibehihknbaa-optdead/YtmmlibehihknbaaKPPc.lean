/-
  Contracts over this program: where a walk goes (piece.walk's next), how far it comes (longest).
-/
import Derived.Test.YtmmlibehihknbaaKPPb
import Derived.Test.YtmmlibehihknbaaM00
import Derived.Deep.DeepCutAuto
namespace Go.Proofs.Ytmmlibehihknbaa.pc
open Go.ChangeShapes Go.WideShapes Go.ChangeAt Go.RowKit
open df (Dfa ends nxt acpt byteAt here Ok right width endsOf DAt DBox Row RowRow iv bv In Owns IntsV)
set_option linter.unusedVariables false
set_option maxRecDepth 10000

section
variable {X : Nat → Prop} {W : World} {B g vg : Nat} {d : Dfa} {s : ByteArray} {cs : Array Value} {o ao : Option Addr} {cap acap : Nat} {ws : List Nat} {vs : Value} {si : List Int}
set_option maxHeartbeats 2000000 in
set_option maxRecDepth 100000 in
theorem next_any (hk : Ok d) (k : Wk X W B g vg d s cs o cap ao acap ws vs si) (t q : Nat) (ht : t ≤ s.size) (hs : s.size ≤ 1000000000) (hq : q < d.next.length) (r : Int) (hr : r = to' d s t q) : Calls Try.prog 80 #[.pointer (some ⟨g, 0, none⟩), .int .i64 (t : Int), .int .i64 (q : Int)] W fun e w' => e = .returned (.int .i64 r) ∧ Below W.heap.size W w' := by
  have c258 := k.box.c258
  by_cases he : t = s.size
  · have e1 : r = -1 := by rw [hr]; unfold to'; rw [if_pos he]
    subst he
    rw [e1]
    clear k hr e1 hq
    go_enter Try.func80, Try.ntmps80
    go_wp2_with (fail)
    go_ret
    exact ⟨rfl, Below.refl _ _⟩
  · have hlt : t < s.size := by omega
    have hcl := hk.cl (byteAt s t) (df.byte_lt s t)
    obtain ⟨b, off, b', off', ci, rfl, n1, n2, n3, n4⟩ := df.nxt_at k.dt hk q (d.cls (byteAt s t)) hq hcl
    have c256 := k.box.nx k.dt
    have ccl := k.box.cl k.dt (byteAt s t) (df.byte_lt s t)
    have hbt := df.byte_eq s t hlt
    have hfit := k.dt.rows.fit
    have htop := k.dt.rows.top
    have hb256 := df.byte_lt s t
    have e1 : r = nxt d q (d.cls (byteAt s t)) := by rw [hr]; unfold to'; rw [if_neg he]
    rw [← e1] at n4
    rw [hbt] at n4 ccl hcl hb256
    have hk256 := hk.k256
    have hc256 := k.dt.c8 (s[t].toNat)
    have hne : ((t : Int) == (s.size : Int)) = false := by rw [beq_eq_false_iff_ne]; omega
    generalize d.cls (s[t].toNat) = c at *
    generalize width d = wd at *
    generalize d.next.length = N at *
    clear k hk hr e1 he hbt
    go_enter Try.func80, Try.ntmps80
    go_wp2_with (fail)
    go_region
    all_goals go_wp2
    all_goals go_ret
    all_goals exact ⟨rfl, Below.drew (Below.refl _ _)⟩
theorem owns_cut {so : Option Addr} {k c : Nat} {l : List Int} (h : Owns W B (.slice so k c) l) : Owns W B (.slice so 0 c) [] := by
  refine ⟨rfl, ?_⟩
  rcases h.2 with ⟨e, _⟩ | ⟨gg, cap, cur, e, hb, hg, h1, h2, h3, h4⟩
  · cases e
    exact .inl ⟨rfl, rfl⟩
  · cases e
    exact .inr ⟨gg, c, cur, rfl, hb, hg, Nat.zero_le _, h2, h3, by simp⟩
/-- the states since are none -/
theorem Wk.none {so : Option Addr} {n c : Nat} (k : Wk X W B g vg d s cs o cap ao acap ws (.slice so n c) si) : Wk X (W.setCell ⟨g, 260, none⟩ (.slice so 0 c)) B g vg d s cs o cap ao acap ws (.slice so 0 c) [] ∧ Ch X B g vg (.slice so n c) (.slice so 0 c) W (W.setCell ⟨g, 260, none⟩ (.slice so 0 c)) := by
  have e : (Value.slice so 0 c).ownBlock = (Value.slice so n c).ownBlock := by cases so <;> rfl
  have := k.since (W' := W) (vs' := .slice so 0 c) (owns_cut k.sn) ⟨rfl, rfl, rfl, Nat.le_refl _, fun _ _ _ => rfl⟩ (fun j h => .inl (by rw [← e]; exact h))
  exact this.2
theorem Wk.form (k : Wk X W B g vg d s cs o cap ao acap ws vs si) : ∃ so c, vs = .slice so si.length c ∧ si.length ≤ c ∧ c ≤ 9223372036854775807 := ow.form k.sn
/-- a mark's place -/
theorem key_lt {N z t q : Nat} (hq : q < N) (ht : t ≤ z) : (t * N + q) / 64 < (z + 1) * N / 64 + 1 := by
  have h1 : t * N ≤ z * N := Nat.mul_le_mul_right _ ht
  have h2 : (z + 1) * N = z * N + N := by rw [Nat.add_mul, Nat.one_mul]
  have h3 : t * N + q ≤ (z + 1) * N := by omega
  have h4 : (t * N + q) / 64 ≤ (z + 1) * N / 64 := Nat.div_le_div_right h3
  omega
theorem key_small {N z t q : Nat} (hN : N ≤ 400) (hq : q < N) (ht : t ≤ z) (hz : z ≤ 262144) : t * N + q ≤ 1000000000 ∧ (z + 1) * N / 64 + 1 ≤ 1000000000 := by
  have h1 : t * N ≤ 262144 * 400 := Nat.mul_le_mul (by omega) hN
  have h2 : (z + 1) * N ≤ 262145 * 400 := Nat.mul_le_mul (by omega) hN
  have h3 : (z + 1) * N / 64 ≤ 262145 * 400 / 64 := Nat.div_le_div_right h2
  omega
/-- how far a walk comes -/
def LongIs (X : Nat → Prop) (W : World) (B g vg : Nat) (d : Dfa) (s : ByteArray) (cs : Array Value) (o : Option Addr) (cap : Nat) (ao : Option Addr) (acap : Nat) (ws : List Nat) (vs : Value) (fr : Nat) : Prop :=
  Calls Try.prog 77 #[.pointer (some ⟨g, 0, none⟩), .int .i64 (fr : Int)] W fun e w' => ∃ ws' vs' si', e = .returned (.int .i64 (lastOr (E d s 0 fr) ((fr : Int) - 1))) ∧ Wk X w' B g vg d s cs o cap ao acap ws' vs' si' ∧ Sound d s ws' ∧ ws'.length = ws.length ∧ Ch X B g vg vs vs' W w'
set_option maxHeartbeats 4000000 in
set_option maxRecDepth 100000 in
theorem long_any (hk : Ok d) (k : Wk X W B g vg d s cs o cap ao acap ws vs si) (hsd : Sound d s ws) (fr : Nat) (hfr : fr ≤ s.size) (hs : s.size ≤ 262144) (hws : ws.length = (s.size + 1) * d.next.length / 64 + 1) : LongIs X W B g vg d s cs o cap ao acap ws vs fr := by
  unfold LongIs
  obtain ⟨so, sc, rfl, sf, st'⟩ := k.form
  have c260 := k.box.c260
  have z260 := k.box.fz 260
  have hN4 := hk.most
  have HK := (show Hid (Ok d) from hk)
  have HSD := (show Hid (Sound d s ws) from hsd)
  have HWS := (show Hid (ws.length = (s.size + 1) * d.next.length / 64 + 1) from hws)
  obtain ⟨w1, HW1⟩ : ∃ w1, Hid (w1 = W.setCell ⟨g, 260, none⟩ (.slice so 0 sc)) := ⟨_, rfl⟩
  have HST := (show Hid (Go d s fr fr 0 ((fr : Int) - 1) [] ∧ Wk X w1 B g vg d s cs o cap ao acap ws (.slice so 0 sc) [] ∧ Ch X B g vg (.slice so si.length sc) (.slice so 0 sc) W w1) from by
    rw [HW1.out]
    exact ⟨Go.start hk s fr hfr, k.none.1, k.none.2⟩)
  clear hk k hsd hws
  go_enter Try.func77, Try.ntmps77
  go_wp2_with (fail)
  rw [← HW1.out]
  clear HW1 c260 z260
  go_loopw [5, 6, 7] (fun zl zt zq wr => ∃ (z : Int) (t : Nat) (q : Int) (vs1 : Value) (si1 : List Int), zl = .int .i64 z ∧ zt = .int .i64 (t : Int) ∧ zq = .int .i64 q ∧ t ≤ 262145 ∧ -1 ≤ z ∧ z ≤ 262145 ∧ Hid (Go d s fr t q z si1 ∧ Wk X wr B g vg d s cs o cap ao acap ws vs1 si1 ∧ Ch X B g vg (.slice so si.length sc) vs1 W wr)) (fun _ zt _ _ => 262146 - (intOf zt).toNat)
  case atStart => exact ⟨(fr : Int) - 1, fr, 0, _, _, rfl, rfl, rfl, by omega, by omega, by omega, HST⟩
  case round =>
    obtain ⟨z, t, q, vs1, si1, rfl, rfl, rfl, ht, hz1, hz2, HI⟩ := hrel
    clear HST
    by_cases hq : q < 0
    · obtain rfl : q = -1 := by have := HI.out.1.q1; omega
      have HDN := (show Hid _ from HI.out.1.done (E_none d s (-1) t (by omega)))
      obtain ⟨so1, sc1, rfl, f1, f2⟩ := HI.out.2.1.form
      have d260 := HI.out.2.1.box.c260
      have HLN := (show Hid (z + 1 + (si1.length : Int) = (t : Int) ∧ t ≤ s.size + 1) from ⟨HI.out.1.len, HI.out.1.t2⟩)
      have hsl : si1.length ≤ 262145 := by have := HLN.out.1; omega
      have HST := (show Hid (Wk X wr B g vg d s cs o cap ao acap ws (.slice so1 si1.length sc1) si1 ∧ Sound d s ws ∧ ws.length = ws.length ∧ Ch X B g vg (.slice so si.length sc) (.slice so1 si1.length sc1) W wr) from ⟨HI.out.2.1, HSD.out, rfl, HI.out.2.2⟩)
      clear HI
      go_wp2_with (fail)
      obtain ⟨w50, rfl⟩ : ∃ w50 : World, w50 = wr := ⟨_, rfl⟩
      go_loopw [68] (fun x wr => ∃ (i : Nat) (ws2 : List Nat), x = .int .i64 (i : Int) ∧ i ≤ si1.length ∧ Hid (Wk X wr B g vg d s cs o cap ao acap ws2 (.slice so1 si1.length sc1) si1 ∧ Sound d s ws2 ∧ ws2.length = ws.length ∧ Ch X B g vg (.slice so si.length sc) (.slice so1 si1.length sc1) W wr)) (fun x _ => si1.length - (intOf x).toNat)
      case atStart => exact ⟨0, ws, rfl, by omega, HST.out.1, HST.out.2.1, rfl, HST.out.2.2.2⟩
      case round =>
        obtain ⟨i, ws2, rfl, hi, HJ⟩ := hrel
        clear HST d260
        by_cases hend : i < si1.length
        · obtain ⟨kk, hk1, hk2, hk3⟩ := HDN.out.2 i hend
          obtain ⟨gb, gc, e1, e2, e3⟩ := ow.cell HJ.out.1.sn i (by simpa using hend)
          simp only [Value.slice.injEq, true_and] at e1
          obtain ⟨rfl, rfl⟩ := e1
          rw [List.getElem_map, hk1] at e3
          obtain ⟨p, hp⟩ : ∃ p : Nat, z + 1 + (i : Int) = (p : Int) := ⟨(z + 1 + (i : Int)).toNat, by have := HLN.out; omega⟩
          have hps : p ≤ s.size := by have := HLN.out; omega
          rw [hp, Int.toNat_natCast] at hk3
          have hkey := key_lt (z := s.size) hk2 hps
          have hsm := key_small hN4 hk2 hps hs
          have h63 : Calls Try.prog 81 #[.pointer (some ⟨g, 0, none⟩), .int .i64 (z + 1 + (i : Int)), .int .i64 (kk : Int)] wr fun e w' => (∃ v, e = .returned v) ∧ Wk X w' B g vg d s cs o cap ao acap (putBit ws2 (p * d.next.length + kk)) (.slice (some ⟨gb, 0, none⟩) si1.length sc1) si1 ∧ Ch X B g vg (.slice (some ⟨gb, 0, none⟩) si1.length sc1) (.slice (some ⟨gb, 0, none⟩) si1.length sc1) wr w' := by
            rw [hp]
            exact mark_any HJ.out.1 p kk _ rfl hsm.1 (by rw [HJ.out.2.2.1, HWS.out]; exact hkey) (by rw [HJ.out.2.2.1, HWS.out]; exact hsm.2)
          have HSN := (show Hid (Sound d s (putBit ws2 (p * d.next.length + kk)) ∧ (putBit ws2 (p * d.next.length + kk)).length = ws.length) from ⟨HJ.out.2.1.put hk2 hk3, by rw [putBit_len]; exact HJ.out.2.2.1⟩)
          clear hk3 hkey hsm hk1 e2 hp hps
          generalize putBit ws2 (p * d.next.length + kk) = ws3 at *
          go_wp2_with (go_at_call 81; refine h63.mono ?_; rintro e w6 ⟨⟨v6, rfl⟩, k6, c6⟩; have HK6 := (show Hid _ from k6); have HC6 := (show Hid _ from HJ.out.2.2.2.trans c6); clear k6 c6)
          go_roundw
          case rel => exact ⟨i + 1, ws3, by go_num, by omega, HK6.out, HSN.out.1, HSN.out.2, HC6.out⟩
          case measure => simp [intOf]; omega
        · have HRS := (show Hid (lastOr (E d s 0 fr) ((fr : Int) - 1) = z) from HDN.out.1)
          clear HDN
          go_wp2_with (fail)
          go_ret
          exact ⟨ws2, _, si1, by rw [HRS.out]; rfl, HJ.out.1, HJ.out.2.1, HJ.out.2.2.1, HJ.out.2.2.2⟩
    · obtain ⟨n, rfl⟩ : ∃ n : Nat, q = (n : Int) := ⟨q.toNat, by omega⟩
      have hn : n < d.next.length := by have := HI.out.1.q2; omega
      have hts := HI.out.1.t1 (by omega)
      have hkey := key_lt (z := s.size) hn hts
      have hsm := key_small hN4 hn hts hs
      have hne : ((n : Int) == -1) = false := by rw [beq_eq_false_iff_ne]; omega
      have hne2 : ((n : Int) != -1) = true := by rw [bne, hne]; rfl
      have h61 := vain_any HI.out.2.1 t n _ rfl hsm.1 (by rw [HWS.out]; exact hkey) (by rw [HWS.out]; exact hsm.2) _ rfl
      cases hv : bitOn ws (t * d.next.length + n) with
      | true =>
        rw [hv] at h61
        have HDN := (show Hid _ from HI.out.1.done (HSD.out t n hts hn hv))
        clear hv
        obtain ⟨so1, sc1, rfl, f1, f2⟩ := HI.out.2.1.form
        have d260 := HI.out.2.1.box.c260
        have HLN := (show Hid (z + 1 + (si1.length : Int) = (t : Int) ∧ t ≤ s.size + 1) from ⟨HI.out.1.len, HI.out.1.t2⟩)
        have hsl : si1.length ≤ 262145 := by have := HLN.out.1; omega
        have HST := (show Hid (Wk X wr B g vg d s cs o cap ao acap ws (.slice so1 si1.length sc1) si1 ∧ Sound d s ws ∧ ws.length = ws.length ∧ Ch X B g vg (.slice so si.length sc) (.slice so1 si1.length sc1) W wr) from ⟨HI.out.2.1, HSD.out, rfl, HI.out.2.2⟩)
        clear HI
        go_wp2_with (go_at_call 79; refine h61.mono ?_; rintro e w2 ⟨rfl, hw⟩; obtain rfl := hw.symm)
        obtain ⟨w50, rfl⟩ : ∃ w50 : World, w50 = wr := ⟨_, rfl⟩
        go_loopw [68] (fun x wr => ∃ (i : Nat) (ws2 : List Nat), x = .int .i64 (i : Int) ∧ i ≤ si1.length ∧ Hid (Wk X wr B g vg d s cs o cap ao acap ws2 (.slice so1 si1.length sc1) si1 ∧ Sound d s ws2 ∧ ws2.length = ws.length ∧ Ch X B g vg (.slice so si.length sc) (.slice so1 si1.length sc1) W wr)) (fun x _ => si1.length - (intOf x).toNat)
        case atStart => exact ⟨0, ws, rfl, by omega, HST.out.1, HST.out.2.1, rfl, HST.out.2.2.2⟩
        case round =>
          obtain ⟨i, ws2, rfl, hi, HJ⟩ := hrel
          clear HST d260
          by_cases hend : i < si1.length
          · obtain ⟨kk, hk1, hk2, hk3⟩ := HDN.out.2 i hend
            obtain ⟨gb, gc, e1, e2, e3⟩ := ow.cell HJ.out.1.sn i (by simpa using hend)
            simp only [Value.slice.injEq, true_and] at e1
            obtain ⟨rfl, rfl⟩ := e1
            rw [List.getElem_map, hk1] at e3
            obtain ⟨p, hp⟩ : ∃ p : Nat, z + 1 + (i : Int) = (p : Int) := ⟨(z + 1 + (i : Int)).toNat, by have := HLN.out; omega⟩
            have hps : p ≤ s.size := by have := HLN.out; omega
            rw [hp, Int.toNat_natCast] at hk3
            have hkey := key_lt (z := s.size) hk2 hps
            have hsm := key_small hN4 hk2 hps hs
            have h63 : Calls Try.prog 81 #[.pointer (some ⟨g, 0, none⟩), .int .i64 (z + 1 + (i : Int)), .int .i64 (kk : Int)] wr fun e w' => (∃ v, e = .returned v) ∧ Wk X w' B g vg d s cs o cap ao acap (putBit ws2 (p * d.next.length + kk)) (.slice (some ⟨gb, 0, none⟩) si1.length sc1) si1 ∧ Ch X B g vg (.slice (some ⟨gb, 0, none⟩) si1.length sc1) (.slice (some ⟨gb, 0, none⟩) si1.length sc1) wr w' := by
              rw [hp]
              exact mark_any HJ.out.1 p kk _ rfl hsm.1 (by rw [HJ.out.2.2.1, HWS.out]; exact hkey) (by rw [HJ.out.2.2.1, HWS.out]; exact hsm.2)
            have HSN := (show Hid (Sound d s (putBit ws2 (p * d.next.length + kk)) ∧ (putBit ws2 (p * d.next.length + kk)).length = ws.length) from ⟨HJ.out.2.1.put hk2 hk3, by rw [putBit_len]; exact HJ.out.2.2.1⟩)
            clear hk3 hkey hsm hk1 e2 hp hps
            generalize putBit ws2 (p * d.next.length + kk) = ws3 at *
            go_wp2_with (go_at_call 81; refine h63.mono ?_; rintro e w6 ⟨⟨v6, rfl⟩, k6, c6⟩; have HK6 := (show Hid _ from k6); have HC6 := (show Hid _ from HJ.out.2.2.2.trans c6); clear k6 c6)
            go_roundw
            case rel => exact ⟨i + 1, ws3, by go_num, by omega, HK6.out, HSN.out.1, HSN.out.2, HC6.out⟩
            case measure => simp [intOf]; omega
          · have HRS := (show Hid (lastOr (E d s 0 fr) ((fr : Int) - 1) = z) from HDN.out.1)
            clear HDN
            go_wp2_with (fail)
            go_ret
            exact ⟨ws2, _, si1, by rw [HRS.out]; rfl, HJ.out.1, HJ.out.2.1, HJ.out.2.2.1, HJ.out.2.2.2⟩
      | false =>
        rw [hv] at h61
        clear hv hkey hsm
        obtain ⟨so1, sc1, rfl, f1, f2⟩ := HI.out.2.1.form
        have d260 := HI.out.2.1.box.c260
        have HSI := (show Hid (si1.length ≤ 1000000) from by have := HI.out.1.len; show _ ≤ _; omega)
        have HAP := (show Hid (∀ (g' cap' : Nat) (w3 : World), w3.ownsRow B 3 1 (.slice (some ⟨g', 0, none⟩) (si1.length + 1) cap') (si1.length + 1) (si1.map (Value.int .i64) ++ [Value.int .i64 (n : Int)]) → (wr.alloc (.cells #[.int .i64 (n : Int)] 3)).grownBy w3 (Value.slice so1 si1.length sc1).ownBlock → (some g' = (Value.slice so1 si1.length sc1).ownBlock ∨ (wr.alloc (.cells #[.int .i64 (n : Int)] 3)).heap.size ≤ g') →
            w3.cell? ⟨g, 260, none⟩ = some (.slice so1 si1.length sc1) ∧ w3.frozen? ⟨g, 260, none⟩ = false ∧ Wk X (w3.setCell ⟨g, 260, none⟩ (.slice (some ⟨g', 0, none⟩) (si1.length + 1) cap')) B g vg d s cs o cap ao acap ws (.slice (some ⟨g', 0, none⟩) (si1.length + 1) cap') (si1 ++ [(n : Int)]) ∧ Ch X B g vg (.slice so si.length sc) (.slice (some ⟨g', 0, none⟩) (si1.length + 1) cap') W (w3.setCell ⟨g, 260, none⟩ (.slice (some ⟨g', 0, none⟩) (si1.length + 1) cap'))) from by
          intro g' cap' w3 ho hg hw
          have c1 := df.below_alloc wr (.cells #[.int .i64 (n : Int)] 3)
          have k1 := HI.out.2.1.later c1
          obtain ⟨q1, q2, q3⟩ := k1.since (vs' := .slice (some ⟨g', 0, none⟩) (si1.length + 1) cap') (si' := si1 ++ [(n : Int)]) (by unfold Owns; rw [List.length_append, List.map_append]; exact ho) hg (fun j e => by
            have e2 : g' = j := by simpa [Value.ownBlock] using e
            subst e2
            rcases hw with e3 | e3
            · exact .inl e3.symm
            · exact .inr e3)
          exact ⟨q1.c260, q1.fz 260, q2, HI.out.2.2.trans ((Ch.below c1).trans q3)⟩)
        have HOW := (show Hid ((wr.alloc (.cells #[.int .i64 (n : Int)] 3)).ownsRow B 3 1 (.slice so1 si1.length sc1) si1.length (si1.map (Value.int .i64)) ∧ B ≤ (wr.alloc (.cells #[.int .i64 (n : Int)] 3)).heap.size) from ⟨(HI.out.2.1.later (df.below_alloc _ _)).sn, Nat.le_trans HI.out.2.1.bg (Nat.le_of_lt (HI.out.2.1.later (df.below_alloc _ _)).box.lt)⟩)
        go_upto_region 7 with (first | (go_at_call 79; refine h61.mono ?_; rintro e w2 ⟨rfl, hw⟩; obtain rfl := hw.symm) | (at_builtin; refine ow.wpList_append (by rfl) (.tmp 36) (.tmp 38) 25 (by rfl) 3 (.int .i64 0) 1 8 Try.underlying25 df.info3 (by rfl) (by decide) (by decide) B (.slice so1 si1.length sc1) si1.length (si1.map (Value.int .i64)) wr.heap.size [.int .i64 (n : Int)] (by rfl) (by rfl) (by exact HOW.out.1) (by rfl) (by exact ow.new1 wr _ 3) (by exact ow.one1 _ rfl) (by exact HSI.out) (by exact HOW.out.2) ?_; intro g' cap' w3 ho hg hw; obtain ⟨z26, y26, k3, c3⟩ := HAP.out g' cap' w3 ho hg hw; have HK3 := (show Hid _ from k3); have HC3 := (show Hid _ from c3); clear ho hg hw k3 c3))
        obtain ⟨w4, HW4⟩ : ∃ w4, Hid (w4 = w3.setCell ⟨g, 260, none⟩ (.slice (some ⟨g', 0, none⟩) (si1.length + 1) cap')) := ⟨_, rfl⟩
        rw [← HW4.out] at HK3 HC3 ⊢
        have ha : n < d.acc.length := by rw [HK.out.accs]; exact hn
        obtain ⟨ab, aoff, rfl, _, acell⟩ := df.acc_at HK3.out.dt n ha
        have c257 := HK3.out.box.ac HK3.out.dt
        have af := HK3.out.dt.accs.fit
        have at' := HK3.out.dt.accs.top
        have e260 := HK3.out.box.c260
        have y260 := HK3.out.box.fz 260
        clear z26 y26 HAP HOW d260 h61 HW4
        cases hac : acpt d n with
        | true =>
          rw [hac] at acell
          have HGO := (show Hid _ from HI.out.1.yes HK.out hac)
          have HN4 := (show Hid _ from HK3.out.none)
          have h62 := next_any HK.out HN4.out.1 t n hts (by omega) hn _ rfl
          have HCH := (show Hid _ from HC3.out.trans HN4.out.2)
          clear hac HI
          generalize to' d s t n = r at *
          go_wp2_with (go_at_call 80; refine h62.mono ?_; rintro e w6 ⟨rfl, b6⟩; have HK6 := (show Hid _ from HN4.out.1.later b6); have HC6 := (show Hid _ from HCH.out.trans (Ch.below b6)); clear b6)
          go_roundw
          case rel => exact ⟨(t : Int), t + 1, r, _, _, rfl, by go_num, rfl, by omega, by omega, by omega, HGO.out, HK6.out, HC6.out⟩
          case measure => simp [intOf]; omega
        | false =>
          rw [hac] at acell
          have HGO := (show Hid _ from HI.out.1.no HK.out hac)
          have h62 := next_any HK.out HK3.out t n hts (by omega) hn _ rfl
          clear hac HI
          generalize to' d s t n = r at *
          go_wp2_with (go_at_call 80; refine h62.mono ?_; rintro e w6 ⟨rfl, b6⟩; have HK6 := (show Hid _ from HK3.out.later b6); have HC6 := (show Hid _ from HC3.out.trans (Ch.below b6)); clear b6)
          go_roundw
          case rel => exact ⟨z, t + 1, r, _, _, rfl, by go_num, rfl, by omega, by omega, by omega, HGO.out, HK6.out, HC6.out⟩
          case measure => simp [intOf]; omega
end
end Go.Proofs.Ytmmlibehihknbaa.pc
