/-
  Contracts over this program: the document's live, walked.
-/
import Derived.Test.YtkdkibnjfgcppaaM04
namespace Go.Proofs.Ytkdkibnjfgcppaa.mi
open Go.ChangeShapes Go.WideShapes Go.ChangeAt Go.RowKit Go.Shelf Go.Maps
set_option linter.unusedVariables false

def LiveOut (d : df.Dfa) (w : World) (e : Ending) (w' : World) : Prop := ∃ (l : List Int) (g : Nat), e = .returned (.slice (some ⟨g, 0, none⟩) d.next.length d.next.length) ∧ w.heap.size ≤ g ∧ ZRow w' g l ∧ l.length = d.next.length ∧ Bin l ∧ (∀ i, i < d.next.length → (atL l i = 1 ↔ Live (lg d i))) ∧ Below w.heap.size w w'
set_option maxHeartbeats 4000000 in
set_option maxRecDepth 100000 in
theorem live_any (d : df.Dfa) (hr : df.right d = true) (cs : Array Value) (o ao : Option Addr) (cap acap : Nat) (w : World) (hD : df.DAt (df.In w) w d cs o cap ao acap) :
    Calls Try.prog 25 #[.agg cs] w (LiveOut d w) := by
  have hok := df.ok_of d hr
  have hmost := hok.most
  have hone := hok.one
  have haccl := hok.accs
  have HW8 := (show Hid (cs.size = 258) from hD.size)
  have hc256 := hD.nx
  obtain ⟨wA, hwA⟩ : ∃ wA, wA = w.alloc (.cells cs 26) := ⟨_, rfl⟩
  have B0 : Below w.heap.size w wA := by rw [hwA]; exact below_alloc w _
  have xA : df.DBox wA w.heap.size cs := by rw [hwA]; exact df.dbox_new w cs
  have HA := (show Hid _ from hD.later B0)
  have hmk := makeZ d.next.length (by omega)
  obtain ⟨w1, hw1⟩ : ∃ w1, w1 = wA.alloc (.cells (ics (List.replicate d.next.length 0)) 3) := ⟨_, rfl⟩
  have B1 : Below wA.heap.size wA w1 := by rw [hw1]; exact below_alloc wA _
  have HSA := (show Hid (wA.heap.size = w.heap.size + 1) from by rw [hwA]; show (w.alloc _).heap.size = _; simp)
  have hleA : wA.heap.size ≤ w.heap.size + 1 := by rw [HSA.out]; omega
  have hgeA : w.heap.size + 1 ≤ wA.heap.size := by rw [HSA.out]; omega
  have Z1 : ZRow w1 (w.heap.size + 1) (List.replicate d.next.length 0) := by rw [hw1, ← HSA.out]; exact heap_alloc_new wA _
  have HOK := (show Hid _ from hok)
  have XA := (show Hid (df.DBox wA w.heap.size cs) from xA)
  have hAs := B0.size
  have hAlt := xA.lt
  have f1 := HA.out.rows.fit
  have f2 := HA.out.rows.top
  have f3 := HA.out.accs.fit
  have f4 := HA.out.accs.top
  clear hD hok
  go_enter Try.func25, Try.ntmps25
  go_wp2_with (fail)
  rw [← hwA, ← hw1]
  clear hw1 hmk hwA xA hc256
  go_loopw [15] (fun y wr => ∃ (i : Nat) (l : List Int), y = .int .i64 (i : Int) ∧ i ≤ d.next.length ∧ Below wA.heap.size wA wr ∧ ZRow wr (w.heap.size + 1) l ∧ Hid (Mk1 d l i)) (fun y _ => d.next.length - (intOf y).toNat)
  case atStart => exact ⟨0, _, rfl, by omega, B1, Z1, Mk1.start d⟩
  case round =>
    clear Z1 B1
    obtain ⟨i, l, rfl, hi, hBi, hZ, HM⟩ := hrel
    by_cases hlt : i < d.next.length
    · have xi := XA.out.later hBi
      have z1 := xi.ac HA.out
      obtain ⟨ab, aoff, rfl, hab, hac⟩ := HA.out.accs.lie i (by omega)
      have k2 := (hBi.cell (p := ⟨ab, aoff + i, none⟩) hab).trans hac
      have hlen := HM.out.1
      have k3 := hZ.at (i := i) (by omega)
      have fz := hZ.fz i
      have HZ2 := (show Hid (ZRow (wr.setCell ⟨w.heap.size + 1, i, none⟩ (.int .i64 1)) (w.heap.size + 1) (l.set i 1)) from hZ.put i 1)
      have HB2 := (show Hid (Below wA.heap.size wA (wr.setCell ⟨w.heap.size + 1, i, none⟩ (.int .i64 1))) from hBi.setCell (p := ⟨w.heap.size + 1, i, none⟩) (by simpa using hleA) _)
      have hacp : df.acpt d i = d.acc[i]'(by omega) := by unfold df.acpt; rw [List.getElem?_eq_getElem (by omega)]; rfl
      have HY := (show Hid (d.acc[i]'(by omega) = true → Mk1 d (l.set i 1) (i + 1)) from fun h => HM.out.yes hlt (by rw [hacp]; exact h))
      have HN := (show Hid (d.acc[i]'(by omega) = false → Mk1 d l (i + 1)) from fun h => HM.out.no (by rw [hacp]; exact h))
      clear hac hacp xi
      generalize d.acc[i]'(by omega) = ac at *
      cases ac with
      | true =>
        have HY2 := (show Hid _ from HY.out rfl)
        clear HY HN HM
        go_wp2_with (fail)
        go_roundw
        case rel => exact ⟨i + 1, l.set i 1, by go_num, by omega, HB2.out, HZ2.out, HY2.out⟩
        case measure => simp [intOf]; omega
      | false =>
        have HN2 := (show Hid _ from HN.out rfl)
        clear HY HN HM HZ2 HB2
        go_wp2_with (fail)
        go_roundw
        case rel => exact ⟨i + 1, l, by go_num, by omega, hBi, hZ, HN2.out⟩
        case measure => simp [intOf]; omega
    · obtain rfl : i = d.next.length := by omega
      have HL := (show Hid (LvOk d l) from HM.out.ok)
      clear HM
      go_wp2_with (fail)
      go_loopw [5] (fun y wr => ∃ (l : List Int) (more : Bool), y = .bool more ∧ Below wA.heap.size wA wr ∧ ZRow wr (w.heap.size + 1) l ∧ Hid (LvOk d l ∧ (more = false → ∀ i, i < d.next.length → Still d l i))) (fun y wr => 2 * zW wr (w.heap.size + 1) + (match y with | .bool true => 1 | _ => 0))
      case atStart => exact ⟨l, true, rfl, hBi, hZ, HL.out, fun h => by cases h⟩
      case round =>
        clear hZ hBi HL
        obtain ⟨l0, more0, rfl, hB0, hZ0, HL0⟩ := hrel
        cases more0 with
        | false =>
          have HF := (show Hid _ from HL0.out.1.done hr (HL0.out.2 rfl))
          have HG := (show Hid (l0.length = d.next.length ∧ Bin l0) from ⟨HL0.out.1.1, HL0.out.1.2.1⟩)
          clear HL0
          go_wp2_with (fail)
          go_ret
          exact ⟨l0, w.heap.size + 1, rfl, by omega, hZ0, HG.out.1, HG.out.2, HF.out, df.chain B0 hB0⟩
        | true =>
          have z1 := (XA.out.later hB0).nx HA.out
          have HP0 := (show Hid (Pass d l0 l0 false 0) from ⟨HL0.out.1, fun h => (by cases h), fun _ => ⟨rfl, fun k hk => (by omega)⟩⟩)
          have HZW := (show Hid (zW wr (w.heap.size + 1) = zeros l0) from zW_row hZ0)
          clear HL0
          go_wp2_with (fail)
          clear z1
          go_loopw [31, 5] (fun y v wr => ∃ (i : Nat) (l : List Int) (more : Bool), y = .int .i64 (i : Int) ∧ v = .bool more ∧ i ≤ d.next.length ∧ Below wA.heap.size wA wr ∧ ZRow wr (w.heap.size + 1) l ∧ Hid (Pass d l0 l more i)) (fun y _ _ => d.next.length - (intOf y).toNat)
          case atStart => exact ⟨0, l0, false, rfl, rfl, by omega, hB0, hZ0, HP0.out⟩
          case round =>
            clear HP0
            obtain ⟨i, l, more, rfl, rfl, hi, hBi, hZ, HP⟩ := hrel
            by_cases hlt : i < d.next.length
            · have xi := XA.out.later hBi
              have c41 := bytes_any d hr i hlt cs o ao cap acap wr (HA.out.later hBi)
              have hws := hBi.size
              have hZl := hZ.lt
              go_wp2_with (fail)
              refine wp_load_row 26 (.tmp 1) rfl w.heap.size rfl 26 cs (0, 0) _ xi Try.underlying26 rfl (df.info26 cs HW8.out) ?_
              go_wp2_with (fail)
              go_at_call 41
              refine c41.mono ?_
              rintro e w2 ⟨v, rfl, hv, b2⟩
              obtain ⟨vb, vc, rfl, hvb, hvc1, hvc2, hrow⟩ := rowB_of hv
              have hB2 := hBi.trans (b2.mono hBi.size)
              have hZ2 := hZ.later b2
              have hne : vb ≠ w.heap.size + 1 := by omega
              have HR2 := (show Hid (RowB w2 vb d i) from hrow)
              have HP2 := (show Hid (Pass d l0 l more i ∧ (more = false → StillTo d l i 0)) from ⟨HP.out, fun _ _ c hc => (by omega)⟩)
              clear c41 hv hrow HP xi hZ
              go_wp2_with (fail)
              go_loopw [38, 5] (fun y v wr => ∃ (b : Nat) (l : List Int) (more : Bool), y = .int .i64 (b : Int) ∧ v = .bool more ∧ b ≤ 256 ∧ Below wA.heap.size wA wr ∧ ZRow wr (w.heap.size + 1) l ∧ Hid (RowB wr vb d i) ∧ Hid (Pass d l0 l more i ∧ (more = false → StillTo d l i b))) (fun y _ _ => 256 - (intOf y).toNat)
              case atStart => exact ⟨0, l, more, rfl, rfl, by omega, hB2, hZ2, HR2, HP2⟩
              case round =>
                clear HP2 HR2 hZ2 hB2
                obtain ⟨b, l, more, rfl, rfl, hb, hBb, hZb, HR, HP⟩ := hrel
                by_cases hbl : b < 256
                · have hll : l.length = d.next.length := HP.out.1.ok.1
                  have kb := HR.out b hbl
                  have ki := hZb.at (i := i) (by omega)
                  have fzi := hZb.fz i
                  have hnx := df.nxt_ok HOK.out i (d.cls b) hlt (HOK.out.cl b hbl)
                  have HZ3 := (show Hid (ZRow (wr.setCell ⟨w.heap.size + 1, i, none⟩ (.int .i64 1)) (w.heap.size + 1) (l.set i 1)) from hZb.put i 1)
                  have HB3 := (show Hid (Below wA.heap.size wA (wr.setCell ⟨w.heap.size + 1, i, none⟩ (.int .i64 1))) from hBb.setCell (p := ⟨w.heap.size + 1, i, none⟩) (by simpa using hleA) _)
                  have HR3 := (show Hid (RowB (wr.setCell ⟨w.heap.size + 1, i, none⟩ (.int .i64 1)) vb d i) from fun c hc => by rw [cell_setZ hne]; exact HR.out c hc)
                  have HMK := (show Hid (atL l i = 0 → 0 ≤ df.nxt d i (d.cls b) → atL l (df.nxt d i (d.cls b)).toNat = 1 → Pass d l0 (l.set i 1) true i ∧ (true = false → StillTo d (l.set i 1) i (b + 1))) from fun h0 hj h1 => ⟨HP.out.1.mark hr hlt hbl h0 hj h1, fun e => (by cases e)⟩)
                  have HNO := (show Hid ((atL l i = 0 → 0 ≤ df.nxt d i (d.cls b) → atL l (df.nxt d i (d.cls b)).toNat = 0) → Pass d l0 l more i ∧ (more = false → StillTo d l i (b + 1))) from fun h => ⟨HP.out.1, fun e h0 c hc hj => (by
                    by_cases e2 : c = b
                    · subst e2; exact h h0 hj
                    · exact HP.out.2 e h0 c (by omega) hj)⟩)
                  have hbin := HP.out.1.ok.2.1
                  have bi := hbin i
                  obtain ⟨j, hj⟩ : ∃ j, j = df.nxt d i (d.cls b) := ⟨_, rfl⟩
                  rw [← hj] at kb hnx HMK HNO
                  by_cases hj0 : 0 ≤ j
                  · obtain ⟨jn, rfl⟩ := Int.eq_ofNat_of_zero_le hj0
                    have bj := hbin jn
                    have kj := hZb.at (i := jn) (by omega)
                    have hjl : jn < d.next.length := by omega
                    rw [show ((jn : Nat) : Int).toNat = jn from rfl] at HMK HNO
                    clear HP hj hbin
                    generalize atL l i = xi at *
                    generalize atL l jn = xj at *
                    rcases bi with rfl | rfl
                    · rcases bj with rfl | rfl
                      · have HF := (show Hid _ from HNO.out fun _ _ => rfl)
                        clear HMK HNO HZ3 HB3 HR3
                        go_wp2_with (fail)
                        go_roundw
                        case rel => exact ⟨b + 1, l, more, by go_num, rfl, by omega, hBb, hZb, HR, HF⟩
                        case measure => simp [intOf]; omega
                      · have HF := (show Hid _ from HMK.out rfl (by omega) rfl)
                        clear HMK HNO
                        go_wp2_with (fail)
                        go_roundw
                        case rel => exact ⟨b + 1, l.set i 1, true, by go_num, rfl, by omega, HB3.out, HZ3.out, HR3, HF⟩
                        case measure => simp [intOf]; omega
                    · have HF := (show Hid _ from HNO.out fun h => (by cases h))
                      clear HMK HNO HZ3 HB3 HR3
                      go_wp2_with (fail)
                      go_roundw
                      case rel => exact ⟨b + 1, l, more, by go_num, rfl, by omega, hBb, hZb, HR, HF⟩
                      case measure => simp [intOf]; omega
                  · have HF := (show Hid _ from HNO.out fun _ h => absurd h hj0)
                    clear HMK HNO HZ3 HB3 HR3 HP hj hbin
                    generalize atL l i = xi at *
                    rcases bi with rfl | rfl
                    · go_wp2_with (fail)
                      go_roundw
                      case rel => exact ⟨b + 1, l, more, by go_num, rfl, by omega, hBb, hZb, HR, HF⟩
                      case measure => simp [intOf]; omega
                    · go_wp2_with (fail)
                      go_roundw
                      case rel => exact ⟨b + 1, l, more, by go_num, rfl, by omega, hBb, hZb, HR, HF⟩
                      case measure => simp [intOf]; omega
                · obtain rfl : b = 256 := by omega
                  have HF := (show Hid (Pass d l0 l more (i + 1)) from HP.out.1.next HP.out.2)
                  clear HP
                  go_wp2_with (fail)
                  go_roundw
                  case rel => exact ⟨i + 1, l, more, by go_num, rfl, by omega, hBb, hZb, HF⟩
                  case measure => simp [intOf]; omega
            · obtain rfl : i = d.next.length := by omega
              have HF := (show Hid (LvOk d l ∧ (more = false → ∀ i, i < d.next.length → Still d l i)) from ⟨HP.out.ok, fun e => (HP.out.no e).2⟩)
              have HQ := (show Hid (2 * zeros l + (match Value.bool more with | .bool true => 1 | _ => 0) < 2 * zeros l0 + 1) from by
                cases hm : more with
                | true => have := HP.out.yes hm; show 2 * zeros l + 1 < _; omega
                | false => have := (HP.out.no hm).1; show 2 * zeros l + 0 < _; rw [this]; omega)
              have HZ4 := (show Hid (zW wr (w.heap.size + 1) = zeros l) from zW_row hZ)
              clear HP
              go_wp2_with (fail)
              go_roundw
              case rel => exact ⟨l, more, rfl, hBi, hZ, HF⟩
              case measure => show 2 * zW _ _ + _ < 2 * zW _ _ + _; rw [HZ4.out, HZW.out]; exact HQ.out
end Go.Proofs.Ytkdkibnjfgcppaa.mi
