/-
  Texts put together: Contracts over this program: the document's Right as a whole, Out, Run (fretsawref12). Contracts over this program: the document's Run (fretsawref12).
-/
import Derived.Test.YtmmlibehihknbaaKTh
namespace Go.Proofs.Ytmmlibehihknbaa.tr
open Go.ChangeShapes Go.WideShapes Go.ChangeAt Go.RowKit Go.Shelf
set_option linter.unusedVariables false

theorem rright_any (m : Mc) (a : Bool) (ha : a = right m) : RightIs 18 m a := by
  by_cases g0 : 1 ≤ m.next.length
  case neg => obtain rfl := not_right ha (fun h => g0 h.one); exact rright_0 m g0
  by_cases g1 : m.next.length ≤ 1200
  case neg => obtain rfl := not_right ha (fun h => g1 h.most); exact rright_1 m g0 g1
  by_cases g2 : m.put.length = m.next.length
  case neg => obtain rfl := not_right ha (fun h => g2 h.puts); exact rright_2 m g0 g1 g2
  by_cases g3 : m.fin.length = m.next.length
  case neg => obtain rfl := not_right ha (fun h => g3 h.fins); exact rright_3 m g0 g1 g2 g3
  by_cases g4 : m.txt.length ≤ 4096
  case neg => obtain rfl := not_right ha (fun h => g4 h.few); exact rright_4 m g0 g1 g2 g3 g4
  exact rright_go m g0 g1 g2 g3 g4 a ha

theorem conv_one (w : World) (b : UInt8) : Sem.run Try.prog (convert 63 9 (.slice (some ⟨w.heap.size, 0, none⟩) 1 1)) (w.alloc (.cells #[.int .u8 (b.toNat : Int)] 5)) = .ok (.string ⟨#[b]⟩) (w.alloc (.cells #[.int .u8 (b.toNat : Int)] 5)) := by
  refine run_convert_bytes_back _ 63 9 5 ⟨w.heap.size, 0, none⟩ 1 [b] Try.underlying63 Try.underlying5 Try.underlying9 fun j hj => ?_
  match j, hj with
  | 0, _ => simp [Addr.add]
  | (j + 1), hj => simp at hj
theorem bs_add (t : ByteArray) (l : List UInt8) : t ++ (⟨l.toArray⟩ : ByteArray) = bs (t.data.toList ++ l) := by
  apply ByteArray.ext
  simp
theorem bs_self (t : ByteArray) : bs t.data.toList = t := by
  apply ByteArray.ext
  simp

def OutIs (m : Mc) (st : Nat) (b : UInt8) : Prop := ∀ p w, MAt (In w) w m p → Calls Try.prog 31 #[.agg (mv m p), .int .i64 (st : Int), .int .u8 (b.toNat : Int)] w fun e w' => e = .returned (.string (bs (outp m st b))) ∧ Below w.heap.size w w'
set_option maxHeartbeats 1000000 in
set_option maxRecDepth 100000 in
theorem out_any (m : Mc) (hR : Right m) (st : Nat) (hst : st < m.next.length) (b : UInt8) : OutIs m st b := by
  intro p w hM
  have B0 := below_alloc w (.cells (mv m p) 32)
  have hM1 := hM.later B0
  have b0 := box_new w m p
  have hb := b.toNat_lt
  obtain ⟨pb, poff, rb, roff, rc, e1, h1, h2, h3, h4, h5, h6⟩ := hM1.put_at hR hst hb
  have hq := hR.pt_lt hst hb
  have HO : Hid (outp m st b = (tx m (pt m st b.toNat / 2)).data.toList ++ (if pt m st b.toNat % 2 = 1 then [b] else [])) := rfl
  obtain ⟨xb, xoff, e7, h7, h8⟩ := hM1.tx_at (k := pt m st b.toNat / 2) (by omega)
  have hx1 := b0.c1
  have hx3 := b0.c3
  have t2 := hM.rpt.fit
  have t3 := hM.rpt.top
  have t6 := hM.rtx.fit
  have t7 := hM.rtx.top
  have hpl : st < m.put.length := by rw [hR.puts]; exact hst
  have htl := hR.tx_le (pt m st b.toNat / 2)
  obtain ⟨no, nc, po, pc, eo, ec, xo, xc⟩ := p
  simp only at e1 e7
  subst e1 e7
  generalize pt m st b.toNat = q at *
  generalize tx m (q / 2) = t at *
  have hd := div2 q
  have hmd := mod2 q
  have hq2 : q / 2 < m.txt.length := by omega
  clear hM hM1 b0
  by_cases hodd : q % 2 = 1
  · rw [hodd] at hmd
    have HO2 : Hid (bs (outp m st b) = t ++ ⟨#[b]⟩) := by show _ = _; rw [HO.out, if_pos hodd, bs_add]
    have hcv := conv_one (w.alloc (.cells (mv m ⟨no, nc, some ⟨pb, poff, none⟩, pc, eo, ec, some ⟨xb, xoff, none⟩, xc⟩) 32)) b
    rw [show (w.alloc (.cells (mv m ⟨no, nc, some ⟨pb, poff, none⟩, pc, eo, ec, some ⟨xb, xoff, none⟩, xc⟩) 32)).heap.size = w.heap.size + 1 by simp] at hcv
    have hno : ¬ 9223372036854775807 < t.size + (⟨#[b]⟩ : ByteArray).size := by
      rw [show (⟨#[b]⟩ : ByteArray).size = 1 from rfl]; omega
    clear HO hodd
    generalize (⟨#[b]⟩ : ByteArray) = bb at *
    go_enter Try.func31, Try.ntmps31
    go_wp2_with (fail)
    go_ret
    exact ⟨by rw [HO2.out]; rfl, chain B0 (below_alloc _ _)⟩
  · have HO2 : Hid (bs (outp m st b) = t) := by show _ = _; rw [HO.out, if_neg hodd, List.append_nil, bs_self]
    have hz : q % 2 = 0 := by omega
    rw [hz] at hmd
    clear HO hodd hz
    go_enter Try.func31, Try.ntmps31
    go_wp2_with (fail)
    go_ret
    exact ⟨by rw [HO2.out]; rfl, B0⟩

end Go.Proofs.Ytmmlibehihknbaa.tr

namespace Go.Proofs.Ytmmlibehihknbaa.tr
open Go.ChangeShapes Go.WideShapes Go.ChangeAt Go.RowKit Go.Shelf
set_option linter.unusedVariables false

theorem go_total (m : Mc) (s : Nat) (l : List UInt8) : (go m s l).1.length ≤ (total m s l).length := by
  unfold total
  rw [List.length_append]
  omega
def rrunT (m : Mc) (s : ByteArray) (most : Nat) : ByteArray := if (total m 0 s.data.toList).length ≤ most then bs (total m 0 s.data.toList) else ⟨#[]⟩
def rrunL (m : Mc) (s : ByteArray) (most : Nat) : Bool := decide (most < (total m 0 s.data.toList).length)
def RRunIs (m : Mc) (s : ByteArray) (most : Nat) (t : ByteArray) (l : Bool) : Prop := ∀ p w, MAt (In w) w m p → Calls Try.prog 23 #[.agg (mv m p), .string s, .int .i64 (most : Int)] w fun e w' => e = .returned (.tuple #[.string t, .bool l]) ∧ Below w.heap.size w w'
theorem buf_new (w : World) : Buf w.heap.size (.slice (some ⟨w.heap.size, 0, none⟩) 0 0) [] (w.alloc (.cells #[] 5)) := ⟨⟨rfl, .inr ⟨w.heap.size, 0, #[], rfl, Nat.le_refl _, heap_alloc_new w _, Nat.le_refl _, by unfold maxLen; omega, rfl, rfl⟩⟩, (below_alloc w _).size⟩
set_option maxHeartbeats 4000000 in
set_option maxRecDepth 100000 in
theorem rrun_any (m : Mc) (hR : Right m) (s : ByteArray) (hs : s.size ≤ 9223372036854775807) (most : Nat) (hmost : most ≤ 262144) (t : ByteArray) (l : Bool) (ht : t = rrunT m s most) (hl : l = rrunL m s most) : RRunIs m s most t l := by
  intro p w hM
  obtain ⟨wA, HWA⟩ : ∃ wA, Hid (wA = w.alloc (.cells (mv m p) 32)) := ⟨_, rfl⟩
  have B0 : Below w.heap.size w wA := by rw [HWA.out]; exact below_alloc w _
  have hMA : MAt (In wA) wA m p := hM.later B0
  have hXA : Box wA w.heap.size m p := by rw [HWA.out]; exact box_new w m p
  have hgA := hXA.lt
  have hszA : wA.heap.size = w.heap.size + 1 := by rw [HWA.out]; simp
  have HL : Hid (∀ W, Below wA.heap.size wA W → Box W w.heap.size m p ∧ MAt (Lo wA.heap.size) W m p ∧ MAt (In W) W m p) := fun W b => ⟨hXA.later b, hMA.low b, hMA.later b⟩
  have HTL : Hid ((total m 0 s.data.toList).length ≤ most → t = bs (total m 0 s.data.toList) ∧ l = false) := fun h => ⟨by rw [ht]; unfold rrunT; rw [if_pos h], by rw [hl]; unfold rrunL; exact decide_eq_false (by omega)⟩
  have HTM : Hid (most < (total m 0 s.data.toList).length → t = ⟨#[]⟩ ∧ l = true) := fun h => ⟨by rw [ht]; unfold rrunT; rw [if_neg (by omega)], by rw [hl]; unfold rrunL; exact decide_eq_true h⟩
  have t0 := hM.rnx.fit
  have t1 := hM.rnx.top
  have t4 := hM.ren.fit
  have t5 := hM.ren.top
  have t6 := hM.rtx.fit
  have t7 := hM.rtx.top
  have hB0 := buf_new wA
  have bl0 := below_alloc wA (.cells #[] 5)
  clear hM hMA hXA ht hl
  go_enter Try.func23, Try.ntmps23
  go_wp2_with (fail)
  rw [← HWA.out, ← hszA]
  clear hszA
  go_loopw [8, 9, 10] (fun y z x wr => ∃ (i : Nat) (o1 : List UInt8) (q : Nat), x = .int .i64 i ∧ z = .int .i64 q ∧ i ≤ s.size ∧ Buf wA.heap.size y o1 wr ∧ Below wA.heap.size wA wr ∧ q < m.next.length ∧ o1.length ≤ most ∧ Hid (o1 = (go m 0 (s.data.toList.take i)).1 ∧ q = (go m 0 (s.data.toList.take i)).2)) (fun _ _ x _ => s.size - (intOf x).toNat)
  case atStart => exact ⟨0, [], 0, rfl, rfl, by omega, hB0, bl0, hR.one, by simp, by simp [go], by simp [go]⟩
  case round =>
    obtain ⟨i, o1, q, rfl, rfl, hi, hB1, bl1, hq, hl1, HI⟩ := hrel
    clear hB0 bl0
    obtain ⟨yg, yc, rfl, y1, y2⟩ := hB1.form
    obtain ⟨hXr, hMr, hMi⟩ := HL.out wr bl1
    by_cases hend : i < s.size
    · have c33 := out_any m hR q hq s[i] p wr.drew (hMi.carry (fun _ _ => rfl) (fun _ h => h))
      have k0 := hXr.c0
      have k1 := hXr.c1
      have k2 := hXr.c2
      have k3 := hXr.c3
      have hi2 : i < s.data.toList.length := by rw [list_len]; exact hend
      have HT := (show Hid _ from take_succ_go m 0 s.data.toList i hi2)
      have hol := outp_len hR q s[i]
      have hnl := hR.nx_lt hq s[i].toNat_lt
      have HGI : Hid (s.data.toList[i] = s[i]) := rfl
      rw [HGI.out, ← HI.out.2, ← HI.out.1] at HT
      have hii : (i : Int) < (s.size : Int) := by omega
      have HNX : Hid (∀ W, Below wA.heap.size wA W → ∃ pb poff rb roff rc, p.no = some ⟨pb, poff, none⟩ ∧ W.cell? ⟨w.heap.size, 0, none⟩ = some (.slice p.no m.next.length p.nc) ∧ W.cell? ⟨pb, poff + q, none⟩ = some (.slice (some ⟨rb, roff, none⟩) 256 rc) ∧ W.cell? ⟨rb, roff + s[i].toNat, none⟩ = some (.int .i64 (nx m q s[i].toNat : Int)) ∧ 256 ≤ rc ∧ rc ≤ 9223372036854775807) := fun W bW => by
        obtain ⟨pb, poff, rb, roff, rc, e, k1, k2, k3, k4, k5, k6⟩ := (HL.out W bW).2.1.next_at hR hq s[i].toNat_lt
        exact ⟨pb, poff, rb, roff, rc, e, (HL.out W bW).1.c0, k2, k4, k5, k6⟩
      have hs8 := s[i].toNat_lt
      clear hXr hMr hMi HGI
      have HBU : Hid (∀ W, Below wr.heap.size wr.drew W → Buf wA.heap.size (.slice yg o1.length yc) o1 W) := fun W b => hB1.later (undrew b)
      go_wp2_with (fail)
      go_region_law (first | (refine Buf.step_text (by rfl) (.tmp 18) (.tmp 24) (by rfl) wA.heap.size _ o1 (by rfl) (HBU.out _ b2) (bs (outp m q s[i])) (by rfl) (by rw [bs_size]; omega) ?_; intro v' w3 hb3 b3) | (go_wp2_with (go_at_call 31; refine c33.mono ?_; rintro e w2 ⟨rfl, b2⟩)))
      all_goals
        obtain ⟨vg', vc', hv', v1', v2'⟩ := hb3.form
        subst hv'
        have bl3 : Below wA.heap.size wA w3 := bl1.trans (((undrew b2).mono bl1.size).trans b3)
        obtain ⟨nb, noff, sb, soff, sc, en, n1, n2, n3, n4, n5⟩ := HNX.out w3 bl3
        obtain ⟨no, nc, po, pc, eo, ec, xo, xc⟩ := p
        simp only at en
        subst en
        rw [show (bs (outp m q s[i])).data.toList = outp m q s[i] from rfl, List.length_append] at hb3 v1'
        have HLE : Hid ((o1 ++ outp m q s[i]).length ≤ (total m 0 s.data.toList).length) := by
          have h1 := go_take_le m 0 s.data.toList (i + 1)
          rw [HT.out] at h1
          exact Nat.le_trans h1 (go_total m 0 s.data.toList)
        clear HNX HBU c33 hB1 k0 k1 k2 k3 b2 b3
        generalize hk : nx m q s[i].toNat = k at *
        by_cases hlong : (o1.length + (outp m q s[i]).length) ≤ most
        · have f1 : ¬ (most : Int) < (o1.length : Int) + ((outp m q s[i]).length : Int) := by omega
          have f2 : ¬ most < o1.length + (outp m q s[i]).length := by omega
          go_wp2_with (fail)
          go_quiet (fail)
          go_wp2_with (fail)
          go_roundw
          case rel =>
            refine ⟨i + 1, o1 ++ outp m q s[i], k, by go_num, rfl, by omega, hb3, below_drewN bl3 _, hnl, by rw [List.length_append]; omega, ?_, ?_⟩
            · rw [HT.out]
            · rw [HT.out]
          case measure => simp [intOf]; omega
        · have f1 : (most : Int) < (o1.length : Int) + ((outp m q s[i]).length : Int) := by omega
          have f2 : most < o1.length + (outp m q s[i]).length := by omega
          obtain ⟨rfl, rfl⟩ := HTM.out (by have := HLE.out; rw [List.length_append] at this; omega)
          go_wp2_with (fail)
          go_quiet (fail)
          go_wp2_with (fail)
          go_ret2
          exact ⟨rfl, chain B0 (below_drewN bl3 _)⟩
    · have k2 := hXr.c2
      have k3 := hXr.c3
      obtain ⟨pb, poff, e1, h1, h2⟩ := hMr.fin_at hR hq
      have hqe := hR.en_lt hq
      obtain ⟨xb, xoff, e7, h7, h8⟩ := hMr.tx_at hqe
      have hpl : q < m.fin.length := by rw [hR.fins]; exact hq
      have htl := hR.tx_le (en m q)
      have HE : Hid (o1 ++ (tx m (en m q)).data.toList = total m 0 s.data.toList) := by
        show _ = _
        have h := HI.out
        rw [List.take_of_length_le (by rw [list_len]; omega)] at h
        unfold total
        rw [h.1, h.2]
      obtain ⟨no, nc, po, pc, eo, ec, xo, xc⟩ := p
      simp only at e1 e7
      subst e1 e7
      generalize en m q = k at *
      generalize tx m k = tt at *
      have hz : decide (i < s.size) = false := decide_eq_false hend
      clear hXr hMr hMi HI
      go_wp2_with (fail)
      go_region_law (refine Buf.step_text (by rfl) (.tmp 40) (.tmp 49) (by rfl) wA.heap.size _ o1 (by rfl) hB1.drew tt (by rfl) (by omega) ?_; intro v' w3 hb3 b3; obtain ⟨vg', vc', hv', v1', v2'⟩ := hb3.form; subst hv')
      all_goals
        have hcv := hb3.conv
        have hlen : (o1 ++ tt.data.toList).length = o1.length + tt.size := by rw [List.length_append, list_len]
        rw [hlen] at hcv v1'
        have HLN : Hid ((total m 0 s.data.toList).length = o1.length + tt.size) := by rw [HE.out] at hlen; exact hlen
        rw [HE.out] at hcv
        have bl3 : Below wA.heap.size wA w3 := bl1.trans (undrew b3)
        clear hlen hb3 HE
        by_cases hlong : (total m 0 s.data.toList).length ≤ most
        · obtain ⟨rfl, rfl⟩ := HTL.out hlong
          have f2 : ¬ most < o1.length + tt.size := by rw [← HLN.out]; omega
          have f1 : ¬ (most : Int) < (o1.length : Int) + (tt.size : Int) := by omega
          clear hlong HTL HTM
          obtain ⟨tot, HTOT⟩ : ∃ tot, Hid (tot = total m 0 s.data.toList) := ⟨_, rfl⟩
          rw [← HTOT.out] at hcv
          go_wp2_with (fail)
          go_ret2
          exact ⟨by rw [← HTOT.out]; rfl, chain B0 bl3⟩
        · obtain ⟨rfl, rfl⟩ := HTM.out (by omega)
          have f2 : most < o1.length + tt.size := by rw [← HLN.out]; omega
          have f1 : (most : Int) < (o1.length : Int) + (tt.size : Int) := by omega
          clear hlong HTL HTM
          generalize total m 0 s.data.toList = tot at *
          go_wp2_with (fail)
          go_ret2
          exact ⟨rfl, chain B0 bl3⟩
end Go.Proofs.Ytmmlibehihknbaa.tr
