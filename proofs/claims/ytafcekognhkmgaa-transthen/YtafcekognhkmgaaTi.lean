/-
  Contracts over this program: the document's Right as a whole, Out, Run (fretsawref12).
-/
import Derived.Test.YtafcekognhkmgaaTh
namespace Go.Proofs.Ytafcekognhkmgaa.tr
open Go.ChangeShapes Go.WideShapes Go.ChangeAt Go.RowKit Go.Shelf
set_option linter.unusedVariables false

theorem rright_any (m : Mc) (a : Bool) (ha : a = right m) : RightIs 10 m a := by
  by_cases g0 : 1 ≤ m.next.length
  case neg => obtain rfl := not_right ha (fun h => g0 h.one); exact rright_0 m g0
  by_cases g1 : m.next.length ≤ 1200
  case neg => obtain rfl := not_right ha (fun h => g1 h.most); exact rright_1 m g0 g1
  by_cases g2 : m.put.length = m.next.length
  case neg => obtain rfl := not_right ha (fun h => g2 h.puts); exact rright_2 m g0 g1 g2
  by_cases g3 : m.fin.length = m.next.length
  case neg => obtain rfl := not_right ha (fun h => g3 h.fins); exact rright_3 m g0 g1 g2 g3
  by_cases g4 : m.txt.length ≤ 4096
  case neg => obtain rfl := not_right ha (fun h => g4 h.few); exact rright_4 m g0 g1 g2 g3 g4
  exact rright_go m g0 g1 g2 g3 g4 a ha

theorem conv_one (w : World) (b : UInt8) : Sem.run Try.prog (convert 51 9 (.slice (some ⟨w.heap.size, 0, none⟩) 1 1)) (w.alloc (.cells #[.int .u8 (b.toNat : Int)] 5)) = .ok (.string ⟨#[b]⟩) (w.alloc (.cells #[.int .u8 (b.toNat : Int)] 5)) := by
  refine run_convert_bytes_back _ 51 9 5 ⟨w.heap.size, 0, none⟩ 1 [b] Try.underlying51 Try.underlying5 Try.underlying9 fun j hj => ?_
  match j, hj with
  | 0, _ => simp [Addr.add]
  | (j + 1), hj => simp at hj
theorem bs_add (t : ByteArray) (l : List UInt8) : t ++ (⟨l.toArray⟩ : ByteArray) = bs (t.data.toList ++ l) := by
  apply ByteArray.ext
  simp
theorem bs_self (t : ByteArray) : bs t.data.toList = t := by
  apply ByteArray.ext
  simp

def OutIs (m : Mc) (st : Nat) (b : UInt8) : Prop := ∀ p w, MAt (In w) w m p → Calls Try.prog 33 #[.agg (mv m p), .int .i64 (st : Int), .int .u8 (b.toNat : Int)] w fun e w' => e = .returned (.string (bs (outp m st b))) ∧ Below w.heap.size w w'
set_option maxHeartbeats 1000000 in
set_option maxRecDepth 100000 in
theorem out_any (m : Mc) (hR : Right m) (st : Nat) (hst : st < m.next.length) (b : UInt8) : OutIs m st b := by
  intro p w hM
  have B0 := below_alloc w (.cells (mv m p) 26)
  have hM1 := hM.later B0
  have b0 := box_new w m p
  have hb := b.toNat_lt
  obtain ⟨pb, poff, rb, roff, rc, e1, h1, h2, h3, h4, h5, h6⟩ := hM1.put_at hR hst hb
  have hq := hR.pt_lt hst hb
  have HO : Hid (outp m st b = (tx m (pt m st b.toNat / 2)).data.toList ++ (if pt m st b.toNat % 2 = 1 then [b] else [])) := rfl
  obtain ⟨xb, xoff, e7, h7, h8⟩ := hM1.tx_at (k := pt m st b.toNat / 2) (by omega)
  have hx1 := b0.c1
  have hx3 := b0.c3
  have t2 := hM.rpt.fit
  have t3 := hM.rpt.top
  have t6 := hM.rtx.fit
  have t7 := hM.rtx.top
  have hpl : st < m.put.length := by rw [hR.puts]; exact hst
  have htl := hR.tx_le (pt m st b.toNat / 2)
  obtain ⟨no, nc, po, pc, eo, ec, xo, xc⟩ := p
  simp only at e1 e7
  subst e1 e7
  generalize pt m st b.toNat = q at *
  generalize tx m (q / 2) = t at *
  have hd := div2 q
  have hmd := mod2 q
  have hq2 : q / 2 < m.txt.length := by omega
  clear hM hM1 b0
  by_cases hodd : q % 2 = 1
  · rw [hodd] at hmd
    have HO2 : Hid (bs (outp m st b) = t ++ ⟨#[b]⟩) := by show _ = _; rw [HO.out, if_pos hodd, bs_add]
    have hcv := conv_one (w.alloc (.cells (mv m ⟨no, nc, some ⟨pb, poff, none⟩, pc, eo, ec, some ⟨xb, xoff, none⟩, xc⟩) 26)) b
    rw [show (w.alloc (.cells (mv m ⟨no, nc, some ⟨pb, poff, none⟩, pc, eo, ec, some ⟨xb, xoff, none⟩, xc⟩) 26)).heap.size = w.heap.size + 1 by simp] at hcv
    have hno : ¬ 9223372036854775807 < t.size + (⟨#[b]⟩ : ByteArray).size := by
      rw [show (⟨#[b]⟩ : ByteArray).size = 1 from rfl]; omega
    clear HO hodd
    generalize (⟨#[b]⟩ : ByteArray) = bb at *
    go_enter Try.func33, Try.ntmps33
    go_wp2_with (fail)
    go_ret
    exact ⟨by rw [HO2.out]; rfl, chain B0 (below_alloc _ _)⟩
  · have HO2 : Hid (bs (outp m st b) = t) := by show _ = _; rw [HO.out, if_neg hodd, List.append_nil, bs_self]
    have hz : q % 2 = 0 := by omega
    rw [hz] at hmd
    clear HO hodd hz
    go_enter Try.func33, Try.ntmps33
    go_wp2_with (fail)
    go_ret
    exact ⟨by rw [HO2.out]; rfl, B0⟩

theorem short_any (s : ByteArray) (n : Nat) (hs : s.size ≤ 9223372036854775807) (hn : n ≤ 100000) (w : World) : Calls Try.prog 15 #[.string s, .int .i64 (n : Int)] w fun e w' => e = .returned (.string (if s.size ≤ n then s else s.extract 0 n)) ∧ w' = w := by
  by_cases h : s.size ≤ n
  · rw [if_pos h]
    go_enter Try.func15, Try.ntmps15
    go_wp2
    go_ret
    exact ⟨rfl, rfl⟩
  · rw [if_neg h]
    have hn2 : n < s.size := by omega
    clear h
    go_enter Try.func15, Try.ntmps15
    go_wp2
    go_ret
    exact ⟨rfl, rfl⟩
end Go.Proofs.Ytafcekognhkmgaa.tr
