/-
  Contracts over this program: the document's Right (fretsawref12).
-/
import Derived.Test.YtmmlibehihknbaaM19
namespace Go.Proofs.Ytmmlibehihknbaa.tr
open Go.ChangeShapes Go.WideShapes Go.ChangeAt Go.RowKit Go.Shelf
set_option linter.unusedVariables false

theorem not_right {m : Mc} {a : Bool} (ha : a = right m) (h : ¬ Right m) : a = false := by
  rw [ha]
  cases e : right m with
  | false => rfl
  | true => exact (h (right_iff.1 e)).elim
/-- what is said of a state -/
def Head (m : Mc) (i : Nat) : Prop := (∀ r, m.next[i]? = some r → r.length = 256) ∧ (∀ r, m.put[i]? = some r → r.length = 256) ∧ (∀ x, m.fin[i]? = some x → 0 ≤ x ∧ x < (m.txt.length : Int))
/-- what is said of a state at a byte -/
def Cell (m : Mc) (i b : Nat) : Prop := (∀ r x, m.next[i]? = some r → r[b]? = some x → 0 ≤ x ∧ x < (m.next.length : Int)) ∧ (∀ r x, m.put[i]? = some r → r[b]? = some x → 0 ≤ x ∧ x < ((2 * m.txt.length : Nat) : Int))
def Upto (m : Mc) (i : Nat) : Prop := ∀ j, j < i → Head m j ∧ ∀ b, b < 256 → Cell m j b
theorem Right.head {m : Mc} (h : Right m) (i : Nat) : Head m i :=
  ⟨fun r e => (h.nxs r (List.mem_of_getElem? e)).1, fun r e => (h.pts r (List.mem_of_getElem? e)).1, fun x e => h.ens x (List.mem_of_getElem? e)⟩
theorem Right.cell {m : Mc} (h : Right m) (i b : Nat) : Cell m i b :=
  ⟨fun r x e e2 => (h.nxs r (List.mem_of_getElem? e)).2 x (List.mem_of_getElem? e2), fun r x e e2 => (h.pts r (List.mem_of_getElem? e)).2 x (List.mem_of_getElem? e2)⟩
theorem right_upto {m : Mc} (g0 : 1 ≤ m.next.length) (g1 : m.next.length ≤ 1200) (g2 : m.put.length = m.next.length) (g3 : m.fin.length = m.next.length) (g4 : m.txt.length ≤ 4096) (g5 : ∀ t ∈ m.txt, t.size ≤ 4096) (h : Upto m m.next.length) : Right m := by
  refine ⟨g0, g1, g2, g3, g4, g5, fun r hr => ?_, fun r hr => ?_, fun x hx => ?_⟩
  · obtain ⟨i, hi, rfl⟩ := List.mem_iff_getElem.1 hr
    have hh := h i hi
    have hl := hh.1.1 _ (List.getElem?_eq_getElem hi)
    refine ⟨hl, fun x hx => ?_⟩
    obtain ⟨b, hb, rfl⟩ := List.mem_iff_getElem.1 hx
    exact (hh.2 b (by omega)).1 _ _ (List.getElem?_eq_getElem hi) (List.getElem?_eq_getElem hb)
  · obtain ⟨i, hi, rfl⟩ := List.mem_iff_getElem.1 hr
    have hh := h i (by omega)
    have hl := hh.1.2.1 _ (List.getElem?_eq_getElem hi)
    refine ⟨hl, fun x hx => ?_⟩
    obtain ⟨b, hb, rfl⟩ := List.mem_iff_getElem.1 hx
    exact (hh.2 b (by omega)).2 _ _ (List.getElem?_eq_getElem hi) (List.getElem?_eq_getElem hb)
  · obtain ⟨i, hi, rfl⟩ := List.mem_iff_getElem.1 hx
    exact (h i (by omega)).1.2.2 _ (List.getElem?_eq_getElem hi)

set_option maxHeartbeats 1000000 in
set_option maxRecDepth 100000 in
theorem rright_0 (m : Mc)  (g0 : ¬ 1 ≤ m.next.length) : RightIs 18 m false := by
  intro p w hM
  have B0 := below_alloc w (.cells (mv m p) 32)
  have hM1 := hM.later B0
  have b0 := box_new w m p
  have k0 := b0.c0
  have k1 := b0.c1
  have k2 := b0.c2
  have k3 := b0.c3
  have t0 := hM.rnx.fit
  have t1 := hM.rnx.top
  have t2 := hM.rpt.fit
  have t3 := hM.rpt.top
  have t4 := hM.ren.fit
  have t5 := hM.ren.top
  have t6 := hM.rtx.fit
  have t7 := hM.rtx.top
  have f0 : decide ((m.next.length : Int) < 1) = true := decide_eq_true (by omega)
  clear g0 hM hM1 b0
  go_enter Try.func18, Try.ntmps18
  go_wp2_with (fail)
  go_ret
  exact ⟨rfl, B0⟩
set_option maxHeartbeats 1000000 in
set_option maxRecDepth 100000 in
theorem rright_1 (m : Mc) (g0 : 1 ≤ m.next.length) (g1 : ¬ m.next.length ≤ 1200) : RightIs 18 m false := by
  intro p w hM
  have B0 := below_alloc w (.cells (mv m p) 32)
  have hM1 := hM.later B0
  have b0 := box_new w m p
  have k0 := b0.c0
  have k1 := b0.c1
  have k2 := b0.c2
  have k3 := b0.c3
  have t0 := hM.rnx.fit
  have t1 := hM.rnx.top
  have t2 := hM.rpt.fit
  have t3 := hM.rpt.top
  have t4 := hM.ren.fit
  have t5 := hM.ren.top
  have t6 := hM.rtx.fit
  have t7 := hM.rtx.top
  have f0 : decide ((m.next.length : Int) < 1) = false := decide_eq_false (by omega)
  have f1 : decide ((1200 : Int) < (m.next.length : Int)) = true := decide_eq_true (by omega)
  clear g0 g1 hM hM1 b0
  go_enter Try.func18, Try.ntmps18
  go_wp2_with (fail)
  go_ret
  exact ⟨rfl, B0⟩
set_option maxHeartbeats 1000000 in
set_option maxRecDepth 100000 in
theorem rright_2 (m : Mc) (g0 : 1 ≤ m.next.length) (g1 : m.next.length ≤ 1200) (g2 : ¬ m.put.length = m.next.length) : RightIs 18 m false := by
  intro p w hM
  have B0 := below_alloc w (.cells (mv m p) 32)
  have hM1 := hM.later B0
  have b0 := box_new w m p
  have k0 := b0.c0
  have k1 := b0.c1
  have k2 := b0.c2
  have k3 := b0.c3
  have t0 := hM.rnx.fit
  have t1 := hM.rnx.top
  have t2 := hM.rpt.fit
  have t3 := hM.rpt.top
  have t4 := hM.ren.fit
  have t5 := hM.ren.top
  have t6 := hM.rtx.fit
  have t7 := hM.rtx.top
  have f0 : decide ((m.next.length : Int) < 1) = false := decide_eq_false (by omega)
  have f1 : decide ((1200 : Int) < (m.next.length : Int)) = false := decide_eq_false (by omega)
  have ⟨f2, f2b⟩ := bfalse g2
  clear g0 g1 g2 hM hM1 b0
  go_enter Try.func18, Try.ntmps18
  go_wp2_with (fail)
  go_ret
  exact ⟨rfl, B0⟩
set_option maxHeartbeats 1000000 in
set_option maxRecDepth 100000 in
theorem rright_3 (m : Mc) (g0 : 1 ≤ m.next.length) (g1 : m.next.length ≤ 1200) (g2 : m.put.length = m.next.length) (g3 : ¬ m.fin.length = m.next.length) : RightIs 18 m false := by
  intro p w hM
  have B0 := below_alloc w (.cells (mv m p) 32)
  have hM1 := hM.later B0
  have b0 := box_new w m p
  have k0 := b0.c0
  have k1 := b0.c1
  have k2 := b0.c2
  have k3 := b0.c3
  have t0 := hM.rnx.fit
  have t1 := hM.rnx.top
  have t2 := hM.rpt.fit
  have t3 := hM.rpt.top
  have t4 := hM.ren.fit
  have t5 := hM.ren.top
  have t6 := hM.rtx.fit
  have t7 := hM.rtx.top
  have f0 : decide ((m.next.length : Int) < 1) = false := decide_eq_false (by omega)
  have f1 : decide ((1200 : Int) < (m.next.length : Int)) = false := decide_eq_false (by omega)
  have ⟨f2, f2b⟩ := btrue g2
  have ⟨f3, f3b⟩ := bfalse g3
  clear g0 g1 g2 g3 hM hM1 b0
  go_enter Try.func18, Try.ntmps18
  go_wp2_with (fail)
  go_ret
  exact ⟨rfl, B0⟩
set_option maxHeartbeats 1000000 in
set_option maxRecDepth 100000 in
theorem rright_4 (m : Mc) (g0 : 1 ≤ m.next.length) (g1 : m.next.length ≤ 1200) (g2 : m.put.length = m.next.length) (g3 : m.fin.length = m.next.length) (g4 : ¬ m.txt.length ≤ 4096) : RightIs 18 m false := by
  intro p w hM
  have B0 := below_alloc w (.cells (mv m p) 32)
  have hM1 := hM.later B0
  have b0 := box_new w m p
  have k0 := b0.c0
  have k1 := b0.c1
  have k2 := b0.c2
  have k3 := b0.c3
  have t0 := hM.rnx.fit
  have t1 := hM.rnx.top
  have t2 := hM.rpt.fit
  have t3 := hM.rpt.top
  have t4 := hM.ren.fit
  have t5 := hM.ren.top
  have t6 := hM.rtx.fit
  have t7 := hM.rtx.top
  have f0 : decide ((m.next.length : Int) < 1) = false := decide_eq_false (by omega)
  have f1 : decide ((1200 : Int) < (m.next.length : Int)) = false := decide_eq_false (by omega)
  have ⟨f2, f2b⟩ := btrue g2
  have ⟨f3, f3b⟩ := btrue g3
  have f4 : decide ((4096 : Int) < (m.txt.length : Int)) = true := decide_eq_true (by omega)
  clear g0 g1 g2 g3 g4 hM hM1 b0
  go_enter Try.func18, Try.ntmps18
  go_wp2_with (fail)
  go_ret
  exact ⟨rfl, B0⟩
set_option maxHeartbeats 8000000 in
set_option maxRecDepth 100000 in
theorem rright_go (m : Mc) (g0 : 1 ≤ m.next.length) (g1 : m.next.length ≤ 1200) (g2 : m.put.length = m.next.length) (g3 : m.fin.length = m.next.length) (g4 : m.txt.length ≤ 4096) (a : Bool) (ha : a = right m) : RightIs 18 m a := by
  intro p w hM
  have B0 := below_alloc w (.cells (mv m p) 32)
  have hM1 := hM.later B0
  have b0 := box_new w m p
  have k0 := b0.c0
  have k1 := b0.c1
  have k2 := b0.c2
  have k3 := b0.c3
  have t0 := hM.rnx.fit
  have t1 := hM.rnx.top
  have t2 := hM.rpt.fit
  have t3 := hM.rpt.top
  have t4 := hM.ren.fit
  have t5 := hM.ren.top
  have t6 := hM.rtx.fit
  have t7 := hM.rtx.top
  have HU : Hid ((∀ t ∈ m.txt, t.size ≤ 4096) → Upto m m.next.length → a = true) := fun g5 h => by rw [ha]; exact right_iff.2 (right_upto g0 g1 g2 g3 g4 g5 h)
  have HN : Hid (¬ Right m → a = false) := not_right ha
  have f0 : decide ((m.next.length : Int) < 1) = false := decide_eq_false (by omega)
  have f1 : decide ((1200 : Int) < (m.next.length : Int)) = false := decide_eq_false (by omega)
  have ⟨f2, f2b⟩ := btrue g2
  have ⟨f3, f3b⟩ := btrue g3
  have f4 : decide ((4096 : Int) < (m.txt.length : Int)) = false := decide_eq_false (by omega)
  have G2 : Hid (m.put.length = m.next.length) := g2
  have G3 : Hid (m.fin.length = m.next.length) := g3
  have HM : Hid (MAt (In (w.alloc (.cells (mv m p) 32))) (w.alloc (.cells (mv m p) 32)) m p) := hM1
  obtain ⟨no, nc, po, pc, eo, ec, xo, xc⟩ := p
  clear g2 g3 hM hM1 b0 ha
  go_enter Try.func18, Try.ntmps18
  go_wp2_with (fail)
  go_loopw [40] (fun x wr => ∃ i : Nat, x = .int .i64 i ∧ i ≤ m.txt.length ∧ wr = w.alloc (.cells (mv m ⟨no, nc, po, pc, eo, ec, xo, xc⟩) 32) ∧ Hid (∀ t ∈ m.txt.take i, t.size ≤ 4096)) (fun x _ => m.txt.length - (intOf x).toNat)
  case atStart => exact ⟨0, rfl, by omega, rfl, fun t ht => by simp at ht⟩
  case round =>
    obtain ⟨i, rfl, hi, rfl, HI⟩ := hrel
    by_cases hend : i < m.txt.length
    · obtain ⟨xb, xoff, e, hxb, hc⟩ := HM.out.rtx.lie i hend
      simp only at e
      subst e
      have HT : Hid (m.txt[i].size ≤ 4096 → ∀ t ∈ m.txt.take (i + 1), t.size ≤ 4096) := fun h t ht => by
        rw [List.take_add_one, List.getElem?_eq_getElem hend] at ht
        rcases List.mem_append.1 ht with ht | ht
        · exact HI.out t ht
        · simp at ht; rw [ht]; exact h
      have HF : Hid (¬ m.txt[i].size ≤ 4096 → a = false) := fun h => HN.out (fun r => h (r.fit _ (List.getElem_mem hend)))
      generalize m.txt[i] = t at *
      by_cases h4 : t.size ≤ 4096
      · have q : ¬ (4096 : Int) < (t.size : Int) := by omega
        have HT2 : Hid (∀ t ∈ m.txt.take (i + 1), t.size ≤ 4096) := HT.out h4
        clear HT HF h4
        go_wp2_with (fail)
        go_roundw
        case rel => exact ⟨i + 1, by go_num, by omega, trivial, HT2⟩
        case measure => simp [intOf]; omega
      · have q : (4096 : Int) < (t.size : Int) := by omega
        have HF2 : Hid (a = false) := HF.out h4
        clear HT HF h4
        go_wp2_with (fail)
        go_ret
        exact ⟨by rw [HF2.out]; rfl, B0⟩
    · have HT : Hid (∀ t ∈ m.txt, t.size ≤ 4096) := by
        have h := HI.out
        rw [List.take_of_length_le (by omega)] at h
        exact h
      clear HI
      go_wp2_with (fail)
      go_loopw [6] (fun x wr => ∃ i : Nat, x = .int .i64 i ∧ i ≤ m.next.length ∧ Below (w.alloc (.cells (mv m ⟨no, nc, po, pc, eo, ec, xo, xc⟩) 32)).heap.size (w.alloc (.cells (mv m ⟨no, nc, po, pc, eo, ec, xo, xc⟩) 32)) wr ∧ Hid (Upto m i)) (fun x _ => m.next.length - (intOf x).toNat)
      case atStart => exact ⟨0, rfl, by omega, Below.refl _ _, fun j hj => by omega⟩
      case round =>
        obtain ⟨i, rfl, hi, bl, HP⟩ := hrel
        have HW : Hid (∀ q : Addr, q.block < (w.alloc (.cells (mv m ⟨no, nc, po, pc, eo, ec, xo, xc⟩) 32)).heap.size → wr.cell? q = (w.alloc (.cells (mv m ⟨no, nc, po, pc, eo, ec, xo, xc⟩) 32)).cell? q) := fun q hq => bl.cell hq
        have hg : w.heap.size < (w.alloc (.cells (mv m ⟨no, nc, po, pc, eo, ec, xo, xc⟩) 32)).heap.size := by simp
        have k0r := (HW.out ⟨w.heap.size, 0, none⟩ hg).trans k0
        have k1r := (HW.out ⟨w.heap.size, 1, none⟩ hg).trans k1
        have k2r := (HW.out ⟨w.heap.size, 2, none⟩ hg).trans k2
        have k3r := (HW.out ⟨w.heap.size, 3, none⟩ hg).trans k3
        by_cases hie : i < m.next.length
        · have hip : i < m.put.length := by have := G2.out; omega
          have hif : i < m.fin.length := by have := G3.out; omega
          obtain ⟨nb, noff, oi, ci, e, hnb, hnc, hnr⟩ := HM.out.rnx.lie i hie
          simp only at e
          subst e
          obtain ⟨pb, poff, oj, cj, e, hpb, hpc, hpr⟩ := HM.out.rpt.lie i hip
          simp only at e
          subst e
          obtain ⟨eb, eoff, e, heb, hec⟩ := HM.out.ren.lie i hif
          simp only at e
          subst e
          have hnc := (HW.out ⟨nb, noff + i, none⟩ hnb).trans hnc
          have hpc := (HW.out ⟨pb, poff + i, none⟩ hpb).trans hpc
          have hec := (HW.out ⟨eb, eoff + i, none⟩ heb).trans hec
          have HNR : Hid (∀ b (h : b < m.next[i].length), ∃ q off, oi = some ⟨q, off, none⟩ ∧ wr.cell? ⟨q, off + b, none⟩ = some (.int .i64 m.next[i][b])) := fun b h => by
            obtain ⟨q, off, e, h1, h2⟩ := hnr.lie b h
            exact ⟨q, off, e, (HW.out ⟨q, off + b, none⟩ h1).trans h2⟩
          have HPR : Hid (∀ b (h : b < m.put[i].length), ∃ q off, oj = some ⟨q, off, none⟩ ∧ wr.cell? ⟨q, off + b, none⟩ = some (.int .i64 m.put[i][b])) := fun b h => by
            obtain ⟨q, off, e, h1, h2⟩ := hpr.lie b h
            exact ⟨q, off, e, (HW.out ⟨q, off + b, none⟩ h1).trans h2⟩
          have n1 := hnr.fit
          have n2 := hnr.top
          have p1 := hpr.fit
          have p2 := hpr.top
          have HNL : Hid (¬ m.next[i].length = 256 → a = false) := fun h => HN.out (fun r => h ((r.head i).1 _ (List.getElem?_eq_getElem hie)))
          have HPL : Hid (¬ m.put[i].length = 256 → a = false) := fun h => HN.out (fun r => h ((r.head i).2.1 _ (List.getElem?_eq_getElem hip)))
          have HFL : Hid (¬ (0 ≤ m.fin[i] ∧ m.fin[i] < (m.txt.length : Int)) → a = false) := fun h => HN.out (fun r => h ((r.head i).2.2 _ (List.getElem?_eq_getElem hif)))
          have HNC : Hid (∀ b (h : b < m.next[i].length), ¬ (0 ≤ m.next[i][b] ∧ m.next[i][b] < (m.next.length : Int)) → a = false) := fun b hb h => HN.out (fun r => h ((r.cell i b).1 _ _ (List.getElem?_eq_getElem hie) (List.getElem?_eq_getElem hb)))
          have HPC : Hid (∀ b (h : b < m.put[i].length), ¬ (0 ≤ m.put[i][b] ∧ m.put[i][b] < ((2 * m.txt.length : Nat) : Int)) → a = false) := fun b hb h => HN.out (fun r => h ((r.cell i b).2 _ _ (List.getElem?_eq_getElem hip) (List.getElem?_eq_getElem hb)))
          have HHD : Hid (m.next[i].length = 256 → m.put[i].length = 256 → 0 ≤ m.fin[i] ∧ m.fin[i] < (m.txt.length : Int) → Head m i) := fun h1 h2 h3 => ⟨fun r e => by rw [List.getElem?_eq_getElem hie] at e; cases e; exact h1, fun r e => by rw [List.getElem?_eq_getElem hip] at e; cases e; exact h2, fun r e => by rw [List.getElem?_eq_getElem hif] at e; cases e; exact h3⟩
          have HCL : Hid (∀ b (h : b < m.next[i].length) (h' : b < m.put[i].length), (0 ≤ m.next[i][b] ∧ m.next[i][b] < (m.next.length : Int)) → (0 ≤ m.put[i][b] ∧ m.put[i][b] < ((2 * m.txt.length : Nat) : Int)) → Cell m i b) := fun b hb hb' h1 h2 => ⟨fun r x e e2 => by rw [List.getElem?_eq_getElem hie] at e; cases e; rw [List.getElem?_eq_getElem hb] at e2; cases e2; exact h1, fun r x e e2 => by rw [List.getElem?_eq_getElem hip] at e; cases e; rw [List.getElem?_eq_getElem hb'] at e2; cases e2; exact h2⟩
          clear HW hnr hpr
          generalize m.next[i] = rn at *
          generalize m.put[i] = rp at *
          generalize m.fin[i] = x at *
          by_cases g1a : rn.length = 256
          case neg =>
            have q1 : ((rn.length : Int) == 256) = false := beq_eq_false_iff_ne.2 (by omega)
            have q2 : ((rn.length : Int) != 256) = true := bne_iff_ne.2 (by omega)
            have HF2 : Hid (a = false) := HNL.out g1a
            clear HNL HPL HFL HNC HPC HHD HCL HNR HPR g1a
            go_wp2_with (fail)
            go_quiet (fail)
            go_wp2_with (fail)
            go_ret
            exact ⟨by rw [HF2.out]; rfl, chain B0 (below_drewN bl _)⟩
          have q1 : ((rn.length : Int) == 256) = true := beq_iff_eq.2 (by omega)
          have q2 : ((rn.length : Int) != 256) = false := by rw [bne, q1]; rfl
          by_cases g2a : rp.length = 256
          case neg =>
            have q3 : ((rp.length : Int) == 256) = false := beq_eq_false_iff_ne.2 (by omega)
            have q4 : ((rp.length : Int) != 256) = true := bne_iff_ne.2 (by omega)
            have HF2 : Hid (a = false) := HPL.out g2a
            clear HNL HPL HFL HNC HPC HHD HCL HNR HPR g1a
            go_wp2_with (fail)
            go_quiet (fail)
            go_wp2_with (fail)
            go_ret
            exact ⟨by rw [HF2.out]; rfl, chain B0 (below_drewN bl _)⟩
          have q3 : ((rp.length : Int) == 256) = true := beq_iff_eq.2 (by omega)
          have q4 : ((rp.length : Int) != 256) = false := by rw [bne, q3]; rfl
          by_cases g3a : x < 0
          case pos =>
            have q5 : decide (x < 0) = true := decide_eq_true g3a
            clear g2a
            have HF2 : Hid (a = false) := HFL.out (by omega)
            clear HNL HPL HFL HNC HPC HHD HCL HNR HPR g1a
            go_wp2_with (fail)
            go_quiet (fail)
            go_wp2_with (fail)
            go_ret
            exact ⟨by rw [HF2.out]; rfl, chain B0 (below_drewN bl _)⟩
          have q5 : decide (x < 0) = false := decide_eq_false g3a
          by_cases g4a : (m.txt.length : Int) ≤ x
          case pos =>
            have q6 : decide ((m.txt.length : Int) ≤ x) = true := decide_eq_true g4a
            clear g2a
            have HF2 : Hid (a = false) := HFL.out (by omega)
            clear HNL HPL HFL HNC HPC HHD HCL HNR HPR g1a
            go_wp2_with (fail)
            go_quiet (fail)
            go_wp2_with (fail)
            go_ret
            exact ⟨by rw [HF2.out]; rfl, chain B0 (below_drewN bl _)⟩
          have q6 : decide ((m.txt.length : Int) ≤ x) = false := decide_eq_false g4a
          have HD2 : Hid (Head m i) := HHD.out g1a g2a (by omega)
          have hrn : 256 ≤ rn.length := by omega
          have hrp : 256 ≤ rp.length := by omega
          clear HNL HPL HFL HHD g1a g2a g3a g4a
          go_wp2_with (fail)
          go_quiet (fail)
          go_wp2_with (fail)
          obtain ⟨w0, rfl⟩ : ∃ w0 : World, w0 = wr := ⟨_, rfl⟩
          go_loopw [7] (fun y wr => ∃ b : Nat, y = .int .i64 b ∧ b ≤ 256 ∧ Hid (wr.heap = w0.heap) ∧ Below (w.alloc (.cells (mv m ⟨some ⟨nb, noff, none⟩, nc, some ⟨pb, poff, none⟩, pc, some ⟨eb, eoff, none⟩, ec, xo, xc⟩) 32)).heap.size (w.alloc (.cells (mv m ⟨some ⟨nb, noff, none⟩, nc, some ⟨pb, poff, none⟩, pc, some ⟨eb, eoff, none⟩, ec, xo, xc⟩) 32)) wr ∧ Hid (∀ b', b' < b → Cell m i b')) (fun y _ => 256 - (intOf y).toNat)
          case atStart => exact ⟨0, rfl, by omega, rfl, below_drewN bl _, fun b' h => by omega⟩
          case round =>
            obtain ⟨b, rfl, hb, HH, bl2, HC⟩ := hrel
            have HQ : Hid (∀ q : Addr, wr.cell? q = w0.cell? q) := fun q => by unfold World.cell?; rw [HH.out]
            have k0s := (HQ.out ⟨w.heap.size, 0, none⟩).trans k0r
            have k1s := (HQ.out ⟨w.heap.size, 1, none⟩).trans k1r
            have k3s := (HQ.out ⟨w.heap.size, 3, none⟩).trans k3r
            have hncs := (HQ.out ⟨nb, noff + i, none⟩).trans hnc
            have hpcs := (HQ.out ⟨pb, poff + i, none⟩).trans hpc
            clear k0 k1 k2 k3 k0r k1r k2r k3r hnc hpc hec
            by_cases hbe : b < 256
            · obtain ⟨nq1, nq2, e, hcn⟩ := HNR.out b (by omega)
              subst e
              obtain ⟨pq1, pq2, e, hcp⟩ := HPR.out b (by omega)
              subst e
              have hcn := (HQ.out ⟨nq1, nq2 + b, none⟩).trans hcn
              have hcp := (HQ.out ⟨pq1, pq2 + b, none⟩).trans hcp
              have HC1 := (show Hid _ from HNC.out b (by omega))
              have HC2 := (show Hid _ from HPC.out b (by omega))
              have HC3 := (show Hid _ from HCL.out b (by omega) (by omega))
              have hb1 : b < rn.length := by omega
              have hb2 : b < rp.length := by omega
              generalize rn[b] = y at *
              generalize rp[b] = z at *
              clear HNC HPC HCL HNR HPR
              by_cases j1 : y < 0
              case pos =>
                have r1 : decide (y < 0) = true := decide_eq_true j1
                have HF2 : Hid (a = false) := HC1.out (by omega)
                clear HC1 HC2 HC3 j1
                go_wp2_with (fail)
                go_quiet (fail)
                go_wp2_with (fail)
                go_ret
                exact ⟨by rw [HF2.out]; rfl, chain B0 (below_drewN bl2 _)⟩
              have r1 : decide (y < 0) = false := decide_eq_false j1
              by_cases j2 : (m.next.length : Int) ≤ y
              case pos =>
                have r2 : decide ((m.next.length : Int) ≤ y) = true := decide_eq_true j2
                have HF2 : Hid (a = false) := HC1.out (by omega)
                clear HC1 HC2 HC3 j1 j2
                go_wp2_with (fail)
                go_quiet (fail)
                go_wp2_with (fail)
                go_ret
                exact ⟨by rw [HF2.out]; rfl, chain B0 (below_drewN bl2 _)⟩
              have r2 : decide ((m.next.length : Int) ≤ y) = false := decide_eq_false j2
              by_cases j3 : z < 0
              case pos =>
                have r3 : decide (z < 0) = true := decide_eq_true j3
                have HF2 : Hid (a = false) := HC2.out (by omega)
                clear HC1 HC2 HC3 j1 j2 j3
                go_wp2_with (fail)
                go_quiet (fail)
                go_wp2_with (fail)
                go_ret
                exact ⟨by rw [HF2.out]; rfl, chain B0 (below_drewN bl2 _)⟩
              have r3 : decide (z < 0) = false := decide_eq_false j3
              by_cases j4 : 2 * (m.txt.length : Int) ≤ z
              case pos =>
                have r4 : decide (2 * (m.txt.length : Int) ≤ z) = true := decide_eq_true j4
                have HF2 : Hid (a = false) := HC2.out (by omega)
                clear HC1 HC2 HC3 j1 j2 j3 j4
                go_wp2_with (fail)
                go_quiet (fail)
                go_wp2_with (fail)
                go_ret
                exact ⟨by rw [HF2.out]; rfl, chain B0 (below_drewN bl2 _)⟩
              have r4 : decide (2 * (m.txt.length : Int) ≤ z) = false := decide_eq_false j4
              have HC4 : Hid (∀ b', b' < b + 1 → Cell m i b') := fun b' h => by
                rcases Nat.lt_succ_iff_lt_or_eq.1 h with h | h
                · exact HC.out b' h
                · subst h; exact HC3.out (by omega) (by omega)
              clear HC1 HC2 HC3 j1 j2 j3 j4
              go_wp2_with (fail)
              go_quiet (fail)
              go_wp2_with (fail)
              go_roundw
              case rel => exact ⟨b + 1, by go_num, by omega, HH, below_drewN bl2 _, HC4⟩
              case measure => simp [intOf]; omega
            · have HP2 : Hid (Upto m (i + 1)) := fun j hj => by
                rcases Nat.lt_succ_iff_lt_or_eq.1 hj with h | h
                · exact HP.out j h
                · subst h; exact ⟨HD2.out, fun b' hb' => HC.out b' (by omega)⟩
              go_wp2_with (fail)
              go_roundw
              case rel => exact ⟨i + 1, by go_num, by omega, bl2, HP2⟩
              case measure => simp [intOf]; omega
        · have HE : Hid (a = true) := by
            have : i = m.next.length := by omega
            subst this
            exact HU.out HT.out HP.out
          go_wp2_with (fail)
          go_ret
          exact ⟨by rw [HE.out]; rfl, chain B0 bl⟩
end Go.Proofs.Ytmmlibehihknbaa.tr
