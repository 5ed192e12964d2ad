/-
  Contracts over this program: which states of a machine are reached (the document's Reached).
-/
import Derived.Test.YtafcekognhkmgaaKTo
import Derived.Sort.LoopGhostIn
namespace Go.Proofs.Ytafcekognhkmgaa.tr
open Go.ChangeShapes Go.WideShapes Go.ChangeAt Go.RowKit
set_option linter.unusedVariables false
set_option maxRecDepth 10000

def zeros (M : List Int) : Nat := M.count 0
theorem zeros_set (M : List Int) (i : Nat) (h : i < M.length) (h0 : M[i] = 0) : zeros (M.set i 1) < zeros M := by
  unfold zeros
  rw [List.count_set h]
  have : 0 < M.count 0 := List.count_pos_iff.2 (h0 ▸ List.getElem_mem h)
  simp [h0]
  omega
/-- the marks so far are closed up to a state and a byte -/
def ClsTo (m : Mc) (M : List Int) (i b : Nat) : Prop := ∀ i' b', (i' < i ∨ i' = i ∧ b' < b) → b' < 256 → M[i']? = some 1 → M[nx m i' b']? = some 1
structure Mks (m : Mc) (M : List Int) : Prop where
  len : M.length = m.next.length
  two : ∀ i (h : i < M.length), M[i] = 0 ∨ M[i] = 1
  one : M[0]? = some 1
  rch : ∀ i, M[i]? = some 1 → Rch m i
theorem Mks.set {m : Mc} {M : List Int} (h : Mks m M) (j : Nat) (hr : Rch m j) : Mks m (M.set j 1) :=
  ⟨by rw [List.length_set]; exact h.len, fun i hi => by
    rw [List.getElem_set]
    by_cases e : j = i
    · rw [if_pos e]; exact .inr rfl
    · rw [if_neg e]; exact h.two i (by simpa using hi), by
    by_cases e : j = 0
    · subst e
      have := (List.getElem?_eq_some_iff.1 h.one).1
      rw [List.getElem?_set_self this]
    · rw [List.getElem?_set_ne e]; exact h.one, fun i hi => by
    by_cases e : j = i
    · subst e; exact hr
    · rw [List.getElem?_set_ne e] at hi; exact h.rch i hi⟩
theorem Mks.all {m : Mc} {M : List Int} (h : Mks m M) (hc : ClsTo m M m.next.length 0) (hR : Right m) : ∀ s, Rch m s ↔ M[s]? = some 1 := by
  intro s
  constructor
  · intro r
    induction r with
    | zero => exact h.one
    | step r hb ih => exact hc _ _ (.inl (r.lt hR)) hb ih
  · exact h.rch s
theorem cls_step {m : Mc} {M : List Int} {i b : Nat} (h : ClsTo m M i b) (hk : M[i]? = some 1 → M[nx m i b]? = some 1) : ClsTo m M i (b + 1) := fun i' b' hh hb hm => by
  rcases hh with h1 | ⟨h1, h2⟩
  · exact h i' b' (.inl h1) hb hm
  · by_cases e : b' = b
    · subst e h1; exact hk hm
    · exact h i' b' (.inr ⟨h1, by omega⟩) hb hm
theorem cls_row {m : Mc} {M : List Int} {i : Nat} (h : ClsTo m M i 256) : ClsTo m M (i + 1) 0 := fun i' b' hh hb hm => by
  rcases hh with h1 | ⟨h1, h2⟩
  · by_cases e : i' = i
    · exact h i' b' (.inr ⟨e, hb⟩) hb hm
    · exact h i' b' (.inl (by omega)) hb hm
  · omega
theorem zeros_lt (M : List Int) (i : Nat) (h : M[i]? = some 0) : zeros (M.set i 1) < zeros M := by
  obtain ⟨h1, h2⟩ := List.getElem?_eq_some_iff.1 h
  exact zeros_set M i h1 h2
theorem get_one {M : List Int} {i : Nat} (h : i < M.length) {v : Int} (e : M[i] = v) : M[i]? = some v := by rw [List.getElem?_eq_getElem h, e]
/-- a row of Next, at every byte -/
theorem MAt.next_all {w : World} {B : Nat} {m : Mc} {p : Mp} (h : MAt (Lo B) w m p) (hR : Right m) {s : Nat} (hs : s < m.next.length) :
    ∃ pb poff rb roff rc, p.no = some ⟨pb, poff, none⟩ ∧ pb < B ∧ w.cell? ⟨pb, poff + s, none⟩ = some (.slice (some ⟨rb, roff, none⟩) 256 rc) ∧ rb < B ∧ 256 ≤ rc ∧ rc ≤ 9223372036854775807 ∧ ∀ b, b < 256 → w.cell? ⟨rb, roff + b, none⟩ = some (.int .i64 (nx m s b : Nat)) := by
  obtain ⟨pb, poff, rb, roff, rc, e1, h1, h2, h3, h4, h5, h6⟩ := h.next_at hR hs (b := 0) (by omega)
  refine ⟨pb, poff, rb, roff, rc, e1, h1, h2, h3, h5, h6, fun b hb => ?_⟩
  obtain ⟨pb', poff', rb', roff', rc', e', a1, a2, a3, a4, _, _⟩ := h.next_at hR hs hb
  rw [e1] at e'
  simp only [Option.some.injEq, Addr.mk.injEq, and_true] at e'
  obtain ⟨rfl, rfl⟩ := e'
  rw [h2] at a2
  simp only [Option.some.injEq, Value.slice.injEq, Addr.mk.injEq, and_true, true_and] at a2
  obtain ⟨⟨rfl, rfl⟩, _⟩ := a2
  exact a4
def RchOut (m : Mc) (w : World) (e : Ending) (w' : World) : Prop := ∃ g M, e = .returned (.slice (some ⟨g, 0, none⟩) m.next.length m.next.length) ∧ IRow w' g M ∧ M.length = m.next.length ∧ (∀ i (h : i < M.length), M[i] = 0 ∨ M[i] = 1) ∧ (∀ s, Rch m s ↔ M[s]? = some 1) ∧ w.heap.size ≤ g ∧ Below w.heap.size w w'
structure Rc (w : World) (m : Mc) (p : Mp) (M : List Int) (wr : World) : Prop where
  be : Below w.heap.size w wr
  bx : Box wr w.heap.size m p
  ir : IRow wr (w.heap.size + 1) M
set_option maxHeartbeats 4000000 in
set_option maxRecDepth 100000 in
theorem rreached_any (m : Mc) (hR : Right m) (p : Mp) (w : World) (hM : MAt (In w) w m p) : Calls Try.prog 49 #[.agg (mv m p)] w (RchOut m w) := by
  have b0 := box_new w m p
  have B0 := below_alloc w (.cells (mv m p) 26)
  have hn1 := hR.one
  have hn4 := hR.most
  have HRR := (show Hid (Right m) from hR)
  have HML := (show Hid (∀ W, Below w.heap.size w W → MAt (Lo w.heap.size) W m p) from fun W b => hM.carry (fun k hk => b.block k hk) (fun _ h => h))
  have mk := make23 m.next.length (by omega)
  have nx0 := b0.c0
  have hfit := hM.rnx.fit
  have htop := hM.rnx.top
  have I0 := irow_new (w.alloc (.cells (mv m p) 26)) (List.replicate m.next.length 0)
  rw [World.size_alloc] at I0
  have HIC := (show Hid ((icells (List.replicate m.next.length 0)).setIfInBounds 0 (.int .i64 1) = icells ((List.replicate m.next.length 0).set 0 1)) from by show _ = _; unfold icells; rw [List.setIfInBounds_toArray, List.map_set])
  have HS := (show Hid (Rc w m p ((List.replicate m.next.length 0).set 0 1) ((w.alloc (.cells (mv m p) 26)).alloc (.cells ((icells (List.replicate m.next.length 0)).setIfInBounds 0 (.int .i64 1)) 3))) from ⟨chain B0 (below_alloc _ _), b0.later (below_alloc _ _), by rw [HIC.out]; have := irow_new (w.alloc (.cells (mv m p) 26)) ((List.replicate m.next.length 0).set 0 1); rw [World.size_alloc] at this; exact this⟩)
  have q0 := I0.cell 0 (by simp; omega)
  have q1 := I0.fz 0
  simp only [List.getElem_replicate] at q0
  have HM0 := (show Hid (Mks m ((List.replicate m.next.length 0).set 0 1)) from ⟨by simp, fun i hi => by
    rw [List.getElem_set]
    by_cases e : 0 = i
    · rw [if_pos e]; exact .inr rfl
    · rw [if_neg e]; exact .inl (by simp), by rw [List.getElem?_set_self (by simp; omega)], fun i hi => by
    by_cases e : 0 = i
    · subst e; exact .zero
    · rw [List.getElem?_set_ne e, List.getElem?_replicate] at hi
      split at hi <;> simp at hi⟩)
  have nx1 := (b0.later (below_alloc _ (.cells (icells (List.replicate m.next.length 0)) 3))).c0
  clear hR hM b0 B0 I0
  go_enter Try.func49, Try.ntmps49
  go_wp2_with (fail)
  obtain ⟨w0, HW0⟩ : ∃ w0, Hid (w0 = (w.alloc (.cells (mv m p) 26)).alloc (.cells ((icells (List.replicate m.next.length 0)).setIfInBounds 0 (.int .i64 1)) 3)) := ⟨_, rfl⟩
  rw [← HW0.out] at HS ⊢
  obtain ⟨M0, HM00⟩ : ∃ M0, Hid (M0 = (List.replicate m.next.length (0 : Int)).set 0 1) := ⟨_, rfl⟩
  rw [← HM00.out] at HS HM0
  clear nx0 nx1 q0 q1 mk HW0 HM00 HIC
  go_loopg [4] (zeros M0 + 1) (fun k y wr => ∃ (M : List Int) (more : Bool), y = .bool more ∧ Hid (k = zeros M + if more = true then 1 else 0) ∧ Hid (Mks m M) ∧ Hid (more = false → ClsTo m M m.next.length 0) ∧ Hid (Rc w m p M wr))
  case atStart => exact ⟨M0, true, rfl, rfl, HM0, fun h => by (cases h), HS⟩
  case round =>
    obtain ⟨M1, more, rfl, HK, HM1, HC1, HR1⟩ := hrel
    clear HS HM0
    cases more with
    | false =>
      have HE := (show Hid (∀ s, Rch m s ↔ M1[s]? = some 1) from HM1.out.all (HC1.out rfl) HRR.out)
      clear HC1 HK
      go_wp2_with (fail)
      go_ret
      exact ⟨w.heap.size + 1, M1, rfl, HR1.out.ir, HM1.out.len, HM1.out.two, HE.out, by omega, HR1.out.be⟩
    | true =>
      have e0 := HR1.out.bx.c0
      clear HC1
      go_wp2_with (fail)
      go_loopw [4, 19] (fun y z wr => ∃ (i : Nat) (M : List Int) (ch : Bool), y = .bool ch ∧ z = .int .i64 i ∧ i ≤ m.next.length ∧ Hid (Mks m M) ∧ Hid (ch = true → zeros M < zeros M1) ∧ Hid (ch = false → M = M1 ∧ ClsTo m M i 0) ∧ Hid (zeros M ≤ zeros M1) ∧ Hid (Rc w m p M wr)) (fun _ z _ => m.next.length - (intOf z).toNat)
      case atStart => exact ⟨0, M1, false, rfl, rfl, by omega, HM1, fun h => (by cases h), fun _ => ⟨rfl, fun i' b' hh => by omega⟩, Nat.le_refl _, HR1⟩
      case round =>
        obtain ⟨i, M2, ch, rfl, rfl, hi, HM2, HZ1, HZ2, HZ3, HR2⟩ := hrel
        clear e0 HR1
        by_cases hend : i < m.next.length
        · obtain ⟨rb, roff, rb', roff', rci, hno, hrb, hrc, hrb', hrf, hrt, hrow⟩ := (HML.out wr HR2.out.be).next_all HRR.out hend
          have HROW := (show Hid (∀ W : World, Below w.heap.size w W → ∀ c, c < 256 → W.cell? ⟨rb', roff' + c, none⟩ = some (.int .i64 (nx m i c : Nat))) from fun W hb c hc => by
            have h1 := hrow c hc
            rw [HR2.out.be.cell (p := ⟨rb', roff' + c, none⟩) hrb'] at h1
            rw [hb.cell (p := ⟨rb', roff' + c, none⟩) hrb']
            exact h1)
          have HNO := (show Hid (p.no = some ⟨rb, roff, none⟩) from hno)
          rw [HNO.out]
          clear hrow hrb hrb' hno
          go_wp2_with (fail)
          go_loopw [4, 26] (fun y z wr => ∃ (b : Nat) (M : List Int) (ch : Bool), y = .bool ch ∧ z = .int .i64 b ∧ b ≤ 256 ∧ Hid (Mks m M) ∧ Hid (ch = true → zeros M < zeros M1) ∧ Hid (ch = false → M = M1 ∧ ClsTo m M i b) ∧ Hid (zeros M ≤ zeros M1) ∧ Hid (Rc w m p M wr)) (fun _ z _ => 256 - (intOf z).toNat)
          case atStart => exact ⟨0, M2, ch, rfl, rfl, by omega, HM2, HZ1, HZ2, HZ3, HR2⟩
          case round =>
            obtain ⟨b, M, ch, rfl, rfl, hb, HM, HY1, HY2, HY3, HR⟩ := hrel
            clear HM2 HZ1 HZ2 HZ3 HR2 hrc
            by_cases hbe : b < 256
            · have k2 := HROW.out wr HR.out.be b hbe
              have hML := HM.out.len
              have k3 := HR.out.ir.cell i (by omega)
              have htwo := HM.out.two i (by omega)
              have HSTP := (show Hid ((M[i]? = some 1 → M[nx m i b]? = some 1) → ch = false → M = M1 ∧ ClsTo m M i (b + 1)) from fun hk hc => ⟨(HY2.out hc).1, cls_step (HY2.out hc).2 hk⟩)
              have hjn := HRR.out.nx_lt hend hbe
              rcases htwo with ht | ht
              · have HQ := (show Hid (ch = false → M = M1 ∧ ClsTo m M i (b + 1)) from HSTP.out fun h => by rw [get_one (by omega) ht] at h; cases h)
                rw [ht] at k3
                clear HSTP HY2
                generalize nx m i b = j at *
                go_wp2_with (fail)
                go_roundw
                case rel => exact ⟨b + 1, M, ch, rfl, by go_num, by omega, HM, HY1, HQ, HY3, HR⟩
                case measure => simp [intOf]; omega
              · rw [ht] at k3
                have HRI := (show Hid (Rch m (nx m i b)) from .step (HM.out.rch i (get_one (by omega) ht)) hbe)
                have hjl : nx m i b < M.length := by omega
                have k4 := HR.out.ir.cell (nx m i b) hjl
                have k5 := HR.out.ir.fz (nx m i b)
                rcases HM.out.two (nx m i b) hjl with hj0 | hj1
                · have HLT := (show Hid (zeros (M.set (nx m i b) 1) < zeros M1) from Nat.lt_of_lt_of_le (zeros_lt M _ (get_one hjl hj0)) HY3.out)
                  have HMN := (show Hid (Mks m (M.set (nx m i b) 1)) from HM.out.set _ HRI.out)
                  have HRN := (show Hid (Rc w m p (M.set (nx m i b) 1) (wr.setCell ⟨w.heap.size + 1, nx m i b, none⟩ (.int .i64 1))) from ⟨HR.out.be.setCell (p := ⟨w.heap.size + 1, nx m i b, none⟩) (by show w.heap.size ≤ w.heap.size + 1; omega) _, (Below.heap_setCell _ _ _ _ (show w.heap.size ≠ w.heap.size + 1 by omega)).trans HR.out.bx, HR.out.ir.put _ 1⟩)
                  rw [hj0] at k4
                  clear HSTP HY2 HRI hj0
                  generalize nx m i b = j at *
                  go_wp2_with (fail)
                  go_roundw
                  case rel => exact ⟨b + 1, M.set j 1, true, rfl, by go_num, by omega, HMN, fun _ => HLT.out, fun h => (by cases h), Nat.le_of_lt HLT.out, HRN⟩
                  case measure => simp [intOf]; omega
                · have HQ := (show Hid (ch = false → M = M1 ∧ ClsTo m M i (b + 1)) from HSTP.out fun _ => get_one hjl hj1)
                  rw [hj1] at k4
                  clear HSTP HY2 HRI hj1
                  generalize nx m i b = j at *
                  go_wp2_with (fail)
                  go_roundw
                  case rel => exact ⟨b + 1, M, ch, rfl, by go_num, by omega, HM, HY1, HQ, HY3, HR⟩
                  case measure => simp [intOf]; omega
            · have HQ := (show Hid (ch = false → M = M1 ∧ ClsTo m M (i + 1) 0) from fun h => ⟨(HY2.out h).1, cls_row (by have := (HY2.out h).2; rw [show b = 256 by omega] at this; exact this)⟩)
              clear HY2
              go_wp2_with (fail)
              go_roundw
              case rel => exact ⟨i + 1, M, ch, rfl, by go_num, by omega, HM, HY1, HQ, HY3, HR⟩
              case measure => simp [intOf]; omega
        · have HCF := (show Hid (ch = false → ClsTo m M2 m.next.length 0) from fun h => by have := (HZ2.out h).2; rw [show i = m.next.length by omega] at this; exact this)
          have HLT := (show Hid (zeros M2 + (if ch = true then 1 else 0) < gk) from by
            show _ < _
            rw [HK.out]
            cases ch with
            | true => have := HZ1.out rfl; simp; omega
            | false => rw [(HZ2.out rfl).1]; simp)
          clear HZ1 HZ2 HZ3 HK
          go_wp2_with (fail)
          go_roundg (zeros M2 + (if ch = true then 1 else 0))
          case rel => exact ⟨M2, ch, rfl, rfl, HM2, HCF, HR2⟩
          case measure => exact HLT.out
end Go.Proofs.Ytafcekognhkmgaa.tr
