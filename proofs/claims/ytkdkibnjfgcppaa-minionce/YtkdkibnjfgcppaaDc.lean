/-
  Contracts over this program: which dfa may be (dfa.Right).
-/
import Derived.Test.YtkdkibnjfgcppaaDb
namespace Go.Proofs.Ytkdkibnjfgcppaa.df
open Go.ChangeShapes Go.WideShapes Go.ChangeAt Go.RowKit
set_option linter.unusedVariables false

def RtIs (f : Nat) (d : Dfa) (r : Bool) : Prop := ∀ cs o cap ao acap w, DAt (In w) w d cs o cap ao acap → Calls Try.prog f #[.agg cs] w fun e w' => e = .returned (.bool r) ∧ Below w.heap.size w w'

theorem first_row {w : World} {o : Option Addr} {cap : Nat} {l : List (List Int)} (h : RowRow (In w) w o cap l) (h1 : 1 ≤ l.length) :
    ∃ b off oi ci, o = some ⟨b, off, none⟩ ∧ b < w.heap.size ∧ w.cell? ⟨b, off, none⟩ = some (.slice oi (l[0]?.getD []).length ci) ∧ Row (In w) w iv oi ci (l[0]?.getD []) := by
  obtain ⟨b, off, oi, ci, e, hb, hc, hr⟩ := h.lie 0 (by omega)
  have e0 : l[0]?.getD [] = l[0] := by rw [List.getElem?_eq_getElem (by omega)]; rfl
  rw [e0]
  exact ⟨b, off, oi, ci, e, hb, hc, hr⟩
theorem row_at {w : World} {b off : Nat} {cap : Nat} {l : List (List Int)} (h : RowRow (In w) w (some ⟨b, off, none⟩) cap l) (i : Nat) (hi : i < l.length) :
    ∃ oi ci, w.cell? ⟨b, off + i, none⟩ = some (.slice oi l[i].length ci) ∧ Row (In w) w iv oi ci l[i] := by
  obtain ⟨b', off', oi, ci, e, hb, hc, hr⟩ := h.lie i hi
  cases e
  exact ⟨oi, ci, hc, hr⟩
set_option maxRecDepth 100000 in
set_option maxHeartbeats 1000000 in
theorem right_0 (d : Dfa) (g0 : d.next.length < 1) : RtIs 23 d false := by
  intro cs o cap ao acap w hD
  have hw8 := hD.size
  have hnx := hD.nx
  have hac := hD.ac
  have b0 := dbox_new w cs
  have k0 := b0.nx hD
  have k1 := b0.ac hD
  have hfit := hD.rows.fit
  have htop := hD.rows.top
  have hafit := hD.accs.fit
  have hatop := hD.accs.top
  clear hD
  generalize d.next.length = n at *
  generalize d.acc.length = m at *
  go_enter Try.func23, Try.ntmps23
  go_wp2_with (fail)
  go_ret
  exact ⟨rfl, below_alloc _ _⟩
set_option maxRecDepth 100000 in
set_option maxHeartbeats 1000000 in
theorem right_1 (d : Dfa) (g0 : ¬ d.next.length < 1) (g1 : 400 < d.next.length) : RtIs 23 d false := by
  intro cs o cap ao acap w hD
  have hw8 := hD.size
  have hnx := hD.nx
  have hac := hD.ac
  have b0 := dbox_new w cs
  have k0 := b0.nx hD
  have k1 := b0.ac hD
  have hfit := hD.rows.fit
  have htop := hD.rows.top
  have hafit := hD.accs.fit
  have hatop := hD.accs.top
  clear hD
  generalize d.next.length = n at *
  generalize d.acc.length = m at *
  go_enter Try.func23, Try.ntmps23
  go_wp2_with (fail)
  go_ret
  exact ⟨rfl, below_alloc _ _⟩
set_option maxRecDepth 100000 in
set_option maxHeartbeats 1000000 in
theorem right_2 (d : Dfa) (g0 : ¬ d.next.length < 1) (g1 : ¬ 400 < d.next.length) (g2 : d.acc.length ≠ d.next.length) : RtIs 23 d false := by
  intro cs o cap ao acap w hD
  have hw8 := hD.size
  have hnx := hD.nx
  have hac := hD.ac
  have b0 := dbox_new w cs
  have k0 := b0.nx hD
  have k1 := b0.ac hD
  have hfit := hD.rows.fit
  have htop := hD.rows.top
  have hafit := hD.accs.fit
  have hatop := hD.accs.top
  have f2 : ((d.acc.length : Int) == (d.next.length : Int)) = false := beq_eq_false_iff_ne.2 (by omega)
  have f3 : ((d.acc.length : Int) != (d.next.length : Int)) = true := bne_iff_ne.2 (by omega)
  clear hD
  generalize d.next.length = n at *
  generalize d.acc.length = m at *
  go_enter Try.func23, Try.ntmps23
  go_wp2_with (fail)
  go_ret
  exact ⟨rfl, below_alloc _ _⟩
set_option maxRecDepth 100000 in
set_option maxHeartbeats 1000000 in
theorem right_3 (d : Dfa) (g0 : ¬ d.next.length < 1) (g1 : ¬ 400 < d.next.length) (g2 : d.acc.length = d.next.length) (g3 : width d < 1) : RtIs 23 d false := by
  intro cs o cap ao acap w hD
  have hw8 := hD.size
  have hnx := hD.nx
  have hac := hD.ac
  have b0 := dbox_new w cs
  have k0 := b0.nx hD
  have k1 := b0.ac hD
  have hfit := hD.rows.fit
  have htop := hD.rows.top
  have hafit := hD.accs.fit
  have hatop := hD.accs.top
  have f2 : ((d.acc.length : Int) == (d.next.length : Int)) = true := beq_iff_eq.2 (by omega)
  have f3 : ((d.acc.length : Int) != (d.next.length : Int)) = false := by rw [bne, f2]; rfl
  have f3' : (!((d.acc.length : Int) == (d.next.length : Int))) = false := by rw [f2]; rfl
  obtain ⟨b, off, oi, ci, rfl, hb, hc, hr⟩ := first_row hD.rows (by omega)
  have hrf := hr.fit
  have hrt := hr.top
  have hn1 : 1 ≤ d.next.length := by omega
  unfold width at *
  clear hD hr
  generalize (d.next[0]?.getD []).length = k at *
  generalize d.next.length = n at *
  generalize d.acc.length = m at *
  go_enter Try.func23, Try.ntmps23
  go_wp2_with (fail)
  go_ret
  exact ⟨rfl, below_alloc _ _⟩
set_option maxRecDepth 100000 in
set_option maxHeartbeats 1000000 in
theorem right_4 (d : Dfa) (g0 : ¬ d.next.length < 1) (g1 : ¬ 400 < d.next.length) (g2 : d.acc.length = d.next.length) (g3 : ¬ width d < 1) (g4 : 256 < width d) : RtIs 23 d false := by
  intro cs o cap ao acap w hD
  have hw8 := hD.size
  have hnx := hD.nx
  have hac := hD.ac
  have b0 := dbox_new w cs
  have k0 := b0.nx hD
  have k1 := b0.ac hD
  have hfit := hD.rows.fit
  have htop := hD.rows.top
  have hafit := hD.accs.fit
  have hatop := hD.accs.top
  have f2 : ((d.acc.length : Int) == (d.next.length : Int)) = true := beq_iff_eq.2 (by omega)
  have f3 : ((d.acc.length : Int) != (d.next.length : Int)) = false := by rw [bne, f2]; rfl
  have f3' : (!((d.acc.length : Int) == (d.next.length : Int))) = false := by rw [f2]; rfl
  obtain ⟨b, off, oi, ci, rfl, hb, hc, hr⟩ := first_row hD.rows (by omega)
  have hrf := hr.fit
  have hrt := hr.top
  have hn1 : 1 ≤ d.next.length := by omega
  unfold width at *
  clear hD hr
  generalize (d.next[0]?.getD []).length = k at *
  generalize d.next.length = n at *
  generalize d.acc.length = m at *
  go_enter Try.func23, Try.ntmps23
  go_wp2_with (fail)
  go_ret
  exact ⟨rfl, below_alloc _ _⟩
set_option maxRecDepth 100000 in
set_option maxHeartbeats 1000000 in
theorem rright_0 (d : Dfa) (g0 : d.next.length < 1) : RtIs 9 d false := by
  intro cs o cap ao acap w hD
  have hw8 := hD.size
  have hnx := hD.nx
  have hac := hD.ac
  have b0 := dbox_new w cs
  have k0 := b0.nx hD
  have k1 := b0.ac hD
  have hfit := hD.rows.fit
  have htop := hD.rows.top
  have hafit := hD.accs.fit
  have hatop := hD.accs.top
  clear hD
  generalize d.next.length = n at *
  generalize d.acc.length = m at *
  go_enter Try.func9, Try.ntmps9
  go_wp2_with (fail)
  go_ret
  exact ⟨rfl, below_alloc _ _⟩
set_option maxRecDepth 100000 in
set_option maxHeartbeats 1000000 in
theorem rright_1 (d : Dfa) (g0 : ¬ d.next.length < 1) (g1 : 400 < d.next.length) : RtIs 9 d false := by
  intro cs o cap ao acap w hD
  have hw8 := hD.size
  have hnx := hD.nx
  have hac := hD.ac
  have b0 := dbox_new w cs
  have k0 := b0.nx hD
  have k1 := b0.ac hD
  have hfit := hD.rows.fit
  have htop := hD.rows.top
  have hafit := hD.accs.fit
  have hatop := hD.accs.top
  clear hD
  generalize d.next.length = n at *
  generalize d.acc.length = m at *
  go_enter Try.func9, Try.ntmps9
  go_wp2_with (fail)
  go_ret
  exact ⟨rfl, below_alloc _ _⟩
set_option maxRecDepth 100000 in
set_option maxHeartbeats 1000000 in
theorem rright_2 (d : Dfa) (g0 : ¬ d.next.length < 1) (g1 : ¬ 400 < d.next.length) (g2 : d.acc.length ≠ d.next.length) : RtIs 9 d false := by
  intro cs o cap ao acap w hD
  have hw8 := hD.size
  have hnx := hD.nx
  have hac := hD.ac
  have b0 := dbox_new w cs
  have k0 := b0.nx hD
  have k1 := b0.ac hD
  have hfit := hD.rows.fit
  have htop := hD.rows.top
  have hafit := hD.accs.fit
  have hatop := hD.accs.top
  have f2 : ((d.acc.length : Int) == (d.next.length : Int)) = false := beq_eq_false_iff_ne.2 (by omega)
  have f3 : ((d.acc.length : Int) != (d.next.length : Int)) = true := bne_iff_ne.2 (by omega)
  clear hD
  generalize d.next.length = n at *
  generalize d.acc.length = m at *
  go_enter Try.func9, Try.ntmps9
  go_wp2_with (fail)
  go_ret
  exact ⟨rfl, below_alloc _ _⟩
set_option maxRecDepth 100000 in
set_option maxHeartbeats 1000000 in
theorem rright_3 (d : Dfa) (g0 : ¬ d.next.length < 1) (g1 : ¬ 400 < d.next.length) (g2 : d.acc.length = d.next.length) (g3 : width d < 1) : RtIs 9 d false := by
  intro cs o cap ao acap w hD
  have hw8 := hD.size
  have hnx := hD.nx
  have hac := hD.ac
  have b0 := dbox_new w cs
  have k0 := b0.nx hD
  have k1 := b0.ac hD
  have hfit := hD.rows.fit
  have htop := hD.rows.top
  have hafit := hD.accs.fit
  have hatop := hD.accs.top
  have f2 : ((d.acc.length : Int) == (d.next.length : Int)) = true := beq_iff_eq.2 (by omega)
  have f3 : ((d.acc.length : Int) != (d.next.length : Int)) = false := by rw [bne, f2]; rfl
  have f3' : (!((d.acc.length : Int) == (d.next.length : Int))) = false := by rw [f2]; rfl
  obtain ⟨b, off, oi, ci, rfl, hb, hc, hr⟩ := first_row hD.rows (by omega)
  have hrf := hr.fit
  have hrt := hr.top
  have hn1 : 1 ≤ d.next.length := by omega
  unfold width at *
  clear hD hr
  generalize (d.next[0]?.getD []).length = k at *
  generalize d.next.length = n at *
  generalize d.acc.length = m at *
  go_enter Try.func9, Try.ntmps9
  go_wp2_with (fail)
  go_ret
  exact ⟨rfl, below_alloc _ _⟩
set_option maxRecDepth 100000 in
set_option maxHeartbeats 1000000 in
theorem rright_4 (d : Dfa) (g0 : ¬ d.next.length < 1) (g1 : ¬ 400 < d.next.length) (g2 : d.acc.length = d.next.length) (g3 : ¬ width d < 1) (g4 : 256 < width d) : RtIs 9 d false := by
  intro cs o cap ao acap w hD
  have hw8 := hD.size
  have hnx := hD.nx
  have hac := hD.ac
  have b0 := dbox_new w cs
  have k0 := b0.nx hD
  have k1 := b0.ac hD
  have hfit := hD.rows.fit
  have htop := hD.rows.top
  have hafit := hD.accs.fit
  have hatop := hD.accs.top
  have f2 : ((d.acc.length : Int) == (d.next.length : Int)) = true := beq_iff_eq.2 (by omega)
  have f3 : ((d.acc.length : Int) != (d.next.length : Int)) = false := by rw [bne, f2]; rfl
  have f3' : (!((d.acc.length : Int) == (d.next.length : Int))) = false := by rw [f2]; rfl
  obtain ⟨b, off, oi, ci, rfl, hb, hc, hr⟩ := first_row hD.rows (by omega)
  have hrf := hr.fit
  have hrt := hr.top
  have hn1 : 1 ≤ d.next.length := by omega
  unfold width at *
  clear hD hr
  generalize (d.next[0]?.getD []).length = k at *
  generalize d.next.length = n at *
  generalize d.acc.length = m at *
  go_enter Try.func9, Try.ntmps9
  go_wp2_with (fail)
  go_ret
  exact ⟨rfl, below_alloc _ _⟩
end Go.Proofs.Ytkdkibnjfgcppaa.df
