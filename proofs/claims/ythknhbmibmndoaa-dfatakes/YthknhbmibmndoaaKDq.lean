/-
  Contracts over this program: which states of a dfa are reached (the document's Reached).
-/
import Derived.Test.YthknhbmibmndoaaMx01
import Derived.Test.YthknhbmibmndoaaKNm
namespace Go.Proofs.Ythknhbmibmndoaa.df
open Go.ChangeShapes Go.WideShapes Go.ChangeAt Go.RowKit
open nf (IRow icells zeros)
set_option linter.unusedVariables false
set_option maxRecDepth 10000

/-- each state is come to from one of less number -/
def Ways (d : Dfa) : Prop := ∀ k, k + 1 < d.next.length → ∃ j b, j < k + 1 ∧ b < 256 ∧ nxt d j (d.cls b) = ((k + 1 : Nat) : Int)
def ClsTo (d : Dfa) (M : List Int) (i b : Nat) : Prop := ∀ i' b', (i' < i ∨ i' = i ∧ b' < b) → b' < 256 → ∀ j : Nat, nxt d i' (d.cls b') = (j : Int) → M[i']? = some 1 → M[j]? = some 1
structure Mks (d : Dfa) (M : List Int) : Prop where
  len : M.length = d.next.length
  two : ∀ i (h : i < M.length), M[i] = 0 ∨ M[i] = 1
  one : M[0]? = some 1
theorem Mks.set {d : Dfa} {M : List Int} (h : Mks d M) (j : Nat) : Mks d (M.set j 1) :=
  ⟨by rw [List.length_set]; exact h.len, fun i hi => by
    rw [List.getElem_set]
    by_cases e : j = i
    · rw [if_pos e]; exact .inr rfl
    · rw [if_neg e]; exact h.two i (by simpa using hi), by
    by_cases e : j = 0
    · subst e
      have := (List.getElem?_eq_some_iff.1 h.one).1
      rw [List.getElem?_set_self this]
    · rw [List.getElem?_set_ne e]; exact h.one⟩
theorem all_one {d : Dfa} {M : List Int} (h : Mks d M) (hw : Ways d) (hc : ClsTo d M d.next.length 0) : ∀ k, k < d.next.length → M[k]? = some 1 := by
  intro k
  induction k using Nat.strongRecOn with
  | ind k ih =>
    intro hk
    cases k with
    | zero => exact h.one
    | succ k =>
      obtain ⟨j, b, h1, h2, h3⟩ := hw k hk
      exact hc j b (.inl (by omega)) h2 (k + 1) h3 (ih j h1 (by omega))
theorem cls_step {d : Dfa} {M : List Int} {i b : Nat} (h : ClsTo d M i b) (hk : ∀ j : Nat, nxt d i (d.cls b) = (j : Int) → M[i]? = some 1 → M[j]? = some 1) : ClsTo d M i (b + 1) := fun i' b' hh hb j hj hm => by
  rcases hh with h1 | ⟨h1, h2⟩
  · exact h i' b' (.inl h1) hb j hj hm
  · by_cases e : b' = b
    · subst e h1; exact hk j hj hm
    · exact h i' b' (.inr ⟨h1, by omega⟩) hb j hj hm
theorem cls_row {d : Dfa} {M : List Int} {i : Nat} (h : ClsTo d M i 256) : ClsTo d M (i + 1) 0 := fun i' b' hh hb j hj hm => by
  rcases hh with h1 | ⟨h1, h2⟩
  · by_cases e : i' = i
    · exact h i' b' (.inr ⟨e, hb⟩) hb j hj hm
    · exact h i' b' (.inl (by omega)) hb j hj hm
  · omega
theorem zeros_lt (M : List Int) (i : Nat) (h : M[i]? = some 0) : zeros (M.set i 1) < zeros M := by
  obtain ⟨h1, h2⟩ := List.getElem?_eq_some_iff.1 h
  exact nf.zeros_set M i h1 h2
theorem row_all {w : World} {d : Dfa} {cs : Array Value} {o ao : Option Addr} {cap acap : Nat} (h : DAt (In w) w d cs o cap ao acap) (k : Ok d) (q : Nat) (hq : q < d.next.length) :
    ∃ b off b' off' ci, o = some ⟨b, off, none⟩ ∧ b < w.heap.size ∧ w.cell? ⟨b, off + q, none⟩ = some (.slice (some ⟨b', off', none⟩) (width d) ci) ∧ width d ≤ ci ∧ ci ≤ 9223372036854775807 ∧ b' < w.heap.size ∧ ∀ c, c < width d → w.cell? ⟨b', off' + c, none⟩ = some (.int .i64 (nxt d q c)) := by
  obtain ⟨b, off, oi, ci, e, hp, hx, hr⟩ := h.rows.lie q hq
  have hw := k.wide q hq
  have hw1 : 0 < width d := by have := k.cl 0 (by omega); omega
  obtain ⟨b', off', rfl, hp', hy⟩ := hr.lie 0 (by omega)
  rw [hw] at hx
  have hf := hr.fit
  refine ⟨b, off, b', off', ci, e, hp, hx, by omega, hr.top, hp', fun c hc => ?_⟩
  obtain ⟨b2, off2, e2, _, hy2⟩ := hr.lie c (by omega)
  injection e2 with e2
  injection e2 with e3 e4
  subst e3 e4
  unfold nxt
  rw [List.getElem?_eq_getElem hq, Option.getD_some, List.getElem?_eq_getElem (by omega)]
  exact hy2
theorem get_one {M : List Int} {i : Nat} (h : i < M.length) {v : Int} (e : M[i] = v) : M[i]? = some v := by rw [List.getElem?_eq_getElem h, e]
def ReachIs (d : Dfa) : Prop := ∀ cs o cap ao acap w, DAt (In w) w d cs o cap ao acap → Calls Try.prog 26 #[.agg cs] w fun e w' => ∃ g, e = .returned (.slice (some ⟨g, 0, none⟩) d.next.length d.next.length) ∧ IRow w' g (List.replicate d.next.length 1) ∧ Below w.heap.size w w'
theorem ones_of {M : List Int} {n : Nat} (hl : M.length = n) (h : ∀ k, k < n → M[k]? = some 1) : M = List.replicate n 1 := by
  refine List.ext_getElem (by simp [hl]) fun i h1 h2 => ?_
  have := h i (by omega)
  rw [List.getElem?_eq_getElem h1] at this
  simpa using this
structure Rc (w : World) (d : Dfa) (cs : Array Value) (M : List Int) (wr : World) : Prop where
  be : Below w.heap.size w wr
  bx : DBox wr w.heap.size cs
  ir : IRow wr (w.heap.size + 1) M
set_option maxHeartbeats 4000000 in
set_option maxRecDepth 100000 in
theorem reached_any (d : Dfa) (hok : Ok d) (hw : Ways d) : ReachIs d := by
  intro cs o cap ao acap w hD
  have b0 := dbox_new w cs
  have B0 := below_alloc w (.cells cs 37)
  have hn1 := hok.one
  have hn4 := hok.most
  have HOK := (show Hid (Ok d) from hok)
  have HW := (show Hid (Ways d) from hw)
  have HD := (show Hid (DAt (In w) w d cs o cap ao acap) from hD)
  have mk := nf.make25 d.next.length (by omega)
  have nx0 := b0.nx hD
  have hfit := hD.rows.fit
  have htop := hD.rows.top
  have HN := (show Hid (∀ wr : World, DBox wr w.heap.size cs → wr.cell? ⟨w.heap.size, 256, none⟩ = some (.slice o d.next.length cap)) from fun wr hb => hb.nx hD)
  have I0 := nf.irow_new (w.alloc (.cells cs 37)) (List.replicate d.next.length 0)
  rw [World.size_alloc] at I0
  have HIC := (show Hid ((icells (List.replicate d.next.length 0)).setIfInBounds 0 (.int .i64 1) = icells ((List.replicate d.next.length 0).set 0 1)) from by show _ = _; unfold icells; rw [List.setIfInBounds_toArray, List.map_set])
  have HS := (show Hid (Rc w d cs ((List.replicate d.next.length 0).set 0 1) ((w.alloc (.cells cs 37)).alloc (.cells ((icells (List.replicate d.next.length 0)).setIfInBounds 0 (.int .i64 1)) 3))) from ⟨chain B0 (below_alloc _ _), b0.later (below_alloc _ _), by rw [HIC.out]; have := nf.irow_new (w.alloc (.cells cs 37)) ((List.replicate d.next.length 0).set 0 1); rw [World.size_alloc] at this; exact this⟩)
  have q0 := I0.cell 0 (by simp; omega)
  have q1 := I0.fz 0
  simp only [List.getElem_replicate] at q0
  have HM0 := (show Hid (Mks d ((List.replicate d.next.length 0).set 0 1)) from ⟨by simp, fun i hi => by
    rw [List.getElem_set]
    by_cases e : 0 = i
    · rw [if_pos e]; exact .inr rfl
    · rw [if_neg e]; exact .inl (by simp), by rw [List.getElem?_set_self (by simp; omega)]⟩)
  have nx1 := (b0.later (below_alloc _ (.cells (icells (List.replicate d.next.length 0)) 3))).nx hD
  clear hok hw hD b0 B0 I0
  go_enter Try.func26, Try.ntmps26
  go_wp2_with (fail)
  obtain ⟨w0, HW0⟩ : ∃ w0, Hid (w0 = (w.alloc (.cells cs 37)).alloc (.cells ((icells (List.replicate d.next.length 0)).setIfInBounds 0 (.int .i64 1)) 3)) := ⟨_, rfl⟩
  rw [← HW0.out] at HS ⊢
  obtain ⟨M0, HM00⟩ : ∃ M0, Hid (M0 = (List.replicate d.next.length (0 : Int)).set 0 1) := ⟨_, rfl⟩
  rw [← HM00.out] at HS HM0
  clear nx0 nx1 q0 q1 mk HW0 HM00 HIC
  go_loopg [4] (zeros M0 + 1) (fun k y wr => ∃ (M : List Int) (more : Bool), y = .bool more ∧ Hid (k = zeros M + if more = true then 1 else 0) ∧ Hid (Mks d M) ∧ Hid (more = false → ClsTo d M d.next.length 0) ∧ Hid (Rc w d cs M wr))
  case atStart => exact ⟨M0, true, rfl, rfl, HM0, fun h => by (cases h), HS⟩
  case round =>
    obtain ⟨M1, more, rfl, HK, HM1, HC1, HR1⟩ := hrel
    clear HS HM0
    cases more with
    | false =>
      have HE := (show Hid (M1 = List.replicate d.next.length 1) from ones_of HM1.out.len (all_one HM1.out HW.out (HC1.out rfl)))
      clear HC1 HK
      go_wp2_with (fail)
      go_ret
      exact ⟨w.heap.size + 1, rfl, by rw [← HE.out]; exact HR1.out.ir, HR1.out.be⟩
    | true =>
      have e256 := HN.out wr HR1.out.bx
      clear HC1
      go_wp2_with (fail)
      go_loopw [4, 19] (fun y z wr => ∃ (i : Nat) (M : List Int) (ch : Bool), y = .bool ch ∧ z = .int .i64 i ∧ i ≤ d.next.length ∧ Hid (Mks d M) ∧ Hid (ch = true → zeros M < zeros M1) ∧ Hid (ch = false → M = M1 ∧ ClsTo d M i 0) ∧ Hid (zeros M ≤ zeros M1) ∧ Hid (Rc w d cs M wr)) (fun _ z _ => d.next.length - (intOf z).toNat)
      case atStart => exact ⟨0, M1, false, rfl, rfl, by omega, HM1, fun h => (by cases h), fun _ => ⟨rfl, fun i' b' hh => by omega⟩, Nat.le_refl _, HR1⟩
      case round =>
        obtain ⟨i, M2, ch, rfl, rfl, hi, HM2, HZ1, HZ2, HZ3, HR2⟩ := hrel
        clear e256 HR1
        by_cases hend : i < d.next.length
        · obtain ⟨rb, roff, rb', roff', rci, rfl, hrb, hrc, hrf, hrt, hrb', hrow⟩ := row_all HD.out HOK.out i hend
          have rc2 := (HR2.out.be.cell (p := ⟨rb, roff + i, none⟩) hrb).trans hrc
          have HROW := (show Hid (∀ wr : World, Below w.heap.size w wr → ∀ c, c < width d → wr.cell? ⟨rb', roff' + c, none⟩ = some (.int .i64 (nxt d i c))) from fun wr hb c hc => (hb.cell (p := ⟨rb', roff' + c, none⟩) hrb').trans (hrow c hc))
          clear hrc hrow hrb hrb'
          go_wp2_with (fail)
          go_loopw [4, 7] (fun y z wr => ∃ (b : Nat) (M : List Int) (ch : Bool), y = .bool ch ∧ z = .int .i64 b ∧ b ≤ 256 ∧ Hid (Mks d M) ∧ Hid (ch = true → zeros M < zeros M1) ∧ Hid (ch = false → M = M1 ∧ ClsTo d M i b) ∧ Hid (zeros M ≤ zeros M1) ∧ Hid (Rc w d cs M wr)) (fun _ z _ => 256 - (intOf z).toNat)
          case atStart => exact ⟨0, M2, ch, rfl, rfl, by omega, HM2, HZ1, HZ2, HZ3, HR2⟩
          case round =>
            obtain ⟨b, M, ch, rfl, rfl, hb, HM, HY1, HY2, HY3, HR⟩ := hrel
            clear HM2 HZ1 HZ2 HZ3 HR2 rc2
            by_cases hbe : b < 256
            · have k1 := HR.out.bx.cl HD.out b hbe
              have hcl := HOK.out.cl b hbe
              have k2 := HROW.out wr HR.out.be (d.cls b) hcl
              have hcw := HD.out.c8 b
              have hno := nxt_ok HOK.out i (d.cls b) hend hcl
              have hML := HM.out.len
              have k3 := HR.out.ir.cell i (by omega)
              have htwo := HM.out.two i (by omega)
              have HSTP := (show Hid ((∀ j : Nat, nxt d i (d.cls b) = (j : Int) → M[i]? = some 1 → M[j]? = some 1) → ch = false → M = M1 ∧ ClsTo d M i (b + 1)) from fun hk hc => ⟨(HY2.out hc).1, cls_step (HY2.out hc).2 hk⟩)
              rcases htwo with ht | ht
              · have HQ := (show Hid (ch = false → M = M1 ∧ ClsTo d M i (b + 1)) from HSTP.out fun j _ h => by rw [get_one (by omega) ht] at h; cases h)
                rw [ht] at k3
                clear HSTP HY2 hno
                generalize nxt d i (d.cls b) = v at *
                generalize d.cls b = cc at *
                go_wp2_with (fail)
                go_roundw
                case rel => exact ⟨b + 1, M, ch, rfl, by go_num, by omega, HM, HY1, HQ, HY3, HR⟩
                case measure => simp [intOf]; omega
              · rw [ht] at k3
                by_cases hv : 0 ≤ nxt d i (d.cls b)
                · obtain ⟨j, hj⟩ : ∃ j : Nat, nxt d i (d.cls b) = (j : Int) := ⟨(nxt d i (d.cls b)).toNat, by omega⟩
                  have hjn : j < d.next.length := by omega
                  have hjl : j < M.length := by omega
                  have k4 := HR.out.ir.cell j hjl
                  have k5 := HR.out.ir.fz j
                  rcases HM.out.two j hjl with hj0 | hj1
                  · have HLT := (show Hid (zeros (M.set j 1) < zeros M1) from Nat.lt_of_lt_of_le (zeros_lt M j (get_one hjl hj0)) HY3.out)
                    have HRN := (show Hid (Rc w d cs (M.set j 1) (wr.setCell ⟨w.heap.size + 1, j, none⟩ (.int .i64 1))) from ⟨HR.out.be.setCell (p := ⟨w.heap.size + 1, j, none⟩) (by show w.heap.size ≤ w.heap.size + 1; omega) _, (Below.heap_setCell _ _ _ _ (show w.heap.size ≠ w.heap.size + 1 by omega)).trans HR.out.bx, HR.out.ir.put j 1⟩)
                    have HMN := (show Hid (Mks d (M.set j 1)) from HM.out.set j)
                    rw [hj] at k2
                    rw [hj0] at k4
                    clear HSTP HY2 hno hv hj
                    generalize d.cls b = cc at *
                    go_wp2_with (fail)
                    go_roundw
                    case rel => exact ⟨b + 1, M.set j 1, true, rfl, by go_num, by omega, HMN, fun _ => HLT.out, fun h => (by cases h), Nat.le_of_lt HLT.out, HRN⟩
                    case measure => simp [intOf]; omega
                  · have HQ := (show Hid (ch = false → M = M1 ∧ ClsTo d M i (b + 1)) from HSTP.out fun j' h _ => by rw [hj] at h; rw [show j' = j by omega]; exact get_one hjl hj1)
                    rw [hj] at k2
                    rw [hj1] at k4
                    clear HSTP HY2 hno hv hj
                    generalize d.cls b = cc at *
                    go_wp2_with (fail)
                    go_roundw
                    case rel => exact ⟨b + 1, M, ch, rfl, by go_num, by omega, HM, HY1, HQ, HY3, HR⟩
                    case measure => simp [intOf]; omega
                · have hv1 : nxt d i (d.cls b) = -1 := by omega
                  have HQ := (show Hid (ch = false → M = M1 ∧ ClsTo d M i (b + 1)) from HSTP.out fun j' h _ => by rw [hv1] at h; omega)
                  rw [hv1] at k2
                  clear HSTP HY2 hno hv hv1
                  generalize d.cls b = cc at *
                  go_wp2_with (fail)
                  go_roundw
                  case rel => exact ⟨b + 1, M, ch, rfl, by go_num, by omega, HM, HY1, HQ, HY3, HR⟩
                  case measure => simp [intOf]; omega
            · have HQ := (show Hid (ch = false → M = M1 ∧ ClsTo d M (i + 1) 0) from fun h => ⟨(HY2.out h).1, cls_row (by have := (HY2.out h).2; rw [show b = 256 by omega] at this; exact this)⟩)
              clear HY2
              go_wp2_with (fail)
              go_roundw
              case rel => exact ⟨i + 1, M, ch, rfl, by go_num, by omega, HM, HY1, HQ, HY3, HR⟩
              case measure => simp [intOf]; omega
        · have HCF := (show Hid (ch = false → ClsTo d M2 d.next.length 0) from fun h => by have := (HZ2.out h).2; rw [show i = d.next.length by omega] at this; exact this)
          have HLT := (show Hid (zeros M2 + (if ch = true then 1 else 0) < gk) from by
            show _ < _
            rw [HK.out]
            cases ch with
            | true => have := HZ1.out rfl; simp; omega
            | false => rw [(HZ2.out rfl).1]; simp)
          clear HZ1 HZ2 HZ3 HK
          go_wp2_with (fail)
          go_roundg (zeros M2 + (if ch = true then 1 else 0))
          case rel => exact ⟨M2, ch, rfl, rfl, HM2, HCF, HR2⟩
          case measure => exact HLT.out
end Go.Proofs.Ythknhbmibmndoaa.df
