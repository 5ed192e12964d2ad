/-
  Contracts over this program: the document's apart.
-/
import Derived.Test.YtkdkibnjfgcppaaM05
namespace Go.Proofs.Ytkdkibnjfgcppaa.mi
open Go.ChangeShapes Go.WideShapes Go.ChangeAt Go.RowKit Go.Shelf Go.Maps
set_option linter.unusedVariables false

theorem info39t : (Try.prog.info? 39).map (fun i => (i.zero, i.size, i.bytes)) = some (some (.slice none 0 0), 1, 24) := by kernel_rfl
/-- a row of the table as it is at first -/
def ini (d : df.Dfa) (i : Nat) : List Int := (List.range d.next.length).map fun j => if df.acpt d i = df.acpt d j then 0 else 1
theorem ini_len (d : df.Dfa) (i : Nat) : (ini d i).length = d.next.length := by simp [ini]
theorem ini_at (d : df.Dfa) (i j : Nat) (h : j < d.next.length) : atL (ini d i) j = if df.acpt d i = df.acpt d j then 0 else 1 := by
  simp [atL, ini, List.getD_eq_getElem?_getD, h]
def iniT (d : df.Dfa) (i : Nat) : List (List Int) := (List.range i).map (ini d)
theorem iniT_len (d : df.Dfa) (i : Nat) : (iniT d i).length = i := by simp [iniT]
theorem iniT_succ (d : df.Dfa) (i : Nat) : iniT d (i + 1) = iniT d i ++ [ini d i] := by simp [iniT, List.range_succ]
theorem iniT_nth (d : df.Dfa) (n i : Nat) (h : i < n) : nthL (iniT d n) i = ini d i := by simp [nthL, iniT, List.getD_eq_getElem?_getD, h]
theorem iniT_out (d : df.Dfa) (n i : Nat) (h : n ≤ i) : nthL (iniT d n) i = [] := by simp [nthL, iniT, List.getD_eq_getElem?_getD, h]
theorem iniT_ok (d : df.Dfa) : ApOk d (iniT d d.next.length) := by
  refine ⟨iniT_len d _, fun i hi => by rw [iniT_nth d _ i hi]; exact ini_len d i, fun i j => ?_, fun i j hi hj h => ?_, fun i j hi hj h e => ?_⟩
  · unfold T2
    by_cases hi : i < d.next.length
    · rw [iniT_nth d _ i hi]
      by_cases hj : j < d.next.length
      · rw [ini_at d i j hj]; split <;> simp
      · exact .inl (atL_out (by rw [ini_len]; omega))
    · rw [iniT_out d _ i (by omega)]; exact .inl (atL_out (by simp))
  · unfold T2; rw [iniT_nth d _ i hi, ini_at d i j hj, if_neg h]
  · unfold T2 at h
    rw [iniT_nth d _ i hi, ini_at d i j hj, if_pos (show df.acpt d i = df.acpt d j from congrFun e [])] at h
    cases h
/-- the first places of a row are marked -/
def Mk2 (d : df.Dfa) (i : Nat) (l : List Int) (j : Nat) : Prop := l.length = d.next.length ∧ ∀ k, k < d.next.length → atL l k = if k < j ∧ df.acpt d i ≠ df.acpt d k then 1 else 0
theorem Mk2.start (d : df.Dfa) (i : Nat) : Mk2 d i (List.replicate d.next.length 0) 0 := ⟨by simp, fun k hk => by rw [if_neg (by omega)]; simp [atL, List.getD_eq_getElem?_getD, hk]⟩
theorem Mk2.yes {d : df.Dfa} {i : Nat} {l : List Int} {j : Nat} (h : Mk2 d i l j) (hj : j < d.next.length) (ha : df.acpt d i ≠ df.acpt d j) : Mk2 d i (l.set j 1) (j + 1) := ⟨by rw [List.length_set]; exact h.1, fun k hk => by
  rw [atL_set l j k 1 (by rw [h.1]; exact hj), h.2 k hk]
  by_cases e : j = k
  · subst e; rw [if_pos rfl, if_pos ⟨by omega, ha⟩]
  · rw [if_neg e]
    by_cases h1 : k < j ∧ df.acpt d i ≠ df.acpt d k
    · rw [if_pos h1, if_pos ⟨by omega, h1.2⟩]
    · rw [if_neg h1, if_neg fun h2 => h1 ⟨by omega, h2.2⟩]⟩
theorem Mk2.no {d : df.Dfa} {i : Nat} {l : List Int} {j : Nat} (h : Mk2 d i l j) (ha : df.acpt d i = df.acpt d j) : Mk2 d i l (j + 1) := ⟨h.1, fun k hk => by
  rw [h.2 k hk]
  by_cases h1 : k < j ∧ df.acpt d i ≠ df.acpt d k
  · rw [if_pos h1, if_pos ⟨by omega, h1.2⟩]
  · rw [if_neg h1, if_neg fun h2 => ?_]
    by_cases e : k = j
    · rw [e] at h2; exact h2.2 ha
    · exact h1 ⟨by omega, h2.2⟩⟩
theorem Mk2.done {d : df.Dfa} {i : Nat} {l : List Int} (h : Mk2 d i l d.next.length) : l = ini d i := by
  apply List.ext_getElem (by rw [h.1, ini_len])
  intro k h1 h2
  rw [ini_len] at h2
  have e1 : l[k] = atL l k := by simp [atL, List.getD_eq_getElem?_getD, h1]
  have e2 : (ini d i)[k]'(by rw [ini_len]; exact h2) = atL (ini d i) k := by
    have h3 : k < (ini d i).length := by rw [ini_len]; exact h2
    simp [atL, List.getD_eq_getElem?_getD, h3]
  rw [e1, e2, h.2 k h2, ini_at d i k h2]
  by_cases e : df.acpt d i = df.acpt d k
  · rw [if_neg fun q => q.2 e, if_pos e]
  · rw [if_pos ⟨h2, e⟩, if_neg e]
def zT (w : World) : List Nat → Nat
  | [] => 0
  | g :: gs => zW w g + zT w gs
theorem zT_of {w : World} : ∀ (gs : List Nat) (t : List (List Int)), gs.length = t.length → (∀ k, k < t.length → ∃ g, gs[k]? = some g ∧ ZRow w g (nthL t k)) → zT w gs = zs2 t
  | [], [], _, _ => rfl
  | [], r :: t, h, _ => by simp at h
  | g :: gs, [], h, _ => by simp at h
  | g :: gs, r :: t, h, hk => by
    obtain ⟨g0, e0, hz⟩ := hk 0 (by simp)
    obtain rfl : g = g0 := by simpa using e0
    have ih := zT_of gs t (by simpa using h) fun k hlt => by
      obtain ⟨g', e', hz'⟩ := hk (k + 1) (by simpa using hlt)
      exact ⟨g', by simpa using e', hz'⟩
    show zW w g + zT w gs = zeros r + zs2 t
    rw [ih, zW_row (show ZRow w g r from hz)]
theorem TB.zeros {w : World} {B : Nat} {tv : Value} {gs : List Nat} {t : List (List Int)} {n : Nat} (h : TB w B tv gs t n) : zT w gs = zs2 t :=
  zT_of gs t h.len fun k hk => by
    obtain ⟨g, e, _, hz, _⟩ := h.rows k hk
    exact ⟨g, e, hz⟩
theorem TB.push {w w' : World} {B : Nat} {tv : Value} {gs : List Nat} {t : List (List Int)} {n : Nat} (h : TB w B tv gs t n) {g : Nat} {r : List Int} (hz : ZRow w g r) (hB : B ≤ g) (hg : ∀ x ∈ gs, x ≠ g) (hr : r.length = n) {v' : Value} (ho : w'.ownsRow B 39 1 v' (t.length + 1) (gs.map (rv n) ++ [rv n g])) (hgr : w.grownBy w' tv.ownBlock) : TB w' B v' (gs ++ [g]) (t ++ [r]) n := by
  have kept : ∀ (k : Nat) (l : List Int), ZRow w k l → ZRow w' k l := fun k l hk => (hgr.block k hk.lt (ow.type h.own (show w.heap[k]? = _ from hk) (by decide))).trans hk
  refine ⟨by rw [List.length_append, List.map_append]; exact ho, by rw [List.length_append, List.length_append, h.len]; rfl, fun k hk => ?_, ?_⟩
  · rw [List.length_append] at hk
    by_cases e : k < t.length
    · obtain ⟨g', e1, h1, h2, h3⟩ := h.rows k e
      have en : nthL (t ++ [r]) k = nthL t k := by unfold nthL; rw [List.getD_eq_getElem?_getD, List.getD_eq_getElem?_getD, List.getElem?_append_left e]
      rw [en]
      exact ⟨g', by rw [List.getElem?_append_left (by rw [h.len]; exact e)]; exact e1, h1, kept _ _ h2, h3⟩
    · obtain rfl : k = t.length := by simp at hk; omega
      have en : nthL (t ++ [r]) t.length = r := by unfold nthL; rw [List.getD_eq_getElem?_getD, List.getElem?_append_right (Nat.le_refl _)]; simp
      rw [en]
      exact ⟨g, by rw [List.getElem?_append_right (by rw [h.len]; exact Nat.le_refl _), h.len]; simp, hB, kept _ _ hz, hr⟩
  · rw [List.nodup_append]
    exact ⟨h.nd, by simp, fun a ha b hb => by rw [List.mem_singleton.1 hb]; exact hg a ha⟩
theorem TB.below {w : World} {B : Nat} {tv : Value} {gs : List Nat} {t : List (List Int)} {n : Nat} (h : TB w B tv gs t n) : ∀ x ∈ gs, x < w.heap.size := fun x hx => by
  obtain ⟨k, hk, e⟩ := List.mem_iff_getElem.1 hx
  obtain ⟨g, e1, _, hz, _⟩ := h.rows k (by rw [← h.len]; exact hk)
  rw [List.getElem?_eq_getElem hk, e] at e1
  rw [Option.some.inj e1]; exact hz.lt
theorem TB.wide {w : World} {B K : Nat} {tv : Value} {gs : List Nat} {t : List (List Int)} {n : Nat} (h : TB w B tv gs t n) (hK : K ≤ B) : TB w K tv gs t n := by
  refine ⟨⟨h.own.1, ?_⟩, h.len, fun k hk => ?_, h.nd⟩
  · rcases h.own.2 with h0 | ⟨g, cap, cur, h1, h2, h3⟩
    · exact .inl h0
    · exact .inr ⟨g, cap, cur, h1, by omega, h3⟩
  · obtain ⟨g, e, h1, h2, h3⟩ := h.rows k hk
    exact ⟨g, e, by omega, h2, h3⟩
def ApartOut (d : df.Dfa) (w : World) (e : Ending) (w' : World) : Prop := ∃ (tv : Value) (gs : List Nat) (t : List (List Int)), e = .returned tv ∧ TB w' w.heap.size tv gs t d.next.length ∧ t.length = d.next.length ∧ (∀ i j, T2 t i j = 0 ∨ T2 t i j = 1) ∧ (∀ i j, i < d.next.length → j < d.next.length → (T2 t i j = 0 ↔ lg d i = lg d j)) ∧ Below w.heap.size w w'
def TB1 (w : World) (B : Nat) (tv : Value) (d : df.Dfa) (i : Nat) : Prop := ∃ gs, TB w B tv gs (iniT d i) d.next.length
set_option maxHeartbeats 8000000 in
set_option maxRecDepth 100000 in
theorem apart_any (d : df.Dfa) (hr : df.right d = true) (cs : Array Value) (o ao : Option Addr) (cap acap : Nat) (l : List Int) (lb : Nat) (w : World) (hD : df.DAt (df.In w) w d cs o cap ao acap) (hL : Lives d l) (hZ : ZRow w lb l) :
    Calls Try.prog 26 #[.agg cs, .slice (some ⟨lb, 0, none⟩) d.next.length d.next.length] w (ApartOut d w) := by
  have hok := df.ok_of d hr
  have hmost := hok.most
  have hone := hok.one
  have haccl := hok.accs
  have HW8 := (show Hid (cs.size = 258) from hD.size)
  have hc256 := hD.nx
  obtain ⟨wA, hwA⟩ : ∃ wA, wA = w.alloc (.cells cs 26) := ⟨_, rfl⟩
  have B0 : Below w.heap.size w wA := by rw [hwA]; exact below_alloc w _
  have xA : df.DBox wA w.heap.size cs := by rw [hwA]; exact df.dbox_new w cs
  have HSA := (show Hid (wA.heap.size = w.heap.size + 1) from by rw [hwA]; show (w.alloc _).heap.size = _; simp)
  obtain ⟨w1, hw1⟩ : ∃ w1, w1 = wA.alloc (.cells #[] 39) := ⟨_, rfl⟩
  have B1 : Below wA.heap.size wA w1 := by rw [hw1]; exact below_alloc wA _
  have HT1 := (show Hid (TB1 w1 wA.heap.size (.slice (some ⟨w.heap.size + 1, 0, none⟩) 0 0) d 0) from ⟨[], ⟨by rw [← HSA.out, hw1]; exact World.ownsRow_made wA #[] 0 (Nat.le_refl _) (Nat.zero_le _) rfl, rfl, fun k hk => (by rw [iniT_len] at hk; omega), List.nodup_nil⟩⟩)
  have HA := (show Hid _ from hD.later B0)
  have HZA := (show Hid (ZRow wA lb l) from hZ.later B0)
  have XA := (show Hid (df.DBox wA w.heap.size cs) from xA)
  have f1 := HA.out.rows.fit
  have f2 := HA.out.rows.top
  have f3 := HA.out.accs.fit
  have f4 := HA.out.accs.top
  have hmk := makeZ d.next.length (by omega)
  have HL := (show Hid (Lives d l) from hL)
  clear hD hok hL hZ
  go_enter Try.func26, Try.ntmps26
  go_wp2_with (fail)
  rw [← hwA, ← hw1]
  clear hw1 hwA xA hc256
  go_loopw [7, 6] (fun y v wr => ∃ (i : Nat) (tg : Option Addr) (tc : Nat), y = .int .i64 (i : Int) ∧ v = .slice tg i tc ∧ i ≤ d.next.length ∧ i ≤ tc ∧ tc ≤ 9223372036854775807 ∧ Below wA.heap.size wA wr ∧ Hid (TB1 wr wA.heap.size (.slice tg i tc) d i)) (fun y _ _ => d.next.length - (intOf y).toNat)
  case atStart => exact ⟨0, _, 0, rfl, rfl, by omega, by omega, by omega, B1, HT1⟩
  case round =>
    clear HT1 B1
    obtain ⟨i, tg, tc, rfl, rfl, hi, tf1, tf2, hBi, HT⟩ := hrel
    by_cases hlt : i < d.next.length
    · obtain ⟨w2, hw2⟩ : ∃ w2, w2 = wr.alloc (.cells (ics (List.replicate d.next.length 0)) 3) := ⟨_, rfl⟩
      have B2 : Below wr.heap.size wr w2 := by rw [hw2]; exact below_alloc wr _
      have Z2 : ZRow w2 wr.heap.size (List.replicate d.next.length 0) := by rw [hw2]; exact heap_alloc_new wr _
      go_wp2_with (fail)
      rw [← hw2]
      clear hw2
      generalize wr = wq at *
      go_loopw [26] (fun y wr => ∃ (j : Nat) (r : List Int), y = .int .i64 (j : Int) ∧ j ≤ d.next.length ∧ Below wq.heap.size wq wr ∧ ZRow wr wq.heap.size r ∧ Hid (Mk2 d i r j)) (fun y _ => d.next.length - (intOf y).toNat)
      case atStart => exact ⟨0, _, rfl, by omega, B2, Z2, Mk2.start d i⟩
      case round =>
        clear B2 Z2
        obtain ⟨j, r, rfl, hj, hBj, hZj, HM⟩ := hrel
        have hBA := hBi.trans (hBj.mono hBi.size)
        by_cases hjl : j < d.next.length
        · have z1 := (XA.out.later hBA).ac HA.out
          obtain ⟨ab, aoff, rfl, hab, hac⟩ := HA.out.accs.lie i (by omega)
          obtain ⟨ab', aoff', e3, _, hac'⟩ := HA.out.accs.lie j (by omega)
          cases e3
          have k2 := (hBA.cell (p := ⟨ab, aoff + i, none⟩) hab).trans hac
          have k3 := (hBA.cell (p := ⟨ab, aoff + j, none⟩) hab).trans hac'
          have hlen := HM.out.1
          have a1 : df.acpt d i = d.acc[i]'(by omega) := by unfold df.acpt; rw [List.getElem?_eq_getElem (by omega)]; rfl
          have a2 : df.acpt d j = d.acc[j]'(by omega) := by unfold df.acpt; rw [List.getElem?_eq_getElem (by omega)]; rfl
          have HY := (show Hid (d.acc[i]'(by omega) ≠ d.acc[j]'(by omega) → Mk2 d i (r.set j 1) (j + 1)) from fun h => HM.out.yes hjl (by rw [a1, a2]; exact h))
          have HN := (show Hid (d.acc[i]'(by omega) = d.acc[j]'(by omega) → Mk2 d i r (j + 1)) from fun h => HM.out.no (by rw [a1, a2]; exact h))
          clear hac hac' a1 a2 HM
          generalize d.acc[i]'(by omega) = x at *
          generalize d.acc[j]'(by omega) = y at *
          by_cases hxy : x = y
          · subst hxy
            have HN2 := (show Hid _ from HN.out rfl)
            have hbb : (x == x) = true := by simp
            clear HY HN
            go_wp2_with (fail)
            go_quiet (fail)
            go_wp2_with (fail)
            go_roundw
            case rel => exact ⟨j + 1, r, by go_num, by omega, df.below_drewN hBj _, hZj, HN2.out⟩
            case measure => simp [intOf]; omega
          · have HY2 := (show Hid _ from HY.out hxy)
            have hbb : (x == y) = false := beq_eq_false_iff_ne.2 hxy
            clear HY HN
            go_wp2_with (fail)
            go_quiet (fail)
            have hZd : ZRow (wr.drewN nq) wq.heap.size r := hZj
            have k4 := hZd.at (i := j) (by omega)
            have fz := hZd.fz j
            have HZ3 := (show Hid (ZRow ((wr.drewN nq).setCell ⟨wq.heap.size, j, none⟩ (.int .i64 1)) wq.heap.size (r.set j 1)) from hZd.put j 1)
            have HB3 := (show Hid (Below wq.heap.size wq ((wr.drewN nq).setCell ⟨wq.heap.size, j, none⟩ (.int .i64 1))) from (df.below_drewN hBj nq).setCell (p := ⟨wq.heap.size, j, none⟩) (by simp) _)
            clear hZd
            generalize wr.drewN nq = wd at *
            go_wp2_with (fail)
            go_roundw
            case rel => exact ⟨j + 1, r.set j 1, by go_num, by omega, HB3.out, HZ3.out, HY2.out⟩
            case measure => simp [intOf]; omega
        · obtain rfl : j = d.next.length := by omega
          obtain rfl : r = ini d i := HM.out.done
          obtain ⟨gs, hTB⟩ := HT.out
          have hgs := hTB.below
          have hTr := hTB.later hBj
          have B3 := below_alloc wr (.cells #[rv d.next.length wq.heap.size] 39)
          have HT3 := (show Hid _ from hTr.later B3)
          have HZ3 := (show Hid (ZRow _ wq.heap.size (ini d i)) from hZj.later B3)
          have HN1 := (show Hid _ from ow.new1 wr (rv d.next.length wq.heap.size) 39)
          have hB3 : Below wA.heap.size wA (wr.alloc (.cells #[rv d.next.length wq.heap.size] 39)) := hBA.trans (B3.mono hBA.size)
          have hBw : wA.heap.size ≤ (wr.alloc (.cells #[rv d.next.length wq.heap.size] 39)).heap.size := hB3.size
          have HGS := (show Hid (∀ x ∈ gs, x ≠ wq.heap.size) from fun x hx => by have := hgs x hx; omega)
          have HQ := (show Hid (wA.heap.size ≤ wq.heap.size) from hBi.size)
          have HO1 := (show Hid (World.ownsRow (wr.alloc (.cells #[rv d.next.length wq.heap.size] 39)) wA.heap.size 39 1 (.slice tg i tc) i (gs.map (rv d.next.length))) from by have := HT3.out.own; rw [iniT_len] at this; exact this)
          clear HT hTB hTr HM hZj hgs
          generalize hwb : wr.alloc (.cells #[rv d.next.length wq.heap.size] 39) = wb at *
          go_wp2_with (at_builtin; refine ow.wpList_append (by rfl) (.tmp 44) (.tmp 46) 23 (by rfl) 39 (.slice none 0 0) 1 24 Try.underlying23 info39t (by rfl) (by decide) (by decide) wA.heap.size (.slice tg i tc) i (gs.map (rv d.next.length)) wr.heap.size [rv d.next.length wq.heap.size] (by rfl) (by rfl) (by exact HO1.out) (by rfl) (by exact HN1.out) (by exact ow.one1 _ rfl) (by omega) (by exact hBw) ?_; intro g' cap' w3 ho hgr hw3)
          have HT4 := (show Hid (TB1 w3 wA.heap.size (.slice (some ⟨g', 0, none⟩) (i + 1) cap') d (i + 1)) from ⟨gs ++ [wq.heap.size], by
            rw [iniT_succ]
            exact HT3.out.push HZ3.out HQ.out HGS.out (ini_len d i) (by rw [iniT_len]; exact ho) hgr⟩)
          have HB4 := (show Hid (Below wA.heap.size wA w3) from grown_low HO1.out hB3 hgr)
          obtain ⟨_, _, e5, e6, e7⟩ := row_len ho
          cases e5
          go_roundw
          case rel => exact ⟨i + 1, _, _, by go_num, rfl, by omega, e6, e7, HB4.out, HT4⟩
          case measure => simp [intOf]; omega
    · obtain rfl : i = d.next.length := by omega
      obtain ⟨gs, hTB⟩ := HT.out
      have HP := (show Hid (ApOk d (iniT d d.next.length)) from iniT_ok d)
      have hTB' : TB wr wA.heap.size (.slice tg d.next.length tc) gs (iniT d d.next.length) d.next.length := hTB
      generalize iniT d d.next.length = t1 at *
      clear HT hTB
      go_wp2_with (fail)
      go_loopw [10] (fun y wr => ∃ (t : List (List Int)) (more : Bool), y = .bool more ∧ Below wA.heap.size wA wr ∧ Hid (TB wr wA.heap.size (.slice tg d.next.length tc) gs t d.next.length) ∧ Hid (ApOk d t ∧ (more = false → ∀ a b, a < d.next.length → b < d.next.length → T2 t a b = 0 → ¬ Dif d l t a b))) (fun y wr => 2 * zT wr gs + (match y with | .bool true => 1 | _ => 0))
      case atStart => exact ⟨t1, true, rfl, hBi, hTB', HP.out, fun h => by cases h⟩
      case round =>
        clear hTB' hBi HP
        obtain ⟨t0, more0, rfl, hB0, HT0, HL0⟩ := hrel
        cases more0 with
        | false =>
          have HF := (show Hid _ from HL0.out.1.done hr HL.out (HL0.out.2 rfl))
          have HG := (show Hid (t0.length = d.next.length ∧ ∀ i j, T2 t0 i j = 0 ∨ T2 t0 i j = 1) from ⟨HL0.out.1.len, HL0.out.1.bin⟩)
          clear HL0
          go_wp2_with (fail)
          go_ret
          exact ⟨_, gs, t0, rfl, HT0.out.wide B0.size, HG.out.1, HG.out.2, HF.out, df.chain B0 hB0⟩
        | true =>
          have HP0 := (show Hid (Pass2 d l t0 t0 false 0 0) from ⟨HL0.out.1, fun h => (by cases h), fun _ => ⟨rfl, fun a b ha hb hab => (by omega)⟩⟩)
          have HZW := (show Hid (zT wr gs = zs2 t0) from HT0.out.zeros)
          clear HL0
          go_wp2_with (fail)
          go_loopw [11, 10] (fun y v wr => ∃ (i : Nat) (t : List (List Int)) (more : Bool), y = .int .i64 (i : Int) ∧ v = .bool more ∧ i ≤ d.next.length ∧ Below wA.heap.size wA wr ∧ Hid (TB wr wA.heap.size (.slice tg d.next.length tc) gs t d.next.length) ∧ Hid (Pass2 d l t0 t more i 0)) (fun y _ _ => d.next.length - (intOf y).toNat)
          case atStart => exact ⟨0, t0, false, rfl, rfl, by omega, hB0, HT0, HP0⟩
          case round =>
            clear HP0 HT0
            obtain ⟨i, t, more, rfl, rfl, hi, hBi, HT, HP⟩ := hrel
            by_cases hlt : i < d.next.length
            · go_wp2_with (fail)
              go_loopw [12, 10] (fun y v wr => ∃ (j : Nat) (t : List (List Int)) (more : Bool), y = .int .i64 (j : Int) ∧ v = .bool more ∧ j ≤ d.next.length ∧ Below wA.heap.size wA wr ∧ Hid (TB wr wA.heap.size (.slice tg d.next.length tc) gs t d.next.length) ∧ Hid (Pass2 d l t0 t more i j)) (fun y _ _ => d.next.length - (intOf y).toNat)
              case atStart => exact ⟨0, t, more, rfl, rfl, by omega, hBi, HT, HP⟩
              case round =>
                clear HT HP hBi
                obtain ⟨j, t, more, rfl, rfl, hj, hBj, HT, HP⟩ := hrel
                by_cases hjl : j < d.next.length
                · have htl : t.length = d.next.length := HP.out.ok.len
                  obtain ⟨q, qc, g, e1, hq1, hq2, hgs, hgB, hc1, hz1, hz2⟩ := HT.out.at (k := i) (by omega)
                  rw [htl] at e1
                  have e1' : tg = some ⟨q, 0, none⟩ := by cases e1; rfl
                  subst e1'
                  have kz := hz1.at (i := j) (by omega)
                  have fzz := hz1.fz j
                  have b2 := HP.out.ok.bin i j
                  have HSK := (show Hid ((T2 t i j = 0 → ¬ Dif d l t i j) → Pass2 d l t0 t more i (j + 1)) from fun h => HP.out.skip h)
                  have HMK := (show Hid (T2 t i j = 0 → Dif d l t i j → Pass2 d l t0 (put2 t i j) true i (j + 1)) from fun h0 h1 => HP.out.mark hr HL.out hlt hjl h0 h1)
                  have HTP := (show Hid (TB (wr.setCell ⟨g, j, none⟩ (.int .i64 1)) wA.heap.size (.slice (some ⟨q, 0, none⟩) d.next.length tc) gs (put2 t i j) d.next.length) from HT.out.put (by omega) hjl hgs)
                  have HBP := (show Hid (Below wA.heap.size wA (wr.setCell ⟨g, j, none⟩ (.int .i64 1))) from hBj.setCell (p := ⟨g, j, none⟩) hgB _)
                  have xj := XA.out.later hBj
                  have HC := (show Hid (∀ rb : Bool, (rb = true ↔ Dif d l t i j) → Calls Try.prog 42 #[.agg cs, .slice (some ⟨lb, 0, none⟩) d.next.length d.next.length, .slice (some ⟨q, 0, none⟩) d.next.length tc, .int .i64 (i : Int), .int .i64 (j : Int)] wr fun e w' => e = .returned (.bool rb) ∧ Below wr.heap.size wr w') from fun rb hrb => differ_any d hr cs o ao cap acap l lb wA.heap.size _ gs t i j hlt hjl rb hrb wr (HA.out.later hBj) HL.out.1 HL.out.2.1 (HZA.out.later hBj) HT.out htl HP.out.ok.bin)
                  have HTl := (show Hid (∀ w', Below wr.heap.size wr w' → TB w' wA.heap.size (.slice (some ⟨q, 0, none⟩) d.next.length tc) gs t d.next.length) from fun w' b => HT.out.later b)
                  have kz' : wr.cell? ⟨g, j, none⟩ = some (.int .i64 (T2 t i j)) := kz
                  have HXX := (show Hid (∀ w', Below wr.heap.size wr w' → w'.cell? ⟨q, i, none⟩ = some (rv d.next.length g) ∧ w'.cell? ⟨g, j, none⟩ = some (.int .i64 (T2 t i j)) ∧ w'.frozen? ⟨g, j, none⟩ = false) from fun w' b => by
                    have hz' := hz1.later b
                    exact ⟨(b.cell (p := ⟨q, i, none⟩) (block_lt_of_cell hc1)).trans hc1, hz'.at (by omega), hz'.fz j⟩)
                  have HPU := (show Hid (∀ w', Below wr.heap.size wr w' → TB (w'.setCell ⟨g, j, none⟩ (.int .i64 1)) wA.heap.size (.slice (some ⟨q, 0, none⟩) d.next.length tc) gs (put2 t i j) d.next.length ∧ Below wA.heap.size wA (w'.setCell ⟨g, j, none⟩ (.int .i64 1))) from fun w' b => ⟨(HT.out.later b).put (by omega) hjl hgs, (hBj.trans (b.mono hBj.size)).setCell (p := ⟨g, j, none⟩) hgB _⟩)
                  clear kz HT HP hz1 hz2 hgs HTP HBP e1
                  rcases b2 with h0 | h1
                  · rw [h0] at kz'
                    by_cases hd : Dif d l t i j
                    · have c42 := HC.out true ⟨fun _ => hd, fun _ => rfl⟩
                      have HF := (show Hid _ from HMK.out h0 hd)
                      clear HSK HMK HC h0
                      go_wp2_with (fail)
                      refine wp_load_row 26 (.tmp 2) rfl w.heap.size rfl 26 cs (0, 0) _ xj Try.underlying26 rfl (df.info26 cs HW8.out) ?_
                      go_wp2_with (fail)
                      go_at_call 42
                      refine c42.mono ?_
                      rintro e w4 ⟨rfl, b4⟩
                      obtain ⟨m1, m2, m3⟩ := HXX.out w4 b4
                      have HG := (show Hid _ from HPU.out w4 b4)
                      clear kz' hc1 fzz
                      go_wp2_with (fail)
                      go_roundw
                      case rel => exact ⟨j + 1, put2 t i j, true, by go_num, rfl, by omega, HG.out.2, HG.out.1, HF⟩
                      case measure => simp [intOf]; omega
                    · have c42 := HC.out false ⟨fun h => (by cases h), fun h => absurd h hd⟩
                      have HF := (show Hid _ from HSK.out fun _ => hd)
                      clear HSK HMK HC h0
                      go_wp2_with (fail)
                      refine wp_load_row 26 (.tmp 2) rfl w.heap.size rfl 26 cs (0, 0) _ xj Try.underlying26 rfl (df.info26 cs HW8.out) ?_
                      go_wp2_with (fail)
                      go_at_call 42
                      refine c42.mono ?_
                      rintro e w4 ⟨rfl, b4⟩
                      have HG := (show Hid _ from HTl.out w4 b4)
                      have hB4 := hBj.trans (b4.mono hBj.size)
                      go_wp2_with (fail)
                      go_roundw
                      case rel => exact ⟨j + 1, t, more, by go_num, rfl, by omega, hB4, HG, HF⟩
                      case measure => simp [intOf]; omega
                  · rw [h1] at kz'
                    have HF := (show Hid _ from HSK.out fun h => (by omega))
                    have HG := (show Hid _ from HTl.out wr (Below.refl _ _))
                    clear HSK HMK HC h1
                    go_wp2_with (fail)
                    go_roundw
                    case rel => exact ⟨j + 1, t, more, by go_num, rfl, by omega, hBj, HG, HF⟩
                    case measure => simp [intOf]; omega
                · obtain rfl : j = d.next.length := by omega
                  have HF := (show Hid _ from HP.out.row)
                  clear HP
                  go_wp2_with (fail)
                  go_roundw
                  case rel => exact ⟨i + 1, t, more, by go_num, rfl, by omega, hBj, HT, HF⟩
                  case measure => simp [intOf]; omega
            · obtain rfl : i = d.next.length := by omega
              have HF := (show Hid (ApOk d t ∧ (more = false → ∀ a b, a < d.next.length → b < d.next.length → T2 t a b = 0 → ¬ Dif d l t a b)) from ⟨HP.out.ok, fun e a b ha hb h0 => (HP.out.no e).2 a b ha hb (.inl ha) h0⟩)
              have HQ := (show Hid (2 * zs2 t + (match Value.bool more with | .bool true => 1 | _ => 0) < 2 * zs2 t0 + 1) from by
                cases hm : more with
                | true => have := HP.out.yes hm; show 2 * zs2 t + 1 < _; omega
                | false => have := (HP.out.no hm).1; show 2 * zs2 t + 0 < _; rw [this]; omega)
              have HZ4 := (show Hid (zT wr gs = zs2 t) from HT.out.zeros)
              clear HP
              go_wp2_with (fail)
              go_roundw
              case rel => exact ⟨t, more, rfl, hBi, HT, HF⟩
              case measure => show 2 * zT _ _ + _ < 2 * zT _ _ + _; rw [HZ4.out, HZW.out]; exact HQ.out
end Go.Proofs.Ytkdkibnjfgcppaa.mi
