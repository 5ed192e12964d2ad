/-
  Texts put together: Contracts over this program: what may be dropped (the document's Drop), merges of which some are left out (the document's Tokens). Contracts over this program: the document's Tokens, some merges left out.
-/
import Derived.Test.YtmmlibehihknbaaM11
import Derived.Laws.OwnMore
namespace Go.Proofs.Ytmmlibehihknbaa.hp
open Go.ChangeShapes Go.WideShapes Go.ChangeAt Go.RowKit Go.Shelf Go.Maps
open mg
set_option linter.unusedVariables false
set_option maxRecDepth 100000

def cellsM (l : List Mg) : List Value := l.flatMap fun m => [iv m.1, iv m.2]
theorem cellsM_len (l : List Mg) : (cellsM l).length = l.length * 2 := by
  induction l with
  | nil => rfl
  | cons m l ih => simp only [cellsM, List.flatMap_cons, List.length_append] at ih ⊢; rw [ih]; simp; omega
theorem cellsM_append (l k : List Mg) : cellsM (l ++ k) = cellsM l ++ cellsM k := by simp [cellsM]
theorem cellsM_one (l : List Mg) : ∀ u ∈ cellsM l, u.oneCell' = true := fun u hu => by
  obtain ⟨m, _, h⟩ := List.mem_flatMap.1 hu
  simp at h
  rcases h with rfl | rfl <;> rfl
theorem cellsM_get (l : List Mg) (i : Nat) (h : i < l.length) : (cellsM l)[i * 2]? = some (iv l[i].1) ∧ (cellsM l)[i * 2 + 1]? = some (iv l[i].2) := by
  induction l generalizing i with
  | nil => simp at h
  | cons s l ih =>
    cases i with
    | zero => exact ⟨rfl, rfl⟩
    | succ i =>
      have := ih i (by simpa using h)
      have e1 : (i + 1) * 2 = i * 2 + 1 + 1 := by omega
      rw [e1]
      exact this
def OwnM (W : World) (B : Nat) (v : Value) (l : List Mg) : Prop := W.ownsRow B 70 2 v l.length (cellsM l)
theorem OwnM.mgs {W : World} {B : Nat} {v : Value} {l : List Mg} (h : OwnM W B v l) : Mgs W v l := by
  rcases h.2 with ⟨rfl, h0⟩ | ⟨g, cap, cur, rfl, hb, hg, hn, hc, hs, ht⟩
  · have e : l = [] := List.length_eq_zero_iff.1 h0
    subst e
    exact ⟨_, _, rfl, Nat.le_refl _, by omega, fun i h => by simp at h⟩
  · refine ⟨_, cap, rfl, hn, by unfold maxLen at hc; omega, fun i hi => ⟨g, 0, rfl, (Array.getElem?_eq_some_iff.1 hg).1, ?_⟩⟩
    have h2 := cellsM_get l i hi
    have hl := cellsM_len l
    rw [Nat.zero_add, World.ownsRow.cellAt h (i * 2) (by omega), World.ownsRow.cellAt h (i * 2 + 1) (by omega)]
    exact h2
theorem info70 : (Try.prog.info? 70).map (fun i => (i.zero, i.size, i.bytes)) = some (some (.agg #[.int .i64 0, .int .i64 0]), 2, 16) := by kernel_rfl
theorem app_any (W : World) (B : Nat) (v : Value) (l k : List Mg) (hown : OwnM W B v l) (a : Addr) (c : Nat) (ty : TypeId) (hn : ∀ j u, (cellsM k)[j]? = some u → W.cell? (a.add j) = some u) (hsm : (l.length + k.length) * 16 ≤ 140737488355328) (hB : B ≤ W.heap.size) :
    ∃ v' w', (Builtin.append_ #[37, 37] ty #[v, .slice (some a) k.length c]).run Try.prog W = .ok v' w' ∧ OwnM w' B v' (l ++ k) ∧ W.grownBy w' v.ownBlock := by
  obtain ⟨i0, hi, hz0, hz1, hz2⟩ := info_parts info70
  obtain ⟨v', w', h1, h2, h3, _⟩ := run_append_own (P := Try.prog) W B 37 ty 70 i0 _ 2 16 Try.underlying37 hi hz0 hz1 hz2 rfl (by omega) v l.length (cellsM l) hown a k.length c (cellsM k) (cellsM_len k) hn (cellsM_one k) (by unfold maxLen; omega) hsm hB
  exact ⟨v', w', h1, by unfold OwnM; rw [List.length_append, cellsM_append]; exact h2, h3⟩
theorem app_1 (W : World) (B : Nat) (v : Value) (l : List Mg) (p : Mg) (g : Nat) (hown : OwnM W B v l) (hg : W.heap[g]? = some (.cells #[.int .i64 p.1, .int .i64 p.2] 70 (0, 0))) (ty : TypeId) (hsm : l.length * 16 ≤ 140737488351232) (hB : B ≤ W.heap.size) :
    ∃ v' w', (Builtin.append_ #[37, 37] ty #[v, .slice (some ⟨g, 0, none⟩) 1 1]).run Try.prog W = .ok v' w' ∧ OwnM w' B v' (l ++ [p]) ∧ W.grownBy w' v.ownBlock :=
  app_any W B v l [p] hown ⟨g, 0, none⟩ 1 ty (fun j u hj => by
    have hadd : (⟨g, 0, none⟩ : Addr).add j = ⟨g, j, none⟩ := by unfold Addr.add; split <;> simp_all
    rw [hadd, Lib.cell_of_heap hg]
    match j, hj with
    | 0, hj => exact hj
    | 1, hj => exact hj
    | (j + 2), hj => simp [cellsM] at hj) (by simp; omega) hB
theorem made_M (W : World) (B : Nat) (hB : B ≤ W.heap.size) : OwnM (W.alloc (.cells #[] 70)) B (.slice (some ⟨W.heap.size, 0, none⟩) 0 0) [] := ⟨rfl, .inr ⟨W.heap.size, 0, #[], rfl, hB, heap_alloc_new W _, Nat.le_refl _, by unfold maxLen; omega, rfl, rfl⟩⟩
theorem OwnM.later {W W' : World} {B : Nat} {v : Value} {l : List Mg} (h : OwnM W B v l) (b : Below W.heap.size W W') : OwnM W' B v l := ow.later h b

set_option maxHeartbeats 4000000 in
theorem drop_any (l : List Int) (n : Nat) (hn : n ≤ 1024) (v : Value) (w : World) (h : IntsV w v l) : Calls Try.prog 21 #[v, iv n] w fun e w' => e = .returned (.bool (numB 0 n l)) ∧ Below w.heap.size w w' := by
  obtain ⟨o, cap, rfl, h1⟩ := h
  have f1 := h1.fit
  have f2 := h1.top
  have H1 : Hid (Row (In w) w iv o cap l) := h1
  clear h1
  go_enter Try.func21, Try.ntmps21
  go_wp2_with (fail)
  go_loopw [9] (fun y wr => ∃ (i m : Nat), y = .int .i64 i ∧ i ≤ l.length ∧ m ≤ 1024 ∧ Hid (numB 0 n l = numB m n (l.drop i)) ∧ Hid (∀ j x, i = j + 1 → l[j]? = some x → (m : Int) = x + 1) ∧ Hid (i = 0 → m = 0) ∧ Below w.heap.size w wr) (fun y _ => l.length - (intOf y).toNat)
  case atStart => exact ⟨0, 0, rfl, by omega, by omega, by show _ = _; simp, fun j x e => by omega, fun _ => rfl, Below.refl _ _⟩
  case round =>
    obtain ⟨i, m, rfl, hil, hm, HK, HP, HZ, hB⟩ := hrel
    by_cases hend : i < l.length
    · obtain ⟨b, off, rfl, hb, hc⟩ := H1.out.lie i hend
      have k1 := (hB.cell (p := ⟨b, off + i, none⟩) hb).trans hc
      have HN : Hid (numB 0 n l = if l[i] < (m : Int) ∨ (n : Int) ≤ l[i] then false else numB (l[i] + 1) n (l.drop (i + 1))) := by show _ = _; rw [HK.out, numB_at l _ i hend]
      have HX := (show Hid (l[i]? = some l[i]) from List.getElem?_eq_getElem hend)
      have hgo : ∀ k : Nat, l[i] = (k : Int) → ¬ (k : Int) < (m : Int) → ¬ (n : Int) ≤ (k : Int) → numB 0 n l = numB ((k + 1 : Nat) : Int) n (l.drop (i + 1)) ∧ k + 1 ≤ 1024 ∧ ∀ j x, i + 1 = j + 1 → l[j]? = some x → ((k + 1 : Nat) : Int) = x + 1 := fun k hk h1 h2 => by
        refine ⟨by rw [HN.out, hk, if_neg (by omega)]; rfl, by omega, fun j x e hx => ?_⟩
        have : j = i := by omega
        subst this
        rw [HX.out, hk] at hx
        have := Option.some.inj hx
        omega
      have HGO := (show Hid _ from hgo)
      generalize hxi : l[i] = x at *
      have HXI := (show Hid (l[i]? = some x) from HX.out)
      clear hc HK hxi hgo HX
      by_cases h1 : x < 0
      · have HE : Hid (numB 0 n l = false) := by show _ = _; rw [HN.out, if_pos (.inl (by omega))]
        have d1 : decide (x < 0) = true := decide_eq_true h1
        clear h1 HN HGO
        go_wp2_with (fail)
        go_ret
        exact ⟨by rw [HE.out]; rfl, hB⟩
      · have d1 : decide (x < 0) = false := decide_eq_false h1
        obtain ⟨k, rfl⟩ : ∃ k : Nat, x = (k : Int) := ⟨x.toNat, by omega⟩
        clear h1
        by_cases h2 : n ≤ k
        · have HE : Hid (numB 0 n l = false) := by show _ = _; rw [HN.out, if_pos (.inr (by omega))]
          have d2 : decide ((n : Int) ≤ (k : Int)) = true := decide_eq_true (by omega)
          clear HN HGO d2
          go_wp2_with (fail)
          go_ret
          exact ⟨by rw [HE.out]; rfl, hB⟩
        · have d2 : decide ((n : Int) ≤ (k : Int)) = false := decide_eq_false (by omega)
          rcases i with _ | j
          · have hm0 := HZ.out rfl
            subst hm0
            obtain ⟨g1, g2, g3⟩ := HGO.out k rfl (by omega) (by omega)
            have G1 := (show Hid _ from g1)
            have G3 := (show Hid (∀ j x, 0 + 1 = j + 1 → l[j]? = some x → ((k + 1 : Nat) : Int) = x + 1) from g3)
            have k1 : wr.cell? ⟨b, off, none⟩ = some (iv (k : Int)) := by simpa using k1
            clear HN HGO g1 g3 HP HZ
            go_wp2_with (fail)
            go_roundw
            case rel => exact ⟨1, k + 1, by go_num, by omega, g2, G1, G3, fun e => by omega, hB⟩
            case measure => simp [intOf]; omega
          · obtain ⟨b', off', e', hb', hc'⟩ := H1.out.lie j (by omega)
            cases e'
            have k2 := (hB.cell (p := ⟨b, off + j, none⟩) hb).trans hc'
            have hmp := HP.out j l[j] rfl (List.getElem?_eq_getElem (by omega))
            have hw : IntKind.i64.wrap ((j : Int) + 1 - 1) = (j : Int) := by rw [show (j : Int) + 1 - 1 = (j : Int) by omega]; exact IntWalk.i64_in _ (by omega)
            by_cases h3 : (k : Int) < (m : Int)
            · have HE : Hid (numB 0 n l = false) := by show _ = _; rw [HN.out, if_pos (.inl h3)]
              have d3 : decide ((k : Int) ≤ l[j]) = true := decide_eq_true (by omega)
              generalize l[j] = y at *
              clear HN HGO HP HZ hmp h3 hc'
              go_wp2_with (fail)
              go_ret
              exact ⟨by rw [HE.out]; rfl, hB⟩
            · have d3 : decide ((k : Int) ≤ l[j]) = false := decide_eq_false (by omega)
              obtain ⟨g1, g2, g3⟩ := HGO.out k rfl h3 (by omega)
              have G1 := (show Hid _ from g1)
              have G3 := (show Hid (∀ j' x, j + 1 + 1 = j' + 1 → l[j']? = some x → ((k + 1 : Nat) : Int) = x + 1) from g3)
              generalize l[j] = y at *
              clear HN HGO HP HZ hmp h3 hc' g1 g3
              go_wp2_with (fail)
              go_roundw
              case rel => exact ⟨j + 1 + 1, k + 1, by go_num, by omega, g2, G1, G3, fun e => by omega, hB⟩
              case measure => simp [intOf]; omega
    · have HE : Hid (numB 0 n l = true) := by show _ = _; rw [HK.out, List.drop_of_length_le (by omega)]; rfl
      clear HK
      go_wp2_with (fail)
      go_ret
      exact ⟨by rw [HE.out]; rfl, hB⟩
end Go.Proofs.Ytmmlibehihknbaa.hp

namespace Go.Proofs.Ytmmlibehihknbaa.hp
open Go.ChangeShapes Go.WideShapes Go.ChangeAt Go.RowKit Go.Shelf Go.Maps
open mg
set_option linter.unusedVariables false
set_option maxRecDepth 100000

def left (d : List Int) (i : Nat) (p : Mg) : Mg := if ((i : Nat) : Int) ∈ d then (-1, -1) else p
theorem kept_take (l : List Mg) (d : List Int) (i : Nat) (h : i < l.length) : (keptL l d).take (i + 1) = (keptL l d).take i ++ [left d i l[i]] := by
  rw [List.take_add_one, kept_at, List.getElem?_eq_getElem h]
  rfl
theorem kept_tl (l : List Mg) (d : List Int) (i : Nat) (h : i ≤ l.length) : ((keptL l d).take i).length = i := by
  rw [List.length_take, kept_len]; omega
theorem left_next (d : List Int) (i j : Nat) (p : Mg) (hj : j < d.length) : left (d.take (j + 1)) i p = if d[j] = (i : Int) then (-1, -1) else left (d.take j) i p := by
  unfold left
  rw [List.take_add_one, List.getElem?_eq_getElem hj]
  by_cases h : d[j] = (i : Int)
  · rw [if_pos h, if_pos (List.mem_append_right _ (by simp [h]))]
  · rw [if_neg h]
    have : ((i : Int) ∈ d.take j ++ (some d[j]).toList) ↔ (i : Int) ∈ d.take j := by
      constructor
      · intro hm
        rcases List.mem_append.1 hm with q | q
        · exact q
        · simp at q
          exact absurd q.symm h
      · exact fun q => List.mem_append_left _ q
    simp only [this]
theorem own_down {W : World} {B B' : Nat} {v : Value} {l : List Int} (h : Owns W B v l) (hb : B' ≤ B) : Owns W B' v l := by
  refine ⟨h.1, ?_⟩
  rcases h.2 with h0 | ⟨g, cap, cur, rfl, h1, hr⟩
  · exact .inl h0
  · exact .inr ⟨g, cap, cur, rfl, Nat.le_trans hb h1, hr⟩
set_option maxHeartbeats 4000000 in
theorem rtokens_any (l : List Mg) (hl4 : l.length ≤ 1024) (d : List Int) (s : ByteArray) (hs : s.size ≤ 100000) (v vd : Value) (w : World) (hv : Mgs w v l) (hvd : IntsV w vd d) : Calls Try.prog 25 #[v, vd, .string s] w fun e w' => ∃ v', e = .returned v' ∧ Owns w' w.heap.size v' (app (keptL l d) (idsOf s)) ∧ Below w.heap.size w w' := by
  obtain ⟨o, cap, rfl, hl, hm, hc⟩ := hv.form
  obtain ⟨od, capd, rfl, hrd⟩ := hvd
  have g1 := hrd.fit
  have g2 := hrd.top
  have HC := (show Hid _ from hc)
  have HRD : Hid (Row (In w) w iv od capd d) := hrd
  have O0 := (show Hid (OwnM (w.alloc (.cells #[] 70)) w.heap.size (.slice (some ⟨w.heap.size, 0, none⟩) 0 0) []) from made_M w _ (Nat.le_refl _))
  have B0 := (show Hid (Below w.heap.size w (w.alloc (.cells #[] 70))) from below_alloc w _)
  clear hv hc hrd
  go_enter Try.func25, Try.ntmps25
  go_wp2_with (fail)
  generalize w.alloc (.cells #[] 70) = w2 at *
  go_loopw [15, 7] (fun y x wr => ∃ (i : Nat) (g : Option Addr) (c : Nat), y = .int .i64 i ∧ x = .slice g i c ∧ i ≤ l.length ∧ i ≤ c ∧ c ≤ 9223372036854775807 ∧ Hid (OwnM wr w.heap.size (.slice g i c) ((keptL l d).take i)) ∧ Hid (Below w.heap.size w wr)) (fun y _ _ => l.length - (intOf y).toNat)
  case atStart => exact ⟨0, _, 0, rfl, rfl, by omega, by omega, by omega, by rw [List.take_zero]; exact O0, B0⟩
  case round =>
    clear O0 B0
    obtain ⟨i, g, c, rfl, rfl, hi, ic, cm, HO, HB⟩ := hrel
    by_cases hend : i < l.length
    · obtain ⟨bl, off, rfl, hlt, c1, c2⟩ := HC.out i hend
      have k1 := (HB.out.cell (p := ⟨bl, off + i * 2, none⟩) hlt).trans c1
      have k2 := (HB.out.cell (p := ⟨bl, off + i * 2 + 1, none⟩) hlt).trans c2
      have HT := (show Hid ((keptL l d).take (i + 1) = (keptL l d).take i ++ [left d i l[i]]) from kept_take l d i hend)
      generalize l[i] = m at *
      obtain ⟨x, y⟩ := m
      simp only at k1 k2
      have ba := below_alloc wr (.cells #[.int .i64 x, .int .i64 y] 70)
      have HO1 := (show Hid (OwnM (wr.alloc (.cells #[.int .i64 x, .int .i64 y] 70)) w.heap.size (.slice g i c) ((keptL l d).take i)) from HO.out.later ba)
      have HB1 := (show Hid (Below w.heap.size w (wr.alloc (.cells #[.int .i64 x, .int .i64 y] 70))) from HB.out.trans (ba.mono HB.out.size))
      have HX1 := (show Hid ((wr.alloc (.cells #[.int .i64 x, .int .i64 y] 70)).heap[wr.heap.size]? = some (.cells #[.int .i64 x, .int .i64 y] 70 (0, 0))) from World.alloc_heap_new wr _)
      have HNE := (show Hid (∀ k, (Value.slice g i c).ownBlock = some k → k ≠ wr.heap.size) from fun k e => by have := (ow.lt HO.out e).2; omega)
      have HGE := (show Hid (w.heap.size ≤ wr.heap.size) from HB.out.size)
      clear c1 c2 ba HO
      go_wp2_with (fail)
      generalize wr.alloc (.cells #[.int .i64 x, .int .i64 y] 70) = w3 at *
      obtain ⟨bx, HBX⟩ : ∃ bx, Hid (bx = wr.heap.size) := ⟨_, rfl⟩
      rw [← HBX.out] at HX1 HNE HGE ⊢
      go_loopw [22] (fun z wz => ∃ (j : Nat) (p : Mg), z = .int .i64 j ∧ j ≤ d.length ∧ Hid (p = left (d.take j) i (x, y)) ∧ Hid (wz.heap[bx]? = some (.cells #[.int .i64 p.1, .int .i64 p.2] 70 (0, 0))) ∧ Hid (OwnM wz w.heap.size (.slice g i c) ((keptL l d).take i)) ∧ Hid (Below w.heap.size w wz)) (fun z _ => d.length - (intOf z).toNat)
      case atStart => exact ⟨0, (x, y), rfl, by omega, by show _ = _; simp [left], HX1, HO1, HB1⟩
      case round =>
        clear HX1 HO1 HB1
        obtain ⟨j, ⟨p1, p2⟩, rfl, hj, HP, HX, HO, HB⟩ := hrel
        have x0 : wr.cell? ⟨bx, 0, none⟩ = some (.int .i64 p1) := by rw [Lib.cell_of_heap HX.out]; rfl
        have x1 : wr.cell? ⟨bx, 1, none⟩ = some (.int .i64 p2) := by rw [Lib.cell_of_heap HX.out]; rfl
        by_cases hend2 : j < d.length
        · obtain ⟨b, off2, rfl, hb, hc⟩ := HRD.out.lie j hend2
          have k0 := (HB.out.cell (p := ⟨b, off2 + j, none⟩) hb).trans hc
          have HN := (show Hid (left (d.take (j + 1)) i (x, y) = if d[j] = (i : Int) then (-1, -1) else left (d.take j) i (x, y)) from left_next d i j (x, y) hend2)
          generalize d[j] = dj at *
          clear hc
          by_cases he : dj = (i : Int)
          · subst he
            have f0 : wr.frozen? ⟨bx, 0, none⟩ = false := Lib.frozen_of_heap HX.out 0
            have f1 : wr.frozen? ⟨bx, 1, none⟩ = false := Lib.frozen_of_heap HX.out 1
            have HX2 := (show Hid (((wr.setCell ⟨bx, 0, none⟩ (.int .i64 (-1))).setCell ⟨bx, 1, none⟩ (.int .i64 (-1))).heap[bx]? = some (.cells #[.int .i64 (-1), .int .i64 (-1)] 70 (0, 0))) from by
              have q1 := heap_setCell_same wr bx 0 #[.int .i64 p1, .int .i64 p2] 70 (.int .i64 (-1)) HX.out
              have q2 := heap_setCell_same _ bx 1 _ 70 (.int .i64 (-1)) q1
              show _ = _
              simpa using q2)
            have oth : ∀ k, k ≠ bx → ((wr.setCell ⟨bx, 0, none⟩ (.int .i64 (-1))).setCell ⟨bx, 1, none⟩ (.int .i64 (-1))).heap[k]? = wr.heap[k]? := fun k hk => (Below.heap_setCell _ _ _ _ hk).trans (Below.heap_setCell _ _ _ _ hk)
            have HO2 := (show Hid (OwnM ((wr.setCell ⟨bx, 0, none⟩ (.int .i64 (-1))).setCell ⟨bx, 1, none⟩ (.int .i64 (-1))) w.heap.size (.slice g i c) ((keptL l d).take i)) from own_keep HO.out fun k e => oth k (HNE.out k e))
            have HB2 := (show Hid (Below w.heap.size w ((wr.setCell ⟨bx, 0, none⟩ (.int .i64 (-1))).setCell ⟨bx, 1, none⟩ (.int .i64 (-1)))) from (HB.out.setCell (by exact HGE.out) _).setCell (by exact HGE.out) _)
            have d1 : ((i : Int) == (i : Int)) = true := beq_self_eq_true _
            clear oth
            go_wp2_with (fail)
            go_roundw
            case rel => exact ⟨j + 1, (-1, -1), by go_num, by omega, by show _ = _; rw [HN.out, if_pos rfl], HX2, HO2, HB2⟩
            case measure => simp [intOf]; omega
          · have d1 : (dj == (i : Int)) = false := beq_eq_false_iff_ne.2 he
            have HN2 := (show Hid ((p1, p2) = left (d.take (j + 1)) i (x, y)) from by show _ = _; rw [HN.out, if_neg he]; exact HP.out)
            clear he HN HP
            go_wp2_with (fail)
            go_roundw
            case rel => exact ⟨j + 1, (p1, p2), by go_num, by omega, HN2, HX, HO, HB⟩
            case measure => simp [intOf]; omega
        · have HN2 := (show Hid ((keptL l d).take (i + 1) = (keptL l d).take i ++ [(p1, p2)]) from by
            show _ = _
            have e : d.take j = d := List.take_of_length_le (by omega)
            rw [HT.out, HP.out, e])
          have ba := below_alloc wr (.cells #[.int .i64 p1, .int .i64 p2] 70)
          have hol := kept_tl l d i (by omega)
          have HO3 := (show Hid ((wr.alloc (.cells #[.int .i64 p1, .int .i64 p2] 70)).ownsRow w.heap.size 70 2 (.slice g i c) i (cellsM ((keptL l d).take i))) from by
            have := HO.out.later ba
            unfold OwnM at this
            rw [hol] at this
            exact this)
          have HB3 := (show Hid (Below w.heap.size w (wr.alloc (.cells #[.int .i64 p1, .int .i64 p2] 70))) from HB.out.trans (ba.mono HB.out.size))
          have HBS := (show Hid (w.heap.size ≤ (wr.alloc (.cells #[.int .i64 p1, .int .i64 p2] 70)).heap.size) from HB3.out.size)
          have HTL := (show Hid (((keptL l d).take (i + 1)).length = i + 1) from kept_tl l d (i + 1) (by omega))
          clear HP HT hol ba HO HB
          go_wp2_with (at_builtin; refine ow.wpList_append (by rfl) (.tmp 31) (.tmp 33) 37 (by rfl) 70 (.agg #[.int .i64 0, .int .i64 0]) 2 16 Try.underlying37 info70 rfl (by omega) (by omega) w.heap.size (.slice g i c) i (cellsM ((keptL l d).take i)) wr.heap.size [.int .i64 p1, .int .i64 p2] (by rfl) (by rfl) HO3.out rfl (pp.new2 wr _ _ 70) (pp.one2 _ _ rfl rfl) (by omega) HBS.out ?_; intro g' cap' w5 h1 h2 h3)
          have B5 := (show Hid (Below w.heap.size w w5) from HB3.out.grown h2 HB3.out.size (fun k hk => (ow.lt HO3.out hk).1))
          obtain ⟨l1, l2⟩ : i + 1 ≤ cap' ∧ cap' ≤ 9223372036854775807 := by
            obtain ⟨_, _, e, q1, q2⟩ := ow.form h1
            cases e
            exact ⟨q1, q2⟩
          have O5 := (show Hid (OwnM w5 w.heap.size (.slice (some ⟨g', 0, none⟩) (i + 1) cap') ((keptL l d).take (i + 1))) from by
            show OwnM _ _ _ _
            unfold OwnM
            rw [HTL.out, HN2.out, cellsM_append]
            exact h1)
          clear h1 h2 h3
          go_roundw
          case rel => exact ⟨i + 1, _, cap', by go_num, rfl, by omega, l1, l2, O5, B5⟩
          case measure => simp [intOf]; omega
    · have HO2 := (show Hid (Mgs wr (.slice g i c) (keptL l d)) from by
        have := HO.out
        rw [List.take_of_length_le (by rw [kept_len]; omega)] at this
        exact this.mgs)
      have c30 := bytes_any s hs wr
      have C29 := (show Hid (∀ W vs, Below wr.heap.size wr W → IntsV W vs (idsOf s) → Calls Try.prog 33 #[.slice g i c, vs] W (MergedOwn (keptL l d) (idsOf s) W)) from fun W vs b iv => rapply_any (keptL l d) (by rw [kept_len]; exact hl4) (idsOf s) (by rw [idsOf_len]; exact hs) _ vs W (HO2.out.later b) iv)
      clear HO
      go_wp2_with (fail)
      go_at_call 34
      refine c30.mono ?_
      rintro e w5 ⟨v5, rfl, i5, b5⟩
      have c29 := C29.out w5 v5 b5 i5
      clear c30 i5
      go_wp2_with (fail)
      go_at_call 33
      refine c29.mono ?_
      rintro e w6 ⟨v6, rfl, i6, b6⟩
      have I6 := (show Hid _ from i6)
      clear i6 c29
      go_wp2_with (fail)
      go_ret
      exact ⟨v6, rfl, own_down I6.out (Nat.le_trans HB.out.size b5.size), chain (chain HB.out b5) b6⟩
end Go.Proofs.Ytmmlibehihknbaa.hp
