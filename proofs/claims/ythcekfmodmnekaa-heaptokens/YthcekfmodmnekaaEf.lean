/-
  Contracts over this program: the ids that are left (row.ids).
-/
import Derived.Test.YthcekfmodmnekaaEe
import Derived.Test.YthcekfmodmnekaaRg
namespace Go.Proofs.Ythcekfmodmnekaa.en
open Go.ChangeShapes Go.WideShapes Go.ChangeAt Go.RowKit Go.Shelf Go.Maps
open mg (Mg iv OkM I64 below_alloc chain rk nx joinAt joinAt_len joinAt_get app app_some app_none IntsV RowV)
open pp (Pr plt Pil cs2)
open hp (RMap Heap Mv own_keep)
set_option linter.unusedVariables false
set_option maxRecDepth 100000

theorem app_pos (K : List Mg) (ids : List Int) (h : 0 < ids.length) : 0 < (app K ids).length :=
  mg.app_ind K (fun ids out => 0 < ids.length → 0 < out.length) (fun _ _ h => h) (fun ids k r out h h2 h3 => h2 (by have := joinAt_len ids k r (mg.nx_some h).1; have := (mg.nx_some h).1; omega)) ids h
def IdsOut (W : World) (ids : List Int) (e : Ending) (W' : World) : Prop := ∃ v, e = .returned v ∧ W'.ownsRow W.heap.size 3 1 v ids.length (ids.map iv) ∧ Below W.heap.size W W'
/-- the next place: none at the end -/
def plI (ps : List Nat) (i : Nat) : Int := if i < ps.length then (pl ps i : Int) else -1
theorem plI_next (ps : List Nat) (i : Nat) : nextOf ps i = plI ps (i + 1) := rfl
theorem own_start {W : World} {B n : Nat} {v : Value} {xs : List Value} (h : W.ownsRow B 3 1 v n xs) : ∃ g c, v = .slice g n c ∧ n ≤ c ∧ c ≤ 9223372036854775807 ∧ Hid (W.ownsRow B 3 1 (.slice g n c) n xs) := by
  obtain ⟨g, c, rfl, h1, h2⟩ := ow.form h
  exact ⟨g, c, rfl, h1, h2, h⟩
set_option maxHeartbeats 4000000 in
theorem ids_any {W : World} {B rb mb : Nat} {vs vp : Value} {K : List Mg} {S : List Sg} {L : List Pr} {ps : List Nat} {ids : List Int} (h : Rw W B rb mb vs vp K S L) (hn : S.length ≤ 900000) (H : Lk S ps ids) (hf : 0 < ps.length → pl ps 0 = 0) (hp : 0 < S.length → 0 < ps.length) (hpl : ps.length ≤ S.length) :
    Calls Try.prog 28 #[.pointer (some ⟨rb, 0, none⟩)] W (IdsOut W ids) := by
  by_cases hz : S.length = 0
  · have e : ids = [] := List.length_eq_zero_iff.1 (by have := H.len; omega)
    subst e
    have hc := h.c1
    have hv : ∃ o cap, vs = .slice o 0 cap ∧ cap ≤ 9223372036854775807 := by
      obtain ⟨o, c, e, e1, e2⟩ := ow.form h.sg
      rw [hz] at e
      exact ⟨o, c, e, e2⟩
    obtain ⟨o, cap, rfl, hcap⟩ := hv
    clear h
    go_enter Try.func28, Try.ntmps28
    go_wp2_with (fail)
    go_ret
    exact ⟨_, rfl, ow.nil _ _ _ _, Below.refl _ _⟩
  · obtain ⟨gs, cap, rfl⟩ := h.full (by omega)
    have hc := h.c1
    obtain ⟨o, c, e, c1, c2⟩ := ow.form h.sg
    cases e
    have HR := (show Hid (Rw W B rb mb (.slice (some ⟨gs, 0, none⟩) S.length cap) vp K S L) from h)
    have hps : 0 < ps.length := hp (by omega)
    have hn0 : ((S.length : Int) == 0) = false := beq_eq_false_iff_ne.2 (by omega)
    have H0 := (show Hid ((0 : Int) = plI ps 0) from by show _ = _; unfold plI; rw [if_pos hps, hf hps]; rfl)
    have HLK := (show Hid (Lk S ps ids) from H)
    clear h H hf hp hz
    go_enter Try.func28, Try.ntmps28
    go_wp2_with (fail)
    clear hc
    go_loopg [3, 4] ps.length (fun k y z wr => ∃ (i : Nat) (g : Option Addr) (cc : Nat) (a : Int), y = .slice g i cc ∧ z = .int .i64 a ∧ i ≤ ps.length ∧ i ≤ cc ∧ cc ≤ 9223372036854775807 ∧ Hid (k = ps.length - i) ∧ Hid (a = plI ps i) ∧ Hid (wr.ownsRow W.heap.size 3 1 (.slice g i cc) i ((ids.take i).map iv)) ∧ Hid (Below W.heap.size W wr))
    case atStart => exact ⟨0, none, 0, 0, rfl, rfl, by omega, by omega, by omega, by show _ = _; omega, H0, by rw [List.take_zero]; exact ow.nil _ _ _ _, Below.refl _ _⟩
    case round =>
      obtain ⟨i, g, cc, a, rfl, rfl, hil, ic, cm, HKK, HA, HO, HB⟩ := hrel
      have b1 := (HB.out.cell (p := ⟨rb, 1, none⟩) HR.out.lt).trans HR.out.c1
      have hlen := HLK.out.len
      by_cases hend : i < ps.length
      · have ea : a = (pl ps i : Int) := by rw [HA.out]; unfold plI; rw [if_pos hend]
        subst ea
        obtain ⟨s, hs, e1, -, e2⟩ := HLK.out.at' i hend
        have hb := HLK.out.bnd i hend
        obtain ⟨k0, -, k2, -, -, -, -, -⟩ := HR.out.sign hs
        have gl := (HR.out.sg.lt gs rfl).2
        have k0 := (HB.out.cell (p := ⟨gs, pl ps i * 4, none⟩) gl).trans k0
        have k2 := (HB.out.cell (p := ⟨gs, pl ps i * 4 + 2, none⟩) gl).trans k2
        rw [e2] at k2
        generalize hN : nextOf ps i = nxt at *
        have HN := (show Hid (nxt = plI ps (i + 1)) from by show _ = _; rw [← hN, plI_next])
        have hx : ids.take (i + 1) = ids.take i ++ [s.id] := by
          rw [List.take_add_one, List.getElem?_eq_getElem (by omega)]
          have : ids.getD i 0 = ids[i] := by rw [List.getD_eq_getElem?_getD, List.getElem?_eq_getElem (by omega)]; rfl
          rw [← e1, this]
          rfl
        have HX := (show Hid ((ids.take (i + 1)).map iv = (ids.take i).map iv ++ [iv s.id]) from by show _ = _; rw [hx, List.map_append]; rfl)
        generalize s.id = xid at *
        generalize pl ps i = pp' at *
        have hne : ((pp' : Int) != -1) = true := bne_iff_ne.2 (by omega)
        have ba := below_alloc wr (.cells #[iv xid] 3)
        have HO1 := (show Hid ((wr.alloc (.cells #[iv xid] 3)).ownsRow W.heap.size 3 1 (.slice g i cc) i ((ids.take i).map iv)) from HO.out.alloc _)
        have b1a := (ba.cell (p := ⟨rb, 1, none⟩) (Nat.lt_of_lt_of_le HR.out.lt HB.out.size)).trans b1
        have HBA := (show Hid (W.heap.size ≤ (wr.alloc (.cells #[iv xid] 3)).heap.size) from Nat.le_trans HB.out.size ba.size)
        have HGL := (show Hid (gs < W.heap.size ∧ rb < W.heap.size) from ⟨gl, HR.out.lt⟩)
        have HBA2 := (show Hid (Below W.heap.size W (wr.alloc (.cells #[iv xid] 3))) from HB.out.trans (ba.mono HB.out.size))
        clear hs e1 e2 hN hx HA HO
        go_wp2_with (at_builtin; refine ow.wpList_append (by rfl) (.tmp 21) (.tmp 30) 23 (by rfl) 3 (.int .i64 0) 1 8 Try.underlying23 mg.info3 rfl (by omega) (by omega) W.heap.size (.slice g i cc) i ((ids.take i).map iv) wr.heap.size [iv xid] (by rfl) (by rfl) HO1.out rfl (ow.new1 wr _ 3) (ow.one1 _ rfl) (by omega) HBA.out ?_; intro g' cap' w2 h1 h2 h3; have B2 := (show Hid (Below W.heap.size W w2) from HBA2.out.grown h2 HBA2.out.size (fun k hk => (ow.lt HO1.out hk).1)); have u1 := (B2.out.cell (p := ⟨rb, 1, none⟩) HGL.out.2).trans HR.out.c1; have u2 := (B2.out.cell (p := ⟨gs, pp' * 4 + 2, none⟩) HGL.out.1).trans (((HB.out.cell (p := ⟨gs, pp' * 4 + 2, none⟩) HGL.out.1).symm).trans k2))
        obtain ⟨l1, l2⟩ : i + 1 ≤ cap' ∧ cap' ≤ 9223372036854775807 := by
          obtain ⟨_, _, e, q1, q2⟩ := ow.form h1
          cases e
          exact ⟨q1, q2⟩
        go_roundg (ps.length - (i + 1))
        case rel => exact ⟨i + 1, _, cap', nxt, rfl, rfl, by omega, l1, l2, rfl, HN, by rw [HX.out]; exact h1, B2⟩
        case measure => have := HKK.out; omega
      · have ea : a = -1 := by rw [HA.out]; unfold plI; rw [if_neg hend]
        subst ea
        have HF := (show Hid (IdsOut W ids (.returned (.slice g i cc)) wr) from by
          have o := HO.out
          rw [List.take_of_length_le (by omega)] at o
          have e : i = ids.length := by omega
          exact ⟨_, rfl, by rw [← e]; exact o, HB.out⟩)
        clear HA HO
        go_wp2_with (fail)
        go_ret
        exact HF.out
end Go.Proofs.Ythcekfmodmnekaa.en
