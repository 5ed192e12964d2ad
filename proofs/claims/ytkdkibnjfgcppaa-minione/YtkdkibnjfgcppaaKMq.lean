/-
  Contracts over this program: a state is left by each byte (leave), the walk.
-/
import Derived.Test.YtkdkibnjfgcppaaM02
namespace Go.Proofs.Ytkdkibnjfgcppaa.mi
open Go.ChangeShapes Go.WideShapes Go.ChangeAt Go.RowKit Go.Shelf Go.Maps
set_option linter.unusedVariables false

theorem RBox.put {w : World} {g : Nat} {r : List Int} (h : RBox w g r) (i : Nat) (v : Int) : RBox (w.setCell ⟨g, i, none⟩ (.int .i64 v)) g (r.set i v) := by
  unfold RBox
  rw [set_heap w _ _ _ i _ h]
  unfold ics
  rw [List.setIfInBounds_toArray, List.map_set]
theorem RBox.cell {w : World} {g : Nat} {r : List Int} (h : RBox w g r) {i : Nat} {x : Int} (hx : r[i]? = some x) : w.cell? ⟨g, i, none⟩ = some (.int .i64 x) := by
  rw [Lib.cell_of_heap h]
  simp [ics, hx]
theorem wp_load22w {oo : Oper} {a : Act} {w : World} {K : Act → World → Prop} {Q : Exit → Act → World → Prop} (x : Operand) (ho : oo.op = .load 22 x)
    (g : Nat) (hx : a.eval x = .pointer (some ⟨g, 0, none⟩)) (cs : Array Value) (p n s r : Value) (hg : WBox w g cs p n s r) (hs : cs.size = 258)
    (h : K (a.put oo.dst (.agg (cs.extract 0 256))) w) : oo.wp Try.prog a w K Q := by
  obtain ⟨c, hc, hk⟩ := hg
  have hr := df.run_load_part (P := Try.prog) w g 84 22 c 256 (by rw [hk.size]; omega) _ hc Try.underlying22 rfl df.info22
  rw [extract_cs hk hs] at hr
  unfold Oper.wp execOp
  simp only [ho, hx, Instr.loadAt, Instr.sureAddr, Sem.run_bind, Sem.run_pure, Result.andThen_ok, hr]
  exact h
/-- the row that is made lies beside the walk -/
def Bes (K gw gp gn nr : Nat) (sv rv : Value) : Prop := nr ≠ gw ∧ nr ≠ gp ∧ nr ≠ gn ∧ sv.ownBlock ≠ some nr ∧ rv.ownBlock ≠ some nr ∧ K ≤ nr
/-- one more stands for a state -/
theorem Wst.app {d : df.Dfa} {cs : Array Value} {K : Nat} {w0 w w' : World} {gw gp gn : Nat} {F : List Nat} {nums : List Int} {sv rv sv' : Value} {S S' : List Int} {rows : List (List Int)} (h : Wst d cs K w0 w gw gp gn F nums sv rv S rows)
    (ho : df.Owns w' K sv' S') (hg : w.grownBy w' sv.ownBlock) (hv : sv'.ownBlock = sv.ownBlock ∨ ∃ g, sv'.ownBlock = some g ∧ w.heap.size ≤ g) : Wst d cs K w0 (w'.setCell ⟨gw, 260, none⟩ sv') gw gp gn F nums sv' rv S' rows := by
  have hk : ∀ g, g < w.heap.size → sv.ownBlock ≠ some g → w'.heap[g]? = w.heap[g]? := fun g h1 h2 => hg.block g h1 (fun e => h2 e.symm)
  have hne : ∀ g, sv'.ownBlock = some g → g ≠ gw ∧ g ≠ gp ∧ g ≠ gn ∧ rv.ownBlock ≠ some g := fun g e => by
    rcases hv with hv | ⟨g', e', hl⟩
    · exact h.a2 g (hv ▸ e)
    · rw [e'] at e
      obtain rfl := Option.some.inj e
      exact ⟨by have := h.box.lt; omega, by have := h.parts.lt; omega, by have := h.nrow.lt; omega, fun e2 => by have := (own_lt h.rw e2).2; omega⟩
  have hs : ∀ k, k ≠ gw → (w'.setCell ⟨gw, 260, none⟩ sv').heap[k]? = w'.heap[k]? := fun k hk => Below.heap_setCell _ _ _ _ (fun e => hk e)
  have n1 : sv.ownBlock ≠ some gw := fun e => (h.a2 gw e).1 rfl
  have n2 : sv.ownBlock ≠ some gp := fun e => (h.a2 gp e).2.1 rfl
  have n3 : sv.ownBlock ≠ some gn := fun e => (h.a2 gn e).2.2.1 rfl
  refine ⟨(h.box.keep (hk _ h.box.lt n1)).setS sv', h.parts.keep ((hs _ (fun e => h.a1.1 e.symm)).trans (hk _ h.parts.lt n2)), (hs _ (fun e => h.a1.2.1 e.symm)).trans ((hk _ h.nrow.lt n3).trans h.nrow), own_keep ho (fun g e => hs g (hne g e).1), own_keep h.rw (fun g e => (hs g (h.a3 g e).1).trans (hk g (own_lt h.rw e).2 (fun e2 => (h.a2 g e2).2.2.2 e))), h.a1, hne, h.a3, ?_, h.k0⟩
  refine (h.bel.trans ⟨hg.os, hg.tape, hg.output, hg.size, fun k hk2 => ?_⟩).setCell (p := ⟨gw, 260, none⟩) (by exact h.a1.2.2.2.1) _
  exact hk k (by have := h.bel.size; have := h.k0; omega) (fun e => by have := (own_lt h.st e).1; omega)
/-- one row more -/
theorem Wst.row {d : df.Dfa} {cs : Array Value} {K : Nat} {w0 w w' : World} {gw gp gn : Nat} {F : List Nat} {nums : List Int} {sv rv rv' : Value} {S : List Int} {rows rows' : List (List Int)} (h : Wst d cs K w0 w gw gp gn F nums sv rv S rows)
    (ho : w'.ownsRow K 89 256 rv' rows'.length (flat rows')) (hg : w.grownBy w' rv.ownBlock) (hv : rv'.ownBlock = rv.ownBlock ∨ ∃ g, rv'.ownBlock = some g ∧ w.heap.size ≤ g) : WBox w' gw cs (.slice (some ⟨gp, 0, none⟩) F.length F.length) (.slice (some ⟨gn, 0, none⟩) F.length F.length) sv rv ∧ Wst d cs K w0 (w'.setCell ⟨gw, 261, none⟩ rv') gw gp gn F nums sv rv' S rows' := by
  have hk : ∀ g, g < w.heap.size → rv.ownBlock ≠ some g → w'.heap[g]? = w.heap[g]? := fun g h1 h2 => hg.block g h1 (fun e => h2 e.symm)
  have hne : ∀ g, rv'.ownBlock = some g → g ≠ gw ∧ g ≠ gp ∧ g ≠ gn ∧ sv.ownBlock ≠ some g := fun g e => by
    rcases hv with hv | ⟨g', e', hl⟩
    · have := h.a3 g (hv ▸ e)
      exact ⟨this.1, this.2.1, this.2.2, fun e2 => (h.a2 g e2).2.2.2 (hv ▸ e)⟩
    · rw [e'] at e
      obtain rfl := Option.some.inj e
      exact ⟨by have := h.box.lt; omega, by have := h.parts.lt; omega, by have := h.nrow.lt; omega, fun e2 => by have := (own_lt h.st e2).2; omega⟩
  have hs : ∀ k, k ≠ gw → (w'.setCell ⟨gw, 261, none⟩ rv').heap[k]? = w'.heap[k]? := fun k hk => Below.heap_setCell _ _ _ _ (fun e => hk e)
  have n1 : rv.ownBlock ≠ some gw := fun e => (h.a3 gw e).1 rfl
  have n2 : rv.ownBlock ≠ some gp := fun e => (h.a3 gp e).2.1 rfl
  have n3 : rv.ownBlock ≠ some gn := fun e => (h.a3 gn e).2.2 rfl
  have hb := h.box.keep (hk _ h.box.lt n1)
  refine ⟨hb, hb.setR rv', h.parts.keep ((hs _ (fun e => h.a1.1 e.symm)).trans (hk _ h.parts.lt n2)), (hs _ (fun e => h.a1.2.1 e.symm)).trans ((hk _ h.nrow.lt n3).trans h.nrow), own_keep h.st (fun g e => (hs g (h.a2 g e).1).trans (hk g (own_lt h.st e).2 (h.a2 g e).2.2.2)), own_keep ho (fun g e => hs g (hne g e).1), h.a1, fun g e => ⟨(h.a2 g e).1, (h.a2 g e).2.1, (h.a2 g e).2.2.1, fun e2 => (hne g e2).2.2.2 e⟩, fun g e => ⟨(hne g e).1, (hne g e).2.1, (hne g e).2.2.1⟩, ?_, h.k0⟩
  refine (h.bel.trans ⟨hg.os, hg.tape, hg.output, hg.size, fun k hk2 => ?_⟩).setCell (p := ⟨gw, 261, none⟩) (by exact h.a1.2.2.2.1) _
  exact hk k (by have := h.bel.size; have := h.k0; omega) (fun e => by have := (own_lt h.rw e).1; omega)
def LvOut (d : df.Dfa) (cs : Array Value) (K : Nat) (w0 : World) (gw gp gn : Nat) (F : List Nat) (S : List Int) (rows : List (List Int)) (s : Nat) (e : Ending) (w' : World) : Prop :=
  ∃ nums' sv' rv' S', e = .returned (.tuple #[]) ∧ Wst d cs K w0 w' gw gp gn F nums' sv' rv' S' (rows ++ [(rowN (lgs d S) ((dm d).lang (some s)) 256).2]) ∧ Lv d F S s 256 nums' S'
set_option maxHeartbeats 2000000 in
set_option maxRecDepth 100000 in
theorem leave_any (d : df.Dfa) (hr : df.right d = true) (cs : Array Value) (o ao : Option Addr) (cap acap : Nat) (K : Nat) (w0 w : World) (gw gp gn : Nat) (F : List Nat) (nums : List Int) (sv rv : Value) (S : List Int) (rows : List (List Int)) (s : Nat)
    (hD : df.DAt (fun b => b < K) w0 d cs o cap ao acap) (h : Wst d cs K w0 w gw gp gn F nums sv rv S rows) (hl : Lab (dm d) (pa F)) (hlen : F.length = d.next.length + 1) (hs : s < d.next.length) (hv : Lv d F S s 0 nums S) (hS : S.length ≤ 1000) (hrl : rows.length ≤ 1000) :
    Calls Try.prog 39 #[.pointer (some ⟨gw, 0, none⟩), .int .i64 (s : Int)] w (LvOut d cs K w0 gw gp gn F S rows s) := by
  have hok := df.ok_of d hr
  have hz2 := zero89
  have hmost := hok.most
  have hw8 := hD.size
  obtain ⟨w1, hw1⟩ : ∃ w1, w1 = w.alloc (.cells (ics zr) 89) := ⟨_, rfl⟩
  have b1 : Below w.heap.size w w1 := by rw [hw1]; exact below_alloc w _
  have h1 := h.later b1
  have hR1 : RBox w1 w.heap.size (rowZ (rowN (lgs d S) ((dm d).lang (some s)) 0).2) := by rw [hw1]; exact heap_alloc_new w _
  have hbes : Bes K gw gp gn w.heap.size sv rv := ⟨by have := h.box.lt; omega, by have := h.parts.lt; omega, by have := h.nrow.lt; omega, fun e => by have := (own_lt h.st e).2; omega, fun e => by have := (own_lt h.rw e).2; omega, by have := h.bel.size; have := h.k0; omega⟩
  have hb1 := h1.box
  have fits : F.length ≤ 1000 := by omega
  have HLN : Hid (F.length = d.next.length + 1) := hlen
  have HL : Hid (Lab (dm d) (pa F)) := hl
  have HOK : Hid (df.Ok d) := hok
  have HDM : Hid ((dm d).ok) := fun s hs b t e => by
    have h0 := df.nxt_ok hok s (d.cls b.toNat) hs (hok.cl _ b.toNat_lt)
    simp only [dm] at e
    split at e
    · cases e; show _ < d.next.length; omega
    · cases e
  have HD : Hid (df.DAt (fun b => b < K) w0 d cs o cap ao acap) := hD
  have HV : Hid (Lv d F S s 0 nums S) := hv
  clear hlen hl hok hD hv
  have HW1 : Hid (Wst d cs K w0 w1 gw gp gn F nums sv rv S rows) := h1
  have HR1 : Hid (RBox w1 w.heap.size (rowZ (rowN (lgs d S) ((dm d).lang (some s)) 0).2)) := hR1
  have HBE : Hid (Bes K gw gp gn w.heap.size sv rv) := hbes
  clear h h1 hR1 hbes b1
  go_enter Try.func39, Try.ntmps39
  go_wp2_with (fail)
  rw [← hw1]
  refine wp_load22w (.tmp 12) rfl gw rfl cs _ _ _ _ hb1 hw8 ?_
  clear hw1 hz2 hb1
  go_wp2_with (fail)
  go_loopw [14] (fun y wr => ∃ (k : Nat) (nums' : List Int) (sv' : Value) (S' : List Int), y = .int .i64 (k : Int) ∧ k ≤ 256 ∧ Hid (Wst d cs K w0 wr gw gp gn F nums' sv' rv S' rows) ∧ Hid (RBox wr w.heap.size (rowZ (rowN (lgs d S) ((dm d).lang (some s)) k).2)) ∧ Hid (Lv d F S s k nums' S') ∧ Hid (Bes K gw gp gn w.heap.size sv' rv)) (fun y _ => 256 - (intOf y).toNat)
  case atStart => exact ⟨0, nums, sv, S, rfl, by omega, HW1, HR1, HV, HBE⟩
  case round =>
    obtain ⟨k, nums', sv', S', rfl, hk, HW, HR, HLv, HB⟩ := hrel
    by_cases hlt : k < 256
    · have hDr : df.DAt (fun b => b < K) wr d cs o cap ao acap := HD.out.carry (fun b hb => HW.out.bel.block b hb) (fun _ => id)
      have hidx := df.index22 cs k hlt _ (hDr.cl k hlt) hw8
      have hc8 := hDr.c8 k
      have hcw := HOK.out.cl k hlt
      obtain ⟨b, off, b', off', ci, e1, hc1, hq1, hq2, hc2⟩ := df.nxt_at hDr HOK.out s _ hs hcw
      have hno := df.nxt_ok HOK.out s _ hs hcw
      have hbk : (by8 k).toNat = k := by simp [by8]; omega
      have hst := st_go d s (by8 k) (by rw [hbk]; exact hno.1)
      rw [hbk] at hst
      have hx : (dm d).goO (some s) (by8 k) ∈ items (dm d) := go_items HDM.out (mem_items.2 fun t e => by cases e; exact hs) (by8 k)
      have c62 := part_call HLN.out (Nat.le_refl _) (by omega) _ hx HW.out.parts
      rw [hst] at c62
      have kn := HW.out.box.cd (i := 256) (by omega) hDr.nx
      have f1 := hDr.rows.fit
      have f2 := hDr.rows.top
      have kp := HW.out.box.cp
      have kN := HW.out.box.cn
      have kS := HW.out.box.cst
      have hpl : pa F ((dm d).goO (some s) (by8 k)) < F.length := by rw [HLN.out]; exact HL.out.lt _ hx
      have hnl : nums'.length = F.length := by rw [HLv.out.num.len, HLN.out]; rfl
      obtain ⟨v, hv⟩ : ∃ v, nums'[pa F ((dm d).goO (some s) (by8 k))]? = some v := ⟨_, List.getElem?_eq_getElem (by omega)⟩
      have kv := HW.out.nrow.cell hv
      have hrk := rowN_len (lgs d S) ((dm d).lang (some s)) k
      have kr : ∃ u, wr.cell? ⟨w.heap.size, k, none⟩ = some u := ⟨_, HR.out.cell (List.getElem?_eq_getElem (by rw [rowZ_len _ (by omega)]; exact hlt))⟩
      obtain ⟨u, kr⟩ := kr
      have fr := Lib.frozen_of_heap HR.out k
      have HX := (show Hid _ from hx)
      have HVV := (show Hid _ from hv)
      have HST := (show Hid _ from hst)
      subst e1
      by_cases h0 : pa F ((dm d).goO (some s) (by8 k)) = 0
      · obtain ⟨q1, q2, q3⟩ := HLv.out.no HL.out hx h0
        rw [hv] at q3
        obtain rfl := Option.some.inj q3
        have HQ1 := (show Hid _ from q1)
        have HRR : Hid (RBox (wr.setCell ⟨w.heap.size, k, none⟩ (.int .i64 (-1))) w.heap.size (rowZ (rowN (lgs d S) ((dm d).lang (some s)) (k + 1)).2)) := by
          have hh := HR.out.put k (-1)
          show RBox _ _ _
          rw [q2, ← rowZ_set _ _ (by omega), hrk]
          exact hh
        have HWW : Hid (Wst d cs K w0 (wr.setCell ⟨w.heap.size, k, none⟩ (.int .i64 (-1))) gw gp gn F nums' sv' rv S' rows) := HW.out.beside HB.out k _
        clear q1 q2 q3 hDr hx hv hst
        rw [h0] at c62 kv hpl
        generalize df.nxt d s (d.cls k) = nx at *
        generalize d.cls k = c at *
        generalize df.width d = wd at *
        go_wp2_with (go_at_call 62; (refine c62.mono ?_); rintro e w4 ⟨rfl, h⟩; obtain rfl := h.symm)
        go_roundw
        case rel => exact ⟨k + 1, nums', sv', S', by go_num, by omega, HWW, HRR, HQ1, HB⟩
        case measure => simp [intOf]; omega
      · have z0 : ((pa F ((dm d).goO (some s) (by8 k)) : Int) != 0) = true := by rw [bne_iff_ne]; omega
        by_cases hv1 : v = -1
        · obtain ⟨q0, q1, q2⟩ := HLv.out.new HL.out hx h0 (by rw [hv, hv1])
          rw [hst] at q0 q1
          have HQ1 := (show Hid _ from q1)
          obtain ⟨og, oc, hsv⟩ := df.own_slice HW.out.st
          have hSl : S'.length ≤ 2000 := by have := HLv.out.len; omega
          subst hv1
          obtain ⟨wD, hwD⟩ : ∃ wD, wD = (wr.setCell ⟨gn, pa F ((dm d).goO (some s) (by8 k)), none⟩ (.int .i64 (S'.length : Int))).drew := ⟨_, rfl⟩
          have HWD : Hid (Wst d cs K w0 wD gw gp gn F (nums'.set (pa F ((dm d).goO (some s) (by8 k))) (S'.length : Int)) sv' rv S' rows) := by
            have hh := HW.out.num (pa F ((dm d).goO (some s) (by8 k))) (S'.length : Int)
            show Wst _ _ _ _ _ _ _ _ _ _ _ _ _ _
            rw [hwD]
            exact hh.keep (fun _ _ => rfl) (below_drewN hh.bel 1)
          have HRD : Hid (RBox wD w.heap.size (rowZ (rowN (lgs d S) ((dm d).lang (some s)) k).2)) := by
            show RBox _ _ _
            rw [hwD]
            exact (Below.heap_setCell _ _ _ _ (fun e => HB.out.2.2.1 e)).trans HR.out
          have fzn := Lib.frozen_of_heap HW.out.nrow (pa F ((dm d).goO (some s) (by8 k)))
          have kSD := HWD.out.box.cst
          have kSf := HWD.out.box.fz 260
          have HQ2 := (show Hid _ from q2)
          have HSV := (show Hid _ from hsv)
          have HNL : Hid (nums'.length = F.length) := hnl
          rw [hsv] at kS kSD
          have HPN : Hid (pa F ((dm d).goO (some s) (by8 k)) < F.length) := hpl
          clear q1 q2 hDr hx hv hst h0 hsv hnl kr fr
          generalize hpx : pa F ((dm d).goO (some s) (by8 k)) = px at *
          generalize df.nxt d s (d.cls k) = nx at *
          generalize d.cls k = c at *
          generalize df.width d = wd at *
          clear hpx
          go_wp2_with (go_at_call 62; (refine c62.mono ?_); rintro e w4 ⟨rfl, h⟩; obtain rfl := h.symm)
          go_region
          rw [← hwD]
          obtain ⟨wE, hwE⟩ : ∃ wE, wE = wD.alloc (.cells #[.int .i64 nx] 3) := ⟨_, rfl⟩
          have bE : Below wD.heap.size wD wE := by rw [hwE]; exact below_alloc wD _
          have HWE := (show Hid _ from HWD.out.later bE)
          have hownE := HWE.out.st
          have hsE : wE.heap.size = wD.heap.size + 1 := by rw [hwE]; simp
          have hKE : K ≤ wE.heap.size := by have := HWE.out.bel.size; have := HWE.out.k0; omega
          have hnews : ∀ j u, ([Value.int .i64 nx] : List Value)[j]? = some u → wE.cell? ((⟨wD.heap.size, 0, none⟩ : Addr).add j) = some u := fun j u hu => by
            rcases j with _ | j
            · simp at hu
              subst hu
              have h0 : wE.heap[wD.heap.size]? = some (.cells #[.int .i64 nx] 3 (0, 0)) := by rw [hwE]; exact heap_alloc_new wD _
              rw [show (⟨wD.heap.size, 0, none⟩ : Addr).add 0 = ⟨wD.heap.size, 0, none⟩ from rfl, Lib.cell_of_heap h0]; rfl
            · simp at hu
          have HRE : Hid (RBox wE w.heap.size (rowZ (rowN (lgs d S) ((dm d).lang (some s)) k).2)) := (bE.block _ HRD.out.lt).trans HRD.out
          have HFIN : Hid (∀ (sv2 : Value) (w5 : World), df.Owns w5 K sv2 (S' ++ [nx]) → wE.grownBy w5 sv'.ownBlock → (sv2.ownBlock = sv'.ownBlock ∨ sv2.ownBlock = some wE.heap.size) →
              w5.frozen? ⟨gw, 260, none⟩ = false ∧ (∃ u, w5.cell? ⟨gw, 260, none⟩ = some u) ∧ (w5.setCell ⟨gw, 260, none⟩ sv2).cell? ⟨gw, 259, none⟩ = some (.slice (some ⟨gn, 0, none⟩) F.length F.length) ∧ (w5.setCell ⟨gw, 260, none⟩ sv2).cell? ⟨gn, px, none⟩ = some (.int .i64 (S'.length : Int)) ∧ (w5.setCell ⟨gw, 260, none⟩ sv2).frozen? ⟨w.heap.size, k, none⟩ = false ∧ (∃ u, (w5.setCell ⟨gw, 260, none⟩ sv2).cell? ⟨w.heap.size, k, none⟩ = some u) ∧
              Hid (Wst d cs K w0 ((w5.setCell ⟨gw, 260, none⟩ sv2).setCell ⟨w.heap.size, k, none⟩ (.int .i64 (S'.length : Int))) gw gp gn F (nums'.set px (S'.length : Int)) sv2 rv (S' ++ [nx]) rows ∧ RBox ((w5.setCell ⟨gw, 260, none⟩ sv2).setCell ⟨w.heap.size, k, none⟩ (.int .i64 (S'.length : Int))) w.heap.size (rowZ (rowN (lgs d S) ((dm d).lang (some s)) (k + 1)).2) ∧ Bes K gw gp gn w.heap.size sv2 rv)) := fun sv2 w5 ho hg hob => by
            have hA := HWE.out.app ho hg (hob.imp id (fun e => ⟨_, e, Nat.le_refl _⟩))
            have hbx5 : WBox w5 gw cs _ _ _ _ := HWE.out.box.keep (hg.block gw HWE.out.box.lt (fun e => (HWE.out.a2 gw e.symm).1 rfl))
            have hnr : w.heap.size < wE.heap.size := HRE.out.lt
            have hR5 : RBox w5 w.heap.size (rowZ (rowN (lgs d S) ((dm d).lang (some s)) k).2) := (hg.block _ hnr (fun e => HB.out.2.2.2.1 e.symm)).trans HRE.out
            have hR6 : RBox (w5.setCell ⟨gw, 260, none⟩ sv2) w.heap.size (rowZ (rowN (lgs d S) ((dm d).lang (some s)) k).2) := (Below.heap_setCell _ _ _ _ (fun e => HB.out.1 e)).trans hR5
            have hB2 : Bes K gw gp gn w.heap.size sv2 rv := ⟨HB.out.1, HB.out.2.1, HB.out.2.2.1, (fun e => by
              rcases hob with hob | hob
              · exact HB.out.2.2.2.1 (hob ▸ e)
              · rw [hob] at e; have := Option.some.inj e; omega), HB.out.2.2.2.2⟩
            refine ⟨hbx5.fz 260, ⟨_, hbx5.cst⟩, hA.box.cn, hA.nrow.cell (by rw [List.getElem?_set_self (by rw [HNL.out]; exact HPN.out)]), Lib.frozen_of_heap hR6 k, ⟨_, hR6.cell (List.getElem?_eq_getElem (by rw [rowZ_len _ (by omega)]; exact hlt))⟩, hA.beside hB2 k _, ?_, hB2⟩
            have hh := hR6.put k (S'.length : Int)
            rw [HQ2.out, ← rowZ_set _ _ (by omega), hrk]
            exact hh
          obtain ⟨i0, hi0, hz0, hz1, hz2⟩ := info_parts df.info3
          rw [HSV.out] at hownE
          have hSVo : (Value.slice og S'.length oc).ownBlock = sv'.ownBlock := by rw [HSV.out]
          clear hwD kp kN kS kv fzn hidx hc1 hc2 kn
          go_wp2_with (at_builtin; rw [← hwE]; refine wpList_append_own_at wE rfl (.tmp 62) (.tmp 64) 39 rfl K 3 i0 (.int .i64 0) 1 8 Try.underlying39 hi0 hz0 hz1 hz2 rfl (by decide) (.slice og S'.length oc) S'.length (S'.map (Value.int .i64)) rfl hownE ⟨wD.heap.size, 0, none⟩ 1 1 [.int .i64 nx] rfl rfl hnews (by simp [Value.oneCell']) (by unfold maxLen; omega) (by omega) hKE ?_; intro sv2 w5 hown5 hgr5 _ hob5; obtain ⟨g', cap', rfl⟩ := ownsRow_succ hown5; obtain ⟨t1, ⟨u1, t2⟩, t3, t4, t5, ⟨u6, t6⟩, T7⟩ := HFIN.out _ w5 (by simpa [df.Owns] using hown5) (by rw [← hSVo]; exact hgr5) (by rw [← hSVo]; exact hob5); clear hown5 hgr5 hob5)
          go_roundw
          case rel => exact ⟨k + 1, _, _, _, by go_num, by omega, T7.out.1, T7.out.2.1, HQ1, T7.out.2.2⟩
          case measure => simp [intOf]; omega
        · obtain ⟨q1, q2⟩ := HLv.out.old HL.out hx h0 hv hv1
          have HQ1 := (show Hid _ from q1)
          have HRR : Hid (RBox (wr.setCell ⟨w.heap.size, k, none⟩ (.int .i64 v)) w.heap.size (rowZ (rowN (lgs d S) ((dm d).lang (some s)) (k + 1)).2)) := by
            have hh := HR.out.put k v
            show RBox _ _ _
            rw [q2, ← rowZ_set _ _ (by omega), hrk]
            exact hh
          have HWW : Hid (Wst d cs K w0 (wr.setCell ⟨w.heap.size, k, none⟩ (.int .i64 v)) gw gp gn F nums' sv' rv S' rows) := HW.out.beside HB.out k _
          have z1 : (v == -1) = false := beq_eq_false_iff_ne.2 hv1
          clear q1 q2 hDr hx hv hst h0 hv1
          generalize pa F ((dm d).goO (some s) (by8 k)) = px at *
          generalize df.nxt d s (d.cls k) = nx at *
          generalize d.cls k = c at *
          generalize df.width d = wd at *
          go_wp2_with (go_at_call 62; (refine c62.mono ?_); rintro e w4 ⟨rfl, h⟩; obtain rfl := h.symm)
          go_roundw
          case rel => exact ⟨k + 1, nums', sv', S', by go_num, by omega, HWW, HRR, HQ1, HB⟩
          case measure => simp [intOf]; omega
    · obtain rfl : k = 256 := by omega
      have hR0 := HR.out
      have hr256 : ((rowN (lgs d S) ((dm d).lang (some s)) 256).2).length = 256 := rowN_len _ _ _
      rw [rowZ_all _ hr256] at hR0
      obtain ⟨r, hrr⟩ : ∃ r, r = (rowN (lgs d S) ((dm d).lang (some s)) 256).2 := ⟨_, rfl⟩
      rw [← hrr] at hR0 hr256
      have HRR := (show Hid _ from hrr)
      have HR0 := (show Hid (RBox wr w.heap.size r) from hR0)
      clear hR0 hrr HR
      go_wp2_with (fail)
      refine wp_region_held (S := fun W => RBox W w.heap.size r) (by kernel_rfl) ?_
      have kS : RBox wr.drew w.heap.size r := HR0.out
      refine rg.take_op (i := 0) 78 rfl rfl (rg.yields_run rfl (v := .pointer (some ⟨gw, 0, none⟩)) (fun W h => by kernel_rfl)) (by kernel_rfl) (by kernel_rfl) (by kernel_rfl) (fun _ _ _ h => h) kS ?_
      refine rg.take_op (i := 1) 79 rfl rfl (rg.yields_run rfl (v := .pointer (some ⟨gw, 0, none⟩)) (fun W h => by kernel_rfl)) (by kernel_rfl) (by kernel_rfl) (by kernel_rfl) (fun _ _ _ h => h) kS ?_
      refine rg.take_op (i := 2) 80 rfl rfl (rg.yields_run rfl (v := .pointer (some ⟨gw, 0, none⟩)) (fun W h => by kernel_rfl)) (by kernel_rfl) (by kernel_rfl) (by kernel_rfl) (fun _ _ _ h => h) kS ?_
      refine rg.take_op (i := 3) 81 rfl rfl (rg.yields_run rfl (v := .pointer (some ⟨gw, 261, none⟩)) (fun W h => by kernel_rfl)) (by kernel_rfl) (by kernel_rfl) (by kernel_rfl) (fun _ _ _ h => h) kS ?_
      refine rg.take_op (i := 5) 83 rfl rfl (rg.yields_run rfl (v := .agg (ics r)) (fun W h => x_load89 hr256 rfl rfl h)) (by kernel_rfl) (by kernel_rfl) (by kernel_rfl) (fun _ _ _ h => h) kS ?_
      simp only [Act.put, List.setIfInBounds_toArray, List.set_cons_zero, List.set_cons_succ]
      obtain ⟨wF, hwF⟩ : ∃ wF, wF = wr.drew.alloc (.cells (ics r) 89) := ⟨_, rfl⟩
      have bF : Below wr.heap.size wr wF := by rw [hwF]; exact (Below.refl _ wr).drew.alloc (Nat.le_refl _) _
      have HWF := (show Hid _ from HW.out.later bF)
      have hbF : wF.heap[wr.heap.size]? = some (.cells (ics r) 89 (0, 0)) := by rw [hwF]; exact heap_alloc_new wr.drew _
      have hsF : wF.heap.size = wr.heap.size + 1 := by rw [hwF, World.size_alloc]; rfl
      have hRF : RBox wF w.heap.size r := (bF.block _ HR0.out.lt).trans HR0.out
      obtain ⟨q, cq, wG, eG, ho2, hg2, hob2⟩ := app82 (w := wF) (g0 := wr.heap.size) hr256 HWF.out.rw hbF (by omega) (by have := HWF.out.bel.size; have := HWF.out.k0; omega)
      obtain ⟨hbG, hWG⟩ := HWF.out.row ho2 hg2 (hob2.imp id (fun e => ⟨q, rfl, by omega⟩))
      have hRG : RBox wG w.heap.size r := (hg2.block _ hRF.lt (fun e => HB.out.2.2.2.2.1 e.symm)).trans hRF
      have hRH : RBox (wG.setCell ⟨gw, 261, none⟩ (.slice (some ⟨q, 0, none⟩) (rows.length + 1) cq)) w.heap.size r := (Below.heap_setCell _ _ _ _ (fun e => HB.out.1 e)).trans hRG
      have krv := HW.out.box.cr
      have krv2 := HWF.out.box.cr
      refine rg.two (i := 4) (j := 6) (by kernel_rfl) ?_ ?_
      · refine rg.op_val 4 82 (v := rv) (w' := wr.drew) rfl rfl rfl (x_load82 rfl rfl krv) ⟨kS, ?_⟩
        simp only [Act.put, List.setIfInBounds_toArray, List.set_cons_zero, List.set_cons_succ]
        refine rg.one (i := 6) (by kernel_rfl) (rg.op_val 6 84 (v := .slice (some ⟨wr.heap.size, 0, none⟩) 1 1) (w' := wF) rfl rfl rfl (by rw [hwF]; exact x_build82 (w := wr.drew) hr256 rfl rfl) ⟨hRF, ?_⟩)
        simp only [Act.put, List.setIfInBounds_toArray, List.set_cons_zero, List.set_cons_succ]
        refine rg.one (i := 7) (by kernel_rfl) (rg.op_val 7 85 (v := .slice (some ⟨q, 0, none⟩) (rows.length + 1) cq) (w' := wG) rfl rfl rfl (x_app82 rfl rfl rfl rfl eG) ⟨hRG, ?_⟩)
        simp only [Act.put, List.setIfInBounds_toArray, List.set_cons_zero, List.set_cons_succ]
        refine rg.take_op (i := 8) 86 rfl rfl (rg.yields_run rfl (v := .pointer (some ⟨gw, 0, none⟩)) (fun W h => by kernel_rfl)) (by kernel_rfl) (by kernel_rfl) (by kernel_rfl) (fun _ _ _ h => h) hRG ?_
        refine rg.take_op (i := 9) 87 rfl rfl (rg.yields_run rfl (v := .pointer (some ⟨gw, 261, none⟩)) (fun W h => by kernel_rfl)) (by kernel_rfl) (by kernel_rfl) (by kernel_rfl) (fun _ _ _ h => h) hRG ?_
        simp only [Act.put, List.setIfInBounds_toArray, List.set_cons_zero, List.set_cons_succ]
        refine rg.one (i := 10) (by kernel_rfl) (rg.op_skip 10 rfl rfl rfl (x_store82 rfl rfl rfl hbG.cr (hbG.fz 261)) ⟨hRH, ?_⟩)
        refine rg.done_op (by kernel_rfl) ?_
        go_wp2_with (fail)
        go_end0
        exact ⟨nums', sv', _, S', rfl, by rw [← HRR.out]; exact hWG, HLv.out⟩
      · refine rg.op_val 6 84 (v := .slice (some ⟨wr.heap.size, 0, none⟩) 1 1) (w' := wF) rfl rfl rfl (by rw [hwF]; exact x_build82 (w := wr.drew) hr256 rfl rfl) ⟨hRF, ?_⟩
        simp only [Act.put, List.setIfInBounds_toArray, List.set_cons_zero, List.set_cons_succ]
        refine rg.one (i := 4) (by kernel_rfl) (rg.op_val 4 82 (v := rv) (w' := wF) rfl rfl rfl (x_load82 rfl rfl krv2) ⟨hRF, ?_⟩)
        simp only [Act.put, List.setIfInBounds_toArray, List.set_cons_zero, List.set_cons_succ]
        refine rg.one (i := 7) (by kernel_rfl) (rg.op_val 7 85 (v := .slice (some ⟨q, 0, none⟩) (rows.length + 1) cq) (w' := wG) rfl rfl rfl (x_app82 rfl rfl rfl rfl eG) ⟨hRG, ?_⟩)
        simp only [Act.put, List.setIfInBounds_toArray, List.set_cons_zero, List.set_cons_succ]
        refine rg.take_op (i := 8) 86 rfl rfl (rg.yields_run rfl (v := .pointer (some ⟨gw, 0, none⟩)) (fun W h => by kernel_rfl)) (by kernel_rfl) (by kernel_rfl) (by kernel_rfl) (fun _ _ _ h => h) hRG ?_
        refine rg.take_op (i := 9) 87 rfl rfl (rg.yields_run rfl (v := .pointer (some ⟨gw, 261, none⟩)) (fun W h => by kernel_rfl)) (by kernel_rfl) (by kernel_rfl) (by kernel_rfl) (fun _ _ _ h => h) hRG ?_
        simp only [Act.put, List.setIfInBounds_toArray, List.set_cons_zero, List.set_cons_succ]
        refine rg.one (i := 10) (by kernel_rfl) (rg.op_skip 10 rfl rfl rfl (x_store82 rfl rfl rfl hbG.cr (hbG.fz 261)) ⟨hRH, ?_⟩)
        refine rg.done_op (by kernel_rfl) ?_
        go_wp2_with (fail)
        go_end0
        exact ⟨nums', sv', _, S', rfl, by rw [← HRR.out]; exact hWG, HLv.out⟩
end Go.Proofs.Ytkdkibnjfgcppaa.mi
