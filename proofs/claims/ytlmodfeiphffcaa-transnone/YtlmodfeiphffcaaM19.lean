/-
  Texts put together: Contracts over this program: trans.reached. Contracts over this program: trans.Bytes.
-/
import Derived.Test.YtlmodfeiphffcaaKAp
namespace Go.Proofs.Ytlmodfeiphffcaa.tr
open Go.ChangeShapes Go.WideShapes Go.ChangeAt Go.RowKit Go.Shelf
set_option linter.unusedVariables false

/-- a row of bools -/
def bcells (l : List Bool) : Array Value := (l.map fun x => Value.bool x).toArray
def BRow (w : World) (g : Nat) (l : List Bool) : Prop := w.heap[g]? = some (.cells (bcells l) 4 (0, 0))
section
variable {w w' : World} {g : Nat} {l : List Bool}
theorem BRow.lt (h : BRow w g l) : g < w.heap.size := (Array.getElem?_eq_some_iff.1 h).1
theorem BRow.keep (h : BRow w g l) (e : w'.heap[g]? = w.heap[g]?) : BRow w' g l := e.trans h
theorem BRow.cell (h : BRow w g l) (i : Nat) (hi : i < l.length) : w.cell? ⟨g, i, none⟩ = some (.bool l[i]) := by
  rw [Lib.cell_of_heap h]
  simp [bcells, hi]
theorem BRow.fz (h : BRow w g l) (i : Nat) : w.frozen? ⟨g, i, none⟩ = false := Lib.frozen_of_heap h i
theorem BRow.put (h : BRow w g l) (i : Nat) (x : Bool) : BRow (w.setCell ⟨g, i, none⟩ (.bool x)) g (l.set i x) := by
  unfold BRow
  rw [set_heap w g _ _ i _ h]
  congr 2
  simp [bcells]
end
theorem info4 : (Try.prog.info? 4).map (fun i => (i.zero, i.size, i.bytes)) = some (some (.bool false), 1, 1) := by kernel_rfl
theorem bcells_made (n : Nat) : madeCells #[.bool false] n = bcells (List.replicate n false) := by
  apply Array.toList_inj.1
  rw [toList_madeCells_one]
  simp [bcells]
theorem make127 (n : Nat) (hn : n ≤ 1000000) (W : World) : (Instr.makeSlice 127 (.int .i64 (n : Int)) (.int .i64 (n : Int))).run Try.prog W = .ok (.slice (some ⟨W.heap.size, 0, none⟩) n n) (W.alloc (.cells (bcells (List.replicate n false)) 4)) := by
  rw [← bcells_made]
  exact run_make_row' (P := Try.prog) 127 4 (.bool false) 1 Try.underlying127 info4 rfl .i64 .i64 n (by omega) (by omega) W

def icl (L : List Nat) : List Value := L.map fun n : Nat => Value.int .i64 (n : Int)
theorem icl_len (L : List Nat) : (icl L).length = L.length := by simp [icl]
theorem icl_one (L : List Nat) (x : Nat) : icl (L ++ [x]) = icl L ++ [.int .i64 (x : Int)] := by simp [icl]
structure Rq (w : World) (m : Mc) (p : Mp) (gn : Nat) (v : Value) (L : List Nat) (S : List Bool) (W : World) : Prop where
  be : Below w.heap.size w W
  bx : Box W w.heap.size m p
  own : W.ownsRow (w.heap.size + 1) 3 1 v L.length (icl L)
  sn : BRow W gn S
  gnl : w.heap.size < gn
  wl : w.heap.size + 1 ≤ W.heap.size
section
variable {w : World} {m : Mc} {p : Mp} {gn : Nat} {v : Value} {L : List Nat} {S : List Bool} {W : World}
theorem Rq.mark (h : Rq w m p gn v L S W) (i : Nat) (x : Bool) : Rq w m p gn v L (S.set i x) (W.setCell ⟨gn, i, none⟩ (.bool x)) :=
  ⟨h.be.setCell (p := ⟨gn, i, none⟩) (Nat.le_of_lt h.gnl) _, (Below.heap_setCell _ _ _ _ (show w.heap.size ≠ gn by have := h.gnl; omega)).trans h.bx, ow.keep h.own (fun g eg => Below.heap_setCell _ _ _ _ (fun e => by subst e; exact ow.type h.own h.sn (by decide) eg.symm)), h.sn.put i x, h.gnl, by have := h.wl; simpa [World.setCell] using this⟩
theorem Rq.drewN (h : Rq w m p gn v L S W) (n : Nat) : Rq w m p gn v L S (W.drewN n) := ⟨below_drewN h.be n, h.bx, h.own, h.sn, h.gnl, h.wl⟩
theorem Rq.cell (h : Rq w m p gn v L S W) {i : Nat} (hi : i < L.length) : ∃ g cap, v = .slice (some ⟨g, 0, none⟩) L.length cap ∧ W.cell? ⟨g, i, none⟩ = some (.int .i64 (L[i] : Nat)) := by
  obtain ⟨g, cap, e, _, hc⟩ := ow.cell h.own i (by rw [icl_len]; exact hi)
  exact ⟨g, cap, e, by rw [hc]; simp [icl]⟩
theorem Rq.more {W2 : World} {g' cap' x : Nat} (h : Rq w m p gn v L S W) (ho : W2.ownsRow (w.heap.size + 1) 3 1 (.slice (some ⟨g', 0, none⟩) (L.length + 1) cap') (L.length + 1) (icl L ++ [.int .i64 (x : Int)])) (hg : (W.alloc (.cells #[.int .i64 (x : Int)] 3)).grownBy W2 v.ownBlock) : Rq w m p gn (.slice (some ⟨g', 0, none⟩) (L.length + 1) cap') (L ++ [x]) S W2 := by
  have ba := below_alloc W (.cells #[.int .i64 (x : Int)] 3)
  have hne := ow.type h.own h.sn (by decide)
  have hgl := h.sn.lt
  have hwl := h.wl
  have hsz := ba.size
  have hxl := h.bx.lt
  refine ⟨(chain h.be ba).grown hg (by omega) (fun k hk => by have := (ow.lt h.own hk).1; omega), ?_, ?_, ?_, h.gnl, ?_⟩
  · have : W2.heap[w.heap.size]? = W.heap[w.heap.size]? := by
      rw [hg.block _ (by omega) (fun e => by have := (ow.lt h.own e.symm).1; omega), ba.block _ hxl]
    exact this.trans h.bx
  · rw [icl_one, List.length_append]
    exact ho
  · exact h.sn.keep (by rw [hg.block _ (by omega) hne, ba.block _ hgl])
  · have := hg.size; omega
end
structure Mr (m : Mc) (L : List Nat) (S : List Bool) : Prop where
  len : S.length = m.next.length
  iff : ∀ s, S[s]? = some true ↔ s ∈ L
  rch : ∀ s ∈ L, Rch m s
  cnt : L.length + S.count false = m.next.length
  head : L[0]? = some 0
theorem Mr.more {m : Mc} {L : List Nat} {S : List Bool} (h : Mr m L S) {x : Nat} (hx : x < S.length) (h0 : S[x] = false) (hr : Rch m x) : Mr m (L ++ [x]) (S.set x true) := by
  refine ⟨by rw [List.length_set]; exact h.len, fun s => ?_, fun s hs => ?_, ?_, ?_⟩
  · by_cases e : x = s
    · subst e
      rw [List.getElem?_set_self hx]
      simp
    · rw [List.getElem?_set_ne e, h.iff s, List.mem_append, List.mem_singleton]
      constructor
      · exact .inl
      · rintro (h | h)
        · exact h
        · exact (e h.symm).elim
  · rcases List.mem_append.1 hs with hs | hs
    · exact h.rch s hs
    · rw [List.mem_singleton.1 hs]; exact hr
  · rw [List.count_set hx, List.length_append]
    have h1 := h.cnt
    have h2 : 0 < S.count false := List.count_pos_iff.2 (h0 ▸ List.getElem_mem hx)
    simp [h0]
    omega
  · rw [List.getElem?_append_left (by have := (List.getElem?_eq_some_iff.1 h.head).1; omega)]
    exact h.head
theorem Mr.lt {m : Mc} {L : List Nat} {S : List Bool} (h : Mr m L S) (hR : Right m) {s : Nat} (hs : s ∈ L) : s < m.next.length := (h.rch s hs).lt hR
def Upo (m : Mc) (L : List Nat) (i b : Nat) : Prop := ∀ j c s, (j < i ∨ j = i ∧ c < b) → c < 256 → L[j]? = some s → nx m s c ∈ L
theorem Upo.more {m : Mc} {L : List Nat} {i b : Nat} (h : Upo m L i b) (hi : i < L.length) (x : Nat) : Upo m (L ++ [x]) i b := fun j c s hh hc hs => by
  rw [List.getElem?_append_left (by omega)] at hs
  exact List.mem_append_left _ (h j c s hh hc hs)
theorem Upo.step {m : Mc} {L : List Nat} {i b s : Nat} (h : Upo m L i b) (hs : L[i]? = some s) (hm : nx m s b ∈ L) : Upo m L i (b + 1) := fun j c s' hh hc hs' => by
  by_cases e : j = i ∧ c = b
  · obtain ⟨rfl, rfl⟩ := e
    rw [hs] at hs'
    cases hs'
    exact hm
  · exact h j c s' (by omega) hc hs'
theorem Upo.row {m : Mc} {L : List Nat} {i b : Nat} (h : Upo m L i b) (hb : 256 ≤ b) : Upo m L (i + 1) 0 := fun j c s hh hc hs => h j c s (by omega) hc hs
theorem Mr.all {m : Mc} {L : List Nat} {S : List Bool} (h : Mr m L S) (hu : Upo m L L.length 0) : ∀ s, Rch m s ↔ s ∈ L := by
  intro s
  constructor
  · intro r
    induction r with
    | zero => exact List.mem_of_getElem? h.head
    | step r hb ih =>
      obtain ⟨j, hj⟩ := List.mem_iff_getElem?.1 ih
      exact hu j _ _ (.inl (List.getElem?_eq_some_iff.1 hj).1) hb hj
  · exact h.rch s
def RqOut (m : Mc) (w : World) (e : Ending) (w' : World) : Prop := ∃ v L, e = .returned v ∧ w'.ownsRow (w.heap.size + 1) 3 1 v L.length (icl L) ∧ (∀ s, Rch m s ↔ s ∈ L) ∧ L[0]? = some 0 ∧ L.length ≤ 1200 ∧ Below w.heap.size w w'

set_option maxHeartbeats 4000000 in
set_option maxRecDepth 100000 in
theorem reached_any (m : Mc) (hR : Right m) (p : Mp) (w : World) (hM : MAt (In w) w m p) : Calls Try.prog 45 #[.agg (mv m p)] w (RqOut m w) := by
  have b0 := box_new w m p
  have B0 := below_alloc w (.cells (mv m p) 26)
  have hn1 := hR.one
  have hn4 := hR.most
  have HRR := (show Hid (Right m) from hR)
  have HML := (show Hid (∀ W, Below w.heap.size w W → MAt (Lo w.heap.size) W m p) from fun W b => hM.carry (fun k hk => b.block k hk) (fun _ h => h))
  have mk := make127 m.next.length (by omega)
  have nx0 := b0.c0
  have hfit := hM.rnx.fit
  have htop := hM.rnx.top
  have HA : Hid (Rq w m p (w.heap.size + 1 + 1) (.slice (some ⟨w.heap.size + 1, 0, none⟩) 1 1) [0] (List.replicate m.next.length false) (((w.alloc (.cells (mv m p) 26)).alloc (.cells #[.int .i64 0] 3)).alloc (.cells (bcells (List.replicate m.next.length false)) 4)).drew) :=
    ⟨(below3 w _ _ _).drew, heap3_old w _ _ _, ⟨rfl, .inr ⟨w.heap.size + 1, 1, #[.int .i64 0], rfl, Nat.le_refl _, heap3_mid w _ _ _, Nat.le_refl _, by unfold maxLen; omega, rfl, rfl⟩⟩, heap3 w _ _ _, by omega, by show _ ≤ (((w.alloc _).alloc _).alloc _).heap.size; rw [World.size_alloc, World.size_alloc, World.size_alloc]; omega⟩
  have HB : Hid (Rq w m p (w.heap.size + 1) (.slice (some ⟨w.heap.size + 1 + 1, 0, none⟩) 1 1) [0] (List.replicate m.next.length false) (((w.alloc (.cells (mv m p) 26)).alloc (.cells (bcells (List.replicate m.next.length false)) 4)).alloc (.cells #[.int .i64 0] 3)).drew) :=
    ⟨(below3 w _ _ _).drew, heap3_old w _ _ _, ⟨rfl, .inr ⟨w.heap.size + 1 + 1, 1, #[.int .i64 0], rfl, by omega, heap3 w _ _ _, Nat.le_refl _, by unfold maxLen; omega, rfl, rfl⟩⟩, heap3_mid w _ _ _, by omega, by show _ ≤ (((w.alloc _).alloc _).alloc _).heap.size; rw [World.size_alloc, World.size_alloc, World.size_alloc]; omega⟩
  have HM0 : Hid (Mr m [0] ((List.replicate m.next.length false).set 0 true)) := by
    refine ⟨by simp, fun s => ?_, fun s hs => ?_, ?_, rfl⟩
    · by_cases e : 0 = s
      · subst e
        rw [List.getElem?_set_self (by simp; omega)]
        simp
      · rw [List.getElem?_set_ne e, List.getElem?_replicate]
        constructor
        · intro h
          split at h <;> simp at h
        · intro h
          simp at h
          omega
    · simp at hs
      subst hs
      exact .zero
    · rw [List.count_set (by simp; omega)]
      simp
      omega
  clear b0 B0 hR hM
  obtain ⟨Wa, HWa⟩ : ∃ W, Hid (W = (((w.alloc (.cells (mv m p) 26)).alloc (.cells #[.int .i64 0] 3)).alloc (.cells (bcells (List.replicate m.next.length false)) 4)).drew) := ⟨_, rfl⟩
  obtain ⟨Wb, HWb⟩ : ∃ W, Hid (W = (((w.alloc (.cells (mv m p) 26)).alloc (.cells (bcells (List.replicate m.next.length false)) 4)).alloc (.cells #[.int .i64 0] 3)).drew) := ⟨_, rfl⟩
  rw [← HWa.out] at HA
  rw [← HWb.out] at HB
  go_enter Try.func45, Try.ntmps45
  go_wp2_with (fail)
  go_region_law (fail)
  all_goals
    first
    | (rw [← HWa.out]
       have HQ0 := HA
       clear HA HB HWa HWb
       obtain ⟨W0, rfl⟩ : ∃ W0 : World, W0 = Wa := ⟨_, rfl⟩
       generalize (w.heap.size + 1 + 1) = gn at *
       generalize (w.heap.size + 1) = gs at *)
    | (rw [← HWb.out]
       have HQ0 := HB
       clear HA HB HWa HWb
       obtain ⟨W0, rfl⟩ : ∃ W0 : World, W0 = Wb := ⟨_, rfl⟩
       generalize (w.heap.size + 1 + 1) = gs at *
       generalize (w.heap.size + 1) = gn at *)
    have q0 := HQ0.out.sn.cell 0 (by simp; omega)
    have q1 := HQ0.out.sn.fz 0
    have HQ1 : Hid _ := HQ0.out.mark 0 true
    rw [List.getElem_replicate] at q0
    clear HQ0 mk nx0
    go_wp2_with (fail)
    obtain ⟨S0, HS0⟩ : ∃ S0, Hid (S0 = (List.replicate m.next.length false).set 0 true) := ⟨_, rfl⟩
    rw [← HS0.out] at HQ1 HM0
    clear q0 q1 HS0
    generalize W0.setCell ⟨gn, 0, none⟩ (.bool true) = W1 at *
    go_loopw [3, 5] (fun y x wr => ∃ (i : Nat) (L : List Nat) (S : List Bool), x = .int .i64 i ∧ i ≤ L.length ∧ Hid (Rq w m p gn y L S wr) ∧ Hid (Mr m L S) ∧ Hid (Upo m L i 0)) (fun _ x _ => m.next.length - (intOf x).toNat)
    case atStart => exact ⟨0, [0], S0, rfl, by omega, HQ1, HM0, fun j c s hh hc hs => by omega⟩
    case round =>
      obtain ⟨i, L, S, rfl, hi, HQ, HMR, HU⟩ := hrel
      clear HQ1 HM0
      obtain ⟨yg, yc, hy, yb1, yb2⟩ := ow.form HQ.out.own
      subst hy
      have hLn : L.length ≤ m.next.length := by have := HMR.out.cnt; omega
      by_cases hend : i < L.length
      · obtain ⟨g, cap, he, hc⟩ := HQ.out.cell hend
        simp only [Value.slice.injEq, true_and] at he
        obtain ⟨rfl, rfl⟩ := he
        have hsm : L[i] ∈ L := List.getElem_mem hend
        have hsl := HMR.out.lt HRR.out hsm
        have HSR : Hid (Rch m L[i]) := HMR.out.rch _ hsm
        have HLI : Hid (L[i]? = some L[i]) := List.getElem?_eq_getElem hend
        obtain ⟨rb, roff, rb', roff', rci, hno, hrb, hrc, hrb', hrf, hrt, hrow⟩ := (HML.out wr HQ.out.be).next_all HRR.out hsl
        have HROW := (show Hid (∀ W : World, Below w.heap.size w W → ∀ c, c < 256 → W.cell? ⟨rb', roff' + c, none⟩ = some (.int .i64 (nx m L[i] c : Nat))) from fun W hb c hc => by
          have h1 := hrow c hc
          rw [HQ.out.be.cell (p := ⟨rb', roff' + c, none⟩) hrb'] at h1
          rw [hb.cell (p := ⟨rb', roff' + c, none⟩) hrb']
          exact h1)
        have k0 := HQ.out.bx.c0
        rw [hno] at k0
        have HSB : Hid (∀ b, b < 256 → nx m L[i] b < m.next.length ∧ Rch m (nx m L[i] b)) := fun b hb => ⟨HRR.out.nx_lt hsl hb, .step HSR.out hb⟩
        generalize L[i] = s at *
        clear hrow hno hsm
        go_wp2_with (fail)
        go_quiet (fail)
        go_wp2_with (fail)
        have HQd : Hid _ := HQ.out.drewN nq
        obtain ⟨w0, rfl⟩ : ∃ w0 : World, w0 = wr := ⟨_, rfl⟩
        go_loopw [3, 30] (fun y x wr => ∃ (b : Nat) (L' : List Nat) (S : List Bool), x = .int .i64 b ∧ b ≤ 256 ∧ i < L'.length ∧ Hid (L'[i]? = some s) ∧ Hid (Rq w m p gn y L' S wr) ∧ Hid (Mr m L' S) ∧ Hid (Upo m L' i b)) (fun _ x _ => 256 - (intOf x).toNat)
        case atStart => exact ⟨0, L, S, rfl, by omega, hend, HLI, HQd, HMR, HU⟩
        case round =>
          obtain ⟨b, L2, S2, rfl, hb, hil, HLI2, HQ2, HMR2, HU2⟩ := hrel
          clear HQd HQ HMR HU HLI hc k0 hrc
          obtain ⟨zg, zc, hz, zb1, zb2⟩ := ow.form HQ2.out.own
          subst hz
          have hLn2 : L2.length ≤ m.next.length := by have := HMR2.out.cnt; omega
          by_cases hbe : b < 256
          · have k2 := HROW.out wr HQ2.out.be b hbe
            have hjn := (HSB.out b hbe).1
            have HRJ : Hid (Rch m (nx m s b)) := (HSB.out b hbe).2
            have hSl := HMR2.out.len
            have k4 := HQ2.out.sn.cell (nx m s b) (by omega)
            have k5 := HQ2.out.sn.fz (nx m s b)
            have HST : Hid (∀ L S, L2 <+: L → Mr m L S → Upo m L i b → S[nx m s b]? = some true → Upo m L i (b + 1)) := fun L S hp hm hu h => hu.step (by
              obtain ⟨r, rfl⟩ := hp
              rw [List.getElem?_append_left hil]
              exact HLI2.out) ((hm.iff _).1 h)
            cases hv : S2[nx m s b] with
            | true =>
              have HU3 : Hid (Upo m L2 i (b + 1)) := HST.out L2 S2 (List.prefix_refl _) HMR2.out HU2.out (by rw [List.getElem?_eq_getElem (by omega), hv])
              rw [hv] at k4
              clear HST HU2 hv
              generalize nx m s b = j at *
              go_wp2_with (fail)
              go_roundw
              case rel => exact ⟨b + 1, L2, S2, by go_num, by omega, hil, HLI2, HQ2, HMR2, HU3⟩
              case measure => simp [intOf]; omega
            | false =>
              have HM3 : Hid (Mr m (L2 ++ [nx m s b]) (S2.set (nx m s b) true)) := HMR2.out.more (by omega) hv HRJ.out
              have HU3 : Hid (Upo m (L2 ++ [nx m s b]) i (b + 1)) := HST.out _ _ (List.prefix_append _ _) HM3.out (HU2.out.more hil _) (by rw [List.getElem?_set_self (by omega)])
              have HQ3 : Hid _ := HQ2.out.mark (nx m s b) true
              have HL3 : Hid ((L2 ++ [nx m s b])[i]? = some s) := by show _ = _; rw [List.getElem?_append_left hil]; exact HLI2.out
              rw [hv] at k4
              clear HST HU2 hv HRJ
              generalize nx m s b = j at *
              have hsz : (wr.setCell ⟨gn, j, none⟩ (.bool true)).heap.size = wr.heap.size := by simp [World.setCell]
              have HNW := (show Hid _ from ow.new1 (wr.setCell ⟨gn, j, none⟩ (.bool true)) (.int .i64 (j : Int)) 3)
              rw [hsz] at HNW
              have HOW := (show Hid _ from ow.later HQ3.out.own (below_alloc (wr.setCell ⟨gn, j, none⟩ (.bool true)) (.cells #[.int .i64 (j : Int)] 3)))
              have hwl : w.heap.size + 1 ≤ ((wr.setCell ⟨gn, j, none⟩ (.bool true)).alloc (.cells #[.int .i64 (j : Int)] 3)).heap.size := by have := HQ3.out.wl; rw [World.size_alloc]; omega
              clear hsz
              go_wp2_with (at_builtin; refine ow.wpList_append (by rfl) (.tmp 42) (.tmp 44) 23 (by rfl) 3 (.int .i64 0) 1 8 Try.underlying23 info3 (by rfl) (by decide) (by decide) (w.heap.size + 1) (.slice zg L2.length zc) L2.length (icl L2) wr.heap.size [.int .i64 (j : Int)] (by rfl) (by rfl) (by exact HOW.out) (by rfl) (by exact HNW.out) (by exact ow.one1 _ rfl) (by omega) (by exact hwl) ?_; intro g' cap' w12 ho hgr _)
              have HQ4 : Hid _ := HQ3.out.more ho hgr
              go_roundw
              case rel => exact ⟨b + 1, L2 ++ [j], S2.set j true, by go_num, by omega, by rw [List.length_append]; omega, HL3, HQ4, HM3, HU3⟩
              case measure => simp [intOf]; omega
          · have HU3 : Hid (Upo m L2 (i + 1) 0) := HU2.out.row (by omega)
            go_wp2_with (fail)
            go_roundw
            case rel => exact ⟨i + 1, L2, S2, by go_num, by omega, HQ2, HMR2, HU3⟩
            case measure => simp [intOf]; omega
      · have HAL : Hid (∀ s, Rch m s ↔ s ∈ L) := HMR.out.all (by have h := HU.out; rw [show i = L.length by omega] at h; exact h)
        have hz : decide (i < L.length) = false := decide_eq_false hend
        go_wp2_with (fail)
        go_ret
        exact ⟨_, L, rfl, HQ.out.own, HAL.out, HMR.out.head, by omega, HQ.out.be⟩
end Go.Proofs.Ytlmodfeiphffcaa.tr

namespace Go.Proofs.Ytlmodfeiphffcaa.tr
open Go.ChangeShapes Go.WideShapes Go.ChangeAt Go.RowKit Go.Shelf
set_option linter.unusedVariables false

theorem load_if {P : Program} {ops : Array Oper} {rest : List Oper} {o : Oper} {a : Act} {w : World} {Q : Exit → Act → World → Prop} (hw : Region.wanted o (yielded ops a.tmps) = true) (ty : TypeId) (x : Operand) (ho : o.op = .load ty x)
    (g : Nat) (hx : a.eval x = .pointer (some ⟨g, 0, none⟩)) (t : TypeId) (cs : Array Value) (fr : Nat × Nat) (d : TypeDesc) (hg : w.heap[g]? = some (.cells cs t fr))
    (hu : P.underlying ty = some d) (hd : (match d with | .struct _ | .array _ _ => true | _ => false) = true) (hi : (P.info? ty).map (·.size) = some cs.size)
    (h : wpList P ops Q rest (a.put o.dst (.agg cs)) w) : wpList P ops Q (o :: rest) a w :=
  wpList_step fun K hK => by rw [if_pos hw]; exact wp_load_row ty x ho g hx t cs fr d hg hu hd hi (hK _ _ h)
def BytOut (m : Mc) (w : World) (e : Ending) (w' : World) : Prop := ∃ xs ok, e = .returned (.tuple #[.agg (cells48 xs), .bool ok]) ∧ xs.length = 256 ∧ (ok = true → right m = true ∧ One m ∧ xs = fb m 0) ∧ (ok = false → ¬ (right m = true ∧ One m)) ∧ Below w.heap.size w w'
/-- what stands while Bytes goes on -/
structure Bq (w : World) (m : Mc) (p : Mp) (g2 : Nat) (xs : List Nat) (v : Value) (L : List Nat) (W : World) : Prop where
  be : Below w.heap.size w W
  bx : Box W w.heap.size m p
  res : Arr W (w.heap.size + 1) noughts
  to : Arr W g2 xs
  own : W.ownsRow (g2 + 1) 3 1 v L.length (icl L)
  gl : w.heap.size + 1 < g2
section
variable {w : World} {m : Mc} {p : Mp} {g2 : Nat} {xs : List Nat} {v : Value} {L : List Nat} {W : World}
theorem Bq.later {W' : World} (h : Bq w m p g2 xs v L W) (b : Below W.heap.size W W') : Bq w m p g2 xs v L W' :=
  ⟨chain h.be b, h.bx.later b, h.res.later b h.res.lt, h.to.later b h.to.lt, ow.later h.own b, h.gl⟩
theorem Bq.row (h : Bq w m p g2 xs v L W) {ys : List Nat} (hy : ys.length = 256) : Bq w m p g2 ys v L (W.setRow g2 (cells48 ys)) := by
  have hg := h.gl
  refine ⟨below_setRow h.be (by omega) _, ?_, h.res.row_other (by omega) _, h.to.row hy, ow.keep h.own (fun g eg => setRow_other _ _ _ _ (by have := (ow.lt h.own eg).1; omega)), h.gl⟩
  unfold Box
  rw [setRow_other _ _ _ _ (by omega)]
  exact h.bx
theorem Bq.cell (h : Bq w m p g2 xs v L W) {i : Nat} (hi : i < L.length) : ∃ g cap, v = .slice (some ⟨g, 0, none⟩) L.length cap ∧ W.cell? ⟨g, i, none⟩ = some (.int .i64 (L[i] : Nat)) := by
  obtain ⟨g, cap, e, _, hc⟩ := ow.cell h.own i (by rw [icl_len]; exact hi)
  exact ⟨g, cap, e, by rw [hc]; simp [icl]⟩
end
theorem fb_len (m : Mc) (s : Nat) : (fb m s).length = 256 := tb_len _ _
set_option maxHeartbeats 4000000 in
set_option maxRecDepth 100000 in
theorem bytes_any (m : Mc) (p : Mp) (w : World) (hM : MAt (In w) w m p) : Calls Try.prog 22 #[.agg (mv m p)] w (BytOut m w) := by
  have hz := zero48
  have hcs := cells48_size noughts noughts_len
  obtain ⟨wA, HWA⟩ : ∃ wA, Hid (wA = (w.alloc (.cells (mv m p) 26)).alloc (.cells (cells48 noughts) 48)) := ⟨_, rfl⟩
  have B0 : Below w.heap.size w wA := by rw [HWA.out]; exact chain (below_alloc w _) (below_alloc _ _)
  have hMA : MAt (In wA) wA m p := hM.later B0
  have hXA : Box wA w.heap.size m p := by rw [HWA.out]; exact (box_new w m p).later (below_alloc _ _)
  have hrA : Arr wA (w.heap.size + 1) noughts := by
    rw [HWA.out]
    have := heap_alloc_new (w.alloc (.cells (mv m p) 26)) (.cells (cells48 noughts) 48)
    rw [World.size_alloc] at this
    exact ⟨this, noughts_len⟩
  have HK : Hid (∀ W, Below wA.heap.size wA W → Box W w.heap.size m p ∧ MAt (In W) W m p ∧ Arr W (w.heap.size + 1) noughts ∧ Below w.heap.size w W) := fun W b => ⟨hXA.later b, hMA.later b, hrA.later b hrA.lt, chain B0 b⟩
  have c9 := right_any m _ rfl p wA hMA
  have X0 := hXA
  unfold Box at X0
  rw [HWA.out] at c9 X0
  have hlA : w.heap.size + 1 < wA.heap.size := hrA.lt
  have HML : Hid (∀ W, Below w.heap.size w W → MAt (In W) W m p) := fun W b => hM.later b
  clear hM hMA hXA hrA B0
  cases hr : right m with
  | false =>
    rw [hr] at c9
    have HNR : Hid (right m = false) := hr
    clear hr
    go_enter Try.func22, Try.ntmps22
    go_wp2_with (first | (refine wpList_load_row rfl 26 (.tmp 1) rfl w.heap.size rfl 26 (mv m p) (0, 0) _ X0 Try.underlying26 rfl info26 ?_) | (go_at_call 9; refine c9.mono ?_; rintro e w1 ⟨rfl, b1⟩; rw [← HWA.out] at b1; obtain ⟨X1, M1, R1, L1⟩ := HK.out w1 b1) | (refine wpList_store_row rfl 48 (.tmp 2) (.tmp 12) rfl (w.heap.size + 1) (cells48 noughts) rfl rfl 48 _ R1.1 (info48 _ noughts_len) (by rfl) (cells48_one _) ?_))
    refine ret48 Try.results22 (w.heap.size + 1) noughts false rfl (R1.row noughts_len) rfl rfl ?_
    exact ⟨noughts, false, rfl, noughts_len, (fun h => by cases h), (fun _ h => by rw [HNR.out] at h; cases h.1), below_setRow L1 (by omega) _⟩
  | true =>
    rw [hr] at c9
    have hR := right_iff.1 hr
    have HRR : Hid (right m = true) := hr
    have hq := reached_any m hR p
    clear hr
    go_enter Try.func22, Try.ntmps22
    go_wp2_with (first | (refine wpList_load_row rfl 26 (.tmp 1) rfl w.heap.size rfl 26 (mv m p) (0, 0) _ X0 Try.underlying26 rfl info26 ?_) | (go_at_call 9; refine c9.mono ?_; rintro e w1 ⟨rfl, b1⟩; rw [← HWA.out] at b1; have ba := chain b1 (below_alloc w1 (.cells (cells48 noughts) 48)); obtain ⟨X1, M1, R1, L1⟩ := HK.out _ ba; have c47 := hq _ M1; unfold Box at X1) | (refine wpList_load_row rfl 26 (.tmp 1) rfl w.heap.size rfl 26 (mv m p) (0, 0) _ X1 Try.underlying26 rfl info26 ?_))
    go_at_call 45
    refine c47.mono ?_
    rintro e w2 ⟨v, L, rfl, hown, hiff, hhd, hlen, b2⟩
    have hw1 : wA.heap.size ≤ w1.heap.size := b1.size
    have HB0 : Hid (Bq w m p w1.heap.size noughts v L w2) := by
      obtain ⟨X2, M2, R2, L2⟩ := HK.out _ (chain ba b2)
      refine ⟨L2, X2, R2, ?_, ?_, by omega⟩
      · have h := heap_alloc_new w1 (.cells (cells48 noughts) 48)
        exact ⟨by rw [b2.block _ (by rw [World.size_alloc]; omega)]; exact h, noughts_len⟩
      · rw [World.size_alloc] at hown
        exact ⟨hown.1, by
          rcases hown.2 with h0 | ⟨g, cap, cur, h1, h2, h3⟩
          · exact .inl h0
          · exact .inr ⟨g, cap, cur, h1, by omega, h3⟩⟩
    have HIF : Hid (∀ s, Rch m s ↔ s ∈ L) := hiff
    have HHD : Hid (L[0]? = some 0) := hhd
    have hl0 : 0 < L.length := (List.getElem?_eq_some_iff.1 hhd).1
    obtain ⟨vg, vc, hv, vb1, vb2⟩ := ow.form HB0.out.own
    subst hv
    have hsg := fun s hs => singles_any m hR s hs
    clear hown hiff hhd b2 c47 X1 M1 R1 L1 ba
    obtain ⟨g2, hg2⟩ : ∃ g2, g2 = w1.heap.size := ⟨_, rfl⟩
    go_wp2_with (fail)
    rw [← hg2]
    rw [← hg2] at HB0
    clear hg2
    go_loopw [16] (fun x wr => ∃ (i : Nat) (ys : List Nat), x = .int .i64 i ∧ i ≤ L.length ∧ Hid (Bq w m p g2 ys (.slice vg L.length vc) L wr) ∧ Hid (0 < i → ys = fb m 0) ∧ Hid (∀ j s, j < i → L[j]? = some s → Sg m s ∧ fb m s = fb m 0)) (fun x _ => L.length - (intOf x).toNat)
    case atStart => exact ⟨0, noughts, rfl, by omega, HB0, fun h => by omega, fun j s hj => by omega⟩
    case round =>
      obtain ⟨i, ys, rfl, hi, HB, HY, HD⟩ := hrel
      clear HB0
      by_cases hend : i < L.length
      · obtain ⟨g, cap, he, hc⟩ := HB.out.cell hend
        simp only [Value.slice.injEq, true_and] at he
        obtain ⟨rfl, rfl⟩ := he
        have hsm : L[i] ∈ L := List.getElem_mem hend
        have HSR : Hid (Rch m L[i]) := (HIF.out _).2 hsm
        have hsl := HSR.out.lt hR
        have HLI : Hid (L[i]? = some L[i]) := List.getElem?_eq_getElem hend
        have c48 := hsg L[i] hsl p wr (HML.out wr HB.out.be)
        have X3 := HB.out.bx
        unfold Box at X3
        generalize hs0 : L[i] = s at *
        have HI0 : Hid (i = 0 → s = 0) := fun h => by
          subst h
          have h1 := HLI.out
          rw [HHD.out] at h1
          exact (Option.some.inj h1).symm
        clear hs0 hsm
        go_wp2_with (first | (refine wpList_load_row rfl 26 (.tmp 1) rfl w.heap.size rfl 26 (mv m p) (0, 0) _ X3 Try.underlying26 rfl info26 ?_))
        go_at_call 46
        refine c48.mono ?_
        rintro e w3 ⟨xs, ok, rfl, hxl, hok1, hok0, b3⟩
        have hst := store_new w3 noughts xs noughts_len hxl
        have hcx := cells48_size xs hxl
        have ba := chain b3 (below_alloc w3 (.cells (cells48 xs) 48))
        have HB4 : Hid _ := HB.out.later ba
        have hA7 : Arr (w3.alloc (.cells (cells48 xs) 48)) w3.heap.size xs := ⟨heap_alloc_new w3 _, hxl⟩
        have R4 := HB4.out.res
        have T4 := HB4.out.to
        clear c48 X3 hc ba
        cases ok with
        | false =>
          have HNS : Hid (¬ Sg m s) := hok0 rfl
          clear hok1 hok0
          go_wp2_with (refine wpList_store_row rfl 48 (.tmp 2) (.tmp 38) rfl (w.heap.size + 1) (cells48 noughts) rfl rfl 48 _ R4.1 (info48 _ noughts_len) (by rfl) (cells48_one _) ?_)
          refine ret48 Try.results22 (w.heap.size + 1) noughts false rfl (R4.row noughts_len) rfl rfl ?_
          exact ⟨noughts, false, rfl, noughts_len, (fun h => by cases h), (fun _ h => HNS.out (h.2 s HSR.out).1), below_setRow HB4.out.be (by omega) _⟩
        | true =>
          obtain ⟨hsgs, rfl⟩ := hok1 rfl
          have HSG : Hid (Sg m s) := hsgs
          clear hok0 hok1 hsgs
          by_cases hi0 : i = 0
          · obtain rfl := HI0.out hi0
            subst hi0
            have HB5 : Hid _ := HB4.out.row hxl
            have HD5 : Hid (∀ j s, j < 0 + 1 → L[j]? = some s → Sg m s ∧ fb m s = fb m 0) := fun j s hj hs => by
              obtain rfl : j = 0 := by omega
              rw [HLI.out] at hs
              cases hs
              exact ⟨HSG.out, rfl⟩
            clear HY
            go_wp2_with (first | (refine wpList_load_row rfl 48 (.tmp 7) rfl w3.heap.size rfl 48 (cells48 (fb m 0)) (0, 0) _ hA7.1 Try.underlying48 rfl (info48 _ hxl) ?_) | (refine wpList_store_row rfl 48 (.tmp 4) (.tmp 39) rfl g2 (cells48 (fb m 0)) rfl rfl 48 _ T4.1 (info48 _ hxl) (by rw [cells48_size _ T4.2, cells48_size _ hxl]) (cells48_one _) ?_))
            go_roundw
            case rel => exact ⟨0 + 1, fb m 0, by go_num, by omega, HB5, (fun _ => rfl), HD5⟩
            case measure => simp [intOf]; omega
          · obtain rfl := HY.out (by omega)
            have fi : (0 : Int) < (i : Int) := by omega
            have fi2 : 0 < i := by omega
            have heq := eq48 (fb m s) (fb m 0) hxl T4.2
            clear hi0 HI0 HY
            by_cases hxy : fb m s = fb m 0
            · rw [decide_eq_true hxy] at heq
              have HXY : Hid (fb m s = fb m 0) := hxy
              have HB5 : Hid _ := HB4.out.row hxl
              have HD5 : Hid (∀ j s, j < i + 1 → L[j]? = some s → Sg m s ∧ fb m s = fb m 0) := fun j s' hj hs => by
                by_cases e : j = i
                · subst e
                  rw [HLI.out] at hs
                  cases hs
                  exact ⟨HSG.out, HXY.out⟩
                · exact HD.out j s' (by omega) hs
              clear hxy HD
              generalize hzs : fb m s = zs at *
              have HZS : Hid (zs = fb m 0) := HXY
              clear hzs
              obtain ⟨z0, HZ0⟩ : ∃ z0, Hid (z0 = fb m 0) := ⟨_, rfl⟩
              rw [← HZ0.out] at T4 heq HZS HD5
              go_wp2_with (first | (refine load_if (by kernel_rfl) 48 (.tmp 7) rfl w3.heap.size rfl 48 (cells48 zs) (0, 0) _ hA7.1 Try.underlying48 rfl (info48 _ hxl) ?_) | (refine load_if (by kernel_rfl) 48 (.tmp 4) rfl g2 rfl 48 (cells48 z0) (0, 0) _ T4.1 Try.underlying48 rfl (info48 _ T4.2) ?_) | (refine wpList_load_row rfl 48 (.tmp 7) rfl w3.heap.size rfl 48 (cells48 zs) (0, 0) _ hA7.1 Try.underlying48 rfl (info48 _ hxl) ?_) | (refine wpList_store_row rfl 48 (.tmp 4) (.tmp 39) rfl g2 (cells48 zs) rfl rfl 48 _ T4.1 (info48 _ hxl) (by rw [cells48_size _ T4.2, cells48_size _ hxl]) (cells48_one _) ?_))
              go_roundw
              case rel => exact ⟨i + 1, zs, by go_num, by omega, HB5, (fun _ => HZS.out.trans HZ0.out), by rw [← HZ0.out]; exact HD5⟩
              case measure => simp [intOf]; omega
            · rw [decide_eq_false hxy] at heq
              have HNO : Hid (¬ One m) := fun h => hxy (h s HSR.out).2
              clear hxy
              generalize fb m s = zs at *
              generalize fb m 0 = z0 at *
              go_wp2_with (first | (refine load_if (by kernel_rfl) 48 (.tmp 7) rfl w3.heap.size rfl 48 (cells48 zs) (0, 0) _ hA7.1 Try.underlying48 rfl (info48 _ hxl) ?_) | (refine load_if (by kernel_rfl) 48 (.tmp 4) rfl g2 rfl 48 (cells48 z0) (0, 0) _ T4.1 Try.underlying48 rfl (info48 _ T4.2) ?_) | (refine wpList_store_row rfl 48 (.tmp 2) (.tmp 38) rfl (w.heap.size + 1) (cells48 noughts) rfl rfl 48 _ R4.1 (info48 _ noughts_len) (by rfl) (cells48_one _) ?_))
              refine ret48 Try.results22 (w.heap.size + 1) noughts false rfl (R4.row noughts_len) rfl rfl ?_
              exact ⟨noughts, false, rfl, noughts_len, (fun h => by cases h), (fun _ h => HNO.out h.2), below_setRow HB4.out.be (by omega) _⟩
      · have HON : Hid (One m) := fun s hs => by
          obtain ⟨j, hj⟩ := List.mem_iff_getElem?.1 ((HIF.out s).1 hs)
          exact HD.out j s (by have := (List.getElem?_eq_some_iff.1 hj).1; omega) hj
        obtain rfl := HY.out (by omega)
        have T4 := HB.out.to
        have R4 := HB.out.res
        have hz1 : decide (i < L.length) = false := decide_eq_false hend
        clear HD HY
        go_wp2_with (first | (refine wpList_load_row rfl 48 (.tmp 4) rfl g2 rfl 48 (cells48 (fb m 0)) (0, 0) _ T4.1 Try.underlying48 rfl (info48 _ T4.2) ?_) | (refine wpList_store_row rfl 48 (.tmp 2) (.tmp 41) rfl (w.heap.size + 1) (cells48 (fb m 0)) rfl rfl 48 _ R4.1 (info48 _ T4.2) (by rw [cells48_size _ R4.2, cells48_size _ T4.2]) (cells48_one _) ?_))
        refine ret48 Try.results22 (w.heap.size + 1) (fb m 0) true rfl (R4.row T4.2) rfl rfl ?_
        exact ⟨fb m 0, true, rfl, T4.2, (fun _ => ⟨HRR.out, HON.out, rfl⟩), (fun h => by cases h), below_setRow HB.out.be (by omega) _⟩
end Go.Proofs.Ytlmodfeiphffcaa.tr
